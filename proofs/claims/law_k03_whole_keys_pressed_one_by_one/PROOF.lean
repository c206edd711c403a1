import PyProof.Rows.All
import Wide.All
import OpenK.AllK
import Wide.FinOn
import Lean
import PyProof.EqAt
import PyProof.EqKinds
import PyProof.TupleCall
import PyProof.Draws
import PyProof.EnumMake
import PyProof.ListRange
import PyProof.Rows.CountFlat
import PySem.Challenge.RW_signbench_k03_whole_keys_pressed_one_by
set_option Elab.async false
set_option linter.all false
set_option maxRecDepth 100000
namespace L2
open PySem PySem.Spec PyProof.Rows
noncomputable abbrev Key:=Sum Int Str
noncomputable def keyIs : Key→Value→Bool
  | .inl k,v => Value.isInt k v
  | .inr x,v => Value.isStrOf x v
noncomputable def keyH (w : World) : Key→Int
  | .inl k => hashInt k
  | .inr x => hashStr w x
theorem keyIs_shape : ∀ {k : Key} {v : Value},keyIs k v=true→(∃ i t,k=Sum.inl i∧v=Value.int i t)∨(∃ x t,k=Sum.inr x∧v=Value.str x t)
  | .inl i,v,h => by
    obtain ⟨t,e⟩:=Value.isInt_shape (k:=i) (v:=v) h
    exact .inl ⟨i,t,rfl,e⟩
  | .inr x,v,h => by
    obtain ⟨t,e⟩:=Value.isStrOf_shape (x:=x) (v:=v) h
    exact .inr ⟨x,t,rfl,e⟩
theorem keyIs_int (i : Int) (t : Tok) : keyIs (.inl i) (.int i t)=true:=by simp [keyIs,Value.isInt]
theorem keyIs_str (x : Str) (t : Tok) : keyIs (.inr x) (.str x t)=true:=by simp [keyIs,Value.isStrOf]
theorem key_ll (a b : Int) : decide ((Sum.inl a : Key)=Sum.inl b)=(a == b):=by
  by_cases e : a=b
  · subst e; simp
  · have h : ¬ (Sum.inl a : Key)=Sum.inl b:=fun q => e (Sum.inl.inj q)
    rw [decide_eq_false h]
    exact (beq_eq_false_iff_ne.mpr e).symm
theorem key_rr (a b : Str) : decide ((Sum.inr a : Key)=Sum.inr b)=decide (a=b):=by
  by_cases e : a=b
  · subst e; simp
  · have h : ¬ (Sum.inr a : Key)=Sum.inr b:=fun q => e (Sum.inr.inj q)
    rw [decide_eq_false h,decide_eq_false e]
theorem key_lr (a : Int) (b : Str) : decide ((Sum.inl a : Key)=Sum.inr b)=false:=decide_eq_false (fun q => nomatch q)
theorem key_rl (a : Str) (b : Int) : decide ((Sum.inr a : Key)=Sum.inl b)=false:=decide_eq_false (fun q => nomatch q)
noncomputable def mixKind (prog : Program) (w : World) : PySem.KeyKind prog w Key where
  is:=keyIs
  hash:=keyH w
  inj:=fun v a b ha hb => by
    rcases keyIs_shape ha with ⟨i,t,rfl,rfl⟩ | ⟨x,t,rfl,rfl⟩
    · rcases keyIs_shape hb with ⟨j,u,rfl,e⟩ | ⟨y,u,rfl,e⟩
      · injection e with e1 _; rw [e1]
      · exact nomatch e
    · rcases keyIs_shape hb with ⟨j,u,rfl,e⟩ | ⟨y,u,rfl,e⟩
      · exact nomatch e
      · injection e with e1 _; rw [e1]
  byValue:=fun k v h => by
    rcases keyIs_shape h with ⟨i,t,rfl,rfl⟩ | ⟨x,t,rfl,rfl⟩ <;> rfl
  pyHash:=fun hv h => by
    rcases keyIs_shape hv with ⟨i,t,rfl,rfl⟩ | ⟨x,t,rfl,rfl⟩
    · exact wpAny_pyHash_int h
    · exact wpAny_pyHash_str h
  eqBool:=fun hu hv h => by
    rcases keyIs_shape hu with ⟨i,t,rfl,rfl⟩ | ⟨x,t,rfl,rfl⟩
    · rcases keyIs_shape hv with ⟨j,u,rfl,rfl⟩ | ⟨y,u,rfl,rfl⟩
      · rw [key_ll] at h; exact wpAny_eqBool_int h
      · rw [key_lr] at h; exact SeqAt.EqAt.int_str i t y u _ _ _ _ h
    · rcases keyIs_shape hv with ⟨j,u,rfl,rfl⟩ | ⟨y,u,rfl,rfl⟩
      · rw [key_rl] at h; exact SeqAt.EqAt.str_int x t j u _ _ _ _ h
      · rw [key_rr] at h; exact wpAny_eqBool_str h
  «strs»:=fun k x t v h => by
    rcases keyIs_shape h with ⟨i,u,rfl,e⟩ | ⟨y,u,rfl,e⟩
    · exact nomatch e
    · injection e with e1 _
      subst e1
      cases v <;> rfl
theorem mixKind_int (prog : Program) (w : World) (i : Int) (t : Tok) : (mixKind prog w).is (.inl i) (.int i t)=true:=keyIs_int i t
theorem mixKind_str (prog : Program) (w : World) (x : Str) (t : Tok) : (mixKind prog w).is (.inr x) (.str x t)=true:=keyIs_str x t
end L2
namespace L2
open PySem PySem.Spec PyProof.Rows
inductive V where
  | non | bl (b : Bool) | int (i : Int) | str (x : Str) | byt (b : Array UInt8) | flt (b : UInt64) | ref (a : Addr) | ty (n : String)
  deriving DecidableEq
noncomputable def RelV : V→Value→Prop
  | .non,u => u=Value.none
  | .bl b,u => u=Value.bool b
  | .int i,u => ∃ t,u=Value.int i t
  | .str x,u => ∃ t,u=Value.str x t
  | .byt b,u => ∃ t,u=Value.bytes b t
  | .flt b,u => ∃ t,u=Value.float b t
  | .ref a,u => u=Value.ref a
  | .ty n,u => u=Value.type n
noncomputable abbrev Vals : List V→List Value→Prop:=Paired RelV
theorem Vals.length {xs : List V} {us : List Value} (r : Vals xs us) : xs.length=us.length:=Paired.length r
theorem Vals.get : ∀ {xs : List V} {us : List Value} {i : Nat} {x : V},Vals xs us→xs[i]?=some x→∃ u,us[i]?=some u∧RelV x u
  | _,_,_,_,.nil,e => by simp at e
  | _,_,0,_,.cons r _,e => by simp at e; subst e; exact ⟨_,rfl,r⟩
  | _,_,i+1,x,.cons _ t,e => by
    obtain ⟨u,h1,h2⟩:=Vals.get (i:=i) (x:=x) t (by simpa using e)
    exact ⟨u,by simpa using h1,h2⟩
theorem Vals.set {x : V} {u : Value} (r : RelV x u) : ∀ {xs : List V} {us : List Value} (i : Nat),Vals xs us→Vals (xs.set i x) (us.set i u)
  | _,_,_,.nil => .nil
  | _,_,0,.cons _ t => .cons r t
  | _,_,i+1,.cons q t => .cons q (Vals.set r i t)
theorem Vals.append : ∀ {xs ys : List V} {us ws : List Value},Vals xs us→Vals ys ws→Vals (xs++ys) (us++ws)
  | _,_,_,_,.nil,s => s
  | _,_,_,_,.cons r t,s => .cons r (Vals.append t s)
theorem Vals.take : ∀ {xs : List V} {us : List Value} (n : Nat),Vals xs us→Vals (xs.take n) (us.take n)
  | _,_,0,_ => .nil
  | _,_,_+1,.nil => .nil
  | _,_,n+1,.cons r t => .cons r (Vals.take n t)
theorem Vals.drop : ∀ {xs : List V} {us : List Value} (n : Nat),Vals xs us→Vals (xs.drop n) (us.drop n)
  | _,_,0,r => r
  | _,_,_+1,.nil => .nil
  | _,_,n+1,.cons _ t => Vals.drop n t
noncomputable def RelO : Option V→Option Value→Prop
  | some v,some u => RelV v u
  | none,none => True
  | _,_ => False
noncomputable def KV {κ : Type} : List (κ×V)→List (κ×Value)→Prop:=Paired fun (p : κ×V) (q : κ×Value) => p.1=q.1∧RelV p.2 q.2
noncomputable def kV : Key→V
  | .inl i => .int i
  | .inr x => .str x
inductive HO where
  | lst (xs : List V)
  | tup (xs : List V)
  | dK (kvs : List (Key×V)) | dT (kvs : List (List Key×V))
  | set (S : Int→Bool) (n : Nat)
  | ins (C dx : Addr) (fs : List (Str×V))
  | own (x : Addr)
  | xd (fs : List (Str×V))
  | met (f x : Addr)
  | rng (lo hi : Int)
  | frz (o : Obj) (u : HO)
  | tbl (ps : Array Value)
  | ext (φ : Heap→Prop)
noncomputable abbrev Hp:=Addr→Option HO
noncomputable def upd (H : Hp) (a : Addr) (o : HO) : Hp:=fun b => if b=a then some o else H b
theorem upd_same {H : Hp} {a : Addr} {o : HO} : upd H a o a=some o:=by unfold upd; rw [if_pos rfl]
theorem upd_ne {H : Hp} {a b : Addr} {o : HO} (h : b≠a) : upd H a o b=H b:=by unfold upd; rw [if_neg h]
theorem ne_of {H : Hp} {a b : Addr} {o u : HO} (h : H a=some o) (h' : H b=some u) (d : o≠u) : a≠b:=by
  intro e; subst e; rw [h] at h'; exact d (Option.some.inj h')
theorem ne_of_none {H : Hp} {a b : Addr} {o : HO} (h : H a=some o) (h' : H b=none) : a≠b:=by
  intro e; subst e; rw [h] at h'; cases h'
section
variable (P : Program) (w : World)
noncomputable def ObjOk (H : Hp) (h : Heap) (a : Addr) : HO→Prop
  | .lst xs => xs.length ≤ sizeLine ∧ ∃ (its : List Value) (n : Nat), Vals xs its ∧ h.get? a = some { cls := .type "list", data := .seq its.toArray n }
  | .tup xs => xs.length≤sizeLine∧∃ its : List Value,Vals xs its∧IsTup h a its.toArray
  | .dK kvs => kvs.length≤sizeLine∧(a == sysModules)=false∧∃ vs,KV kvs vs∧h.DictOf (mixKind P w) a vs
  | .dT kvs => kvs.length≤sizeLine∧(a == sysModules)=false∧∃ xs : List (List Key×Addr×Value),
      Paired (fun (p : List Key×V) (q : List Key×Addr×Value) => p.1=q.1∧H q.2.1=some (.tup (p.1.map kV))∧RelV p.2 q.2.2) kvs xs ∧
      ∃ o es ep,h.get? a=some o∧o.ExactDict∧o.data=.dict es ep∧es.toList=xs.map (entryOfKey (tupleKind (mixKind P w)))∧(xs.map (·.1)).Nodup
  | .set S n => h.SetOf (intKind P w) a S n
  | .ins C dx fs => H dx=some (.own a)∧fs.length≤1000∧dx≠a∧h.get? a=some (PySem.W.instObj C dx) ∧
      ∃ mA,h.Ns1 dx mA∧(∀ f,RelO (fs.lookup f) (mA f))∧PySem.Within mA (fs.map (·.1))
  | .own _ => ∃ o,h.get? a=some o
  | .xd fs => ∃ mA,h.Ns1 a mA∧∀ f,RelO (fs.lookup f) (mA f)
  | .rng lo hi => ∃ t u v, h.get? a = some { cls := .type "range", data := .fields #[.int lo t, .int hi u, .int 1 v] }
  | .frz o u => h.get? a=some o∧ObjOk H h a u
  | .tbl ps => h.get? a=some { cls:=.none,data:=.fields ps }
  | .met f x => h.get? a=some (PySem.W.methodObj (.ref f) (.ref x))
  | .ext φ => φ h∧(∃ o,h.get? a=some o)∧∀ h1 h2 : Heap,φ h1→(∀ o,h1.get? a=some o→h2.get? a=some o)→φ h2
noncomputable def HOk (H : Hp) (h : Heap) : Prop:=∀ a o,H a=some o→ObjOk P w H h a o
end
section
variable {P : Program} {w : World} {H H' : Hp} {h h' : Heap} {a : Addr} {o : HO}
theorem ObjOk.lt (x : ObjOk P w H h a o) : a < h.objs.size:=by
  cases o with
  | lst xs => obtain ⟨_,_,_,_,e⟩:=x; exact Heap.lt_size e
  | tup xs => obtain ⟨_,_,_,p⟩:=x; exact p.lt
  | dK kvs => obtain ⟨_,_,_,_,o,_,_,e,_⟩:=x; exact Heap.lt_size e
  | dT kvs => obtain ⟨_,_,_,_,o,_,_,e,_⟩:=x; exact Heap.lt_size e
  | set S n => obtain ⟨o,_,_,_,e,_⟩:=x; exact Heap.lt_size e
  | ins C dx fs => obtain ⟨_,_,_,e,_⟩:=x; exact Heap.lt_size e
  | own y => obtain ⟨_,e⟩:=x; exact Heap.lt_size e
  | xd fs => obtain ⟨_,⟨_,_,_,e,_⟩,_⟩:=x; exact Heap.lt_size e
  | rng lo hi => obtain ⟨_,_,_,e⟩:=x; exact Heap.lt_size e
  | frz ob u => obtain ⟨e,_⟩:=x; exact Heap.lt_size e
  | tbl ps => exact Heap.lt_size (show h.get? a=some _ from x)
  | met f y => exact Heap.lt_size (show h.get? a=some _ from x)
  | ext φ => obtain ⟨_,⟨_,e⟩,_⟩:=x; exact Heap.lt_size e
theorem Paired.mapP {α β : Type} {F G : α→β→Prop} : ∀ {l₁ : List α} {l₂ : List β},Paired F l₁ l₂→(∀ a b,F a b→G a b)→Paired G l₁ l₂
  | _,_,.nil,_ => .nil
  | _,_,.cons r t,f => .cons (f _ _ r) (Paired.mapP t f)
theorem ObjOk.stay (x : ObjOk P w H h a o) (k : ∀ b u,(b=a∨H b=some (.own a))→h.get? b=some u→h'.get? b=some u)
    (ho : ∀ b,H b=some (.own a)→H' b=some (.own a)) (ht : ∀ b xs,H b=some (.tup xs)→H' b=some (.tup xs)) : ObjOk P w H' h' a o:=by
  induction o with
  | lst xs => obtain ⟨z,its,n,r,e⟩:=x; exact ⟨z,its,n,r,k _ _ (.inl rfl) e⟩
  | tup xs => obtain ⟨z,its,r,ob,e,c⟩:=x; exact ⟨z,its,r,ob,k _ _ (.inl rfl) e,c⟩
  | dK kvs => obtain ⟨z,y,vs,r,ob,es,ep,e,c⟩:=x; exact ⟨z,y,vs,r,ob,es,ep,k _ _ (.inl rfl) e,c⟩
  | dT kvs =>
    obtain ⟨z,y,xs,r,ob,es,ep,e,c⟩:=x
    exact ⟨z,y,xs,Paired.mapP r fun p q z => ⟨z.1,ht _ _ z.2.1,z.2.2⟩,ob,es,ep,k _ _ (.inl rfl) e,c⟩
  | set S n => obtain ⟨ob,es,ep,t,e,c⟩:=x; exact ⟨ob,es,ep,t,k _ _ (.inl rfl) e,c⟩
  | ins C dx fs =>
    obtain ⟨d,z,ne,e,mA,⟨od,es,ep,e2,c⟩,r⟩:=x
    exact ⟨ho _ d,z,ne,k _ _ (.inl rfl) e,mA,⟨od,es,ep,k _ _ (.inr d) e2,c⟩,r⟩
  | own y => obtain ⟨ob,e⟩:=x; exact ⟨ob,k _ _ (.inl rfl) e⟩
  | xd fs => obtain ⟨mA,⟨od,es,ep,e,c⟩,r⟩:=x; exact ⟨mA,⟨od,es,ep,k _ _ (.inl rfl) e,c⟩,r⟩
  | rng lo hi => obtain ⟨t,u,v,e⟩:=x; exact ⟨t,u,v,k _ _ (.inl rfl) e⟩
  | frz ob u ih => obtain ⟨e,q⟩:=x; exact ⟨k _ _ (.inl rfl) e,ih q⟩
  | tbl ps =>
    have e : h.get? a=some { cls:=.none,data:=.fields ps }:=x
    show h'.get? a=some { cls:=.none,data:=.fields ps }
    exact k a _ (.inl rfl) e
  | met f y =>
    have e : h.get? a=some (PySem.W.methodObj (.ref f) (.ref y)):=x
    show h'.get? a=some (PySem.W.methodObj (.ref f) (.ref y))
    exact k a _ (.inl rfl) e
  | ext φ => obtain ⟨p,⟨o,e⟩,st⟩:=x; exact ⟨st _ _ p fun o q => k _ _ (.inl rfl) q,⟨o,k _ _ (.inl rfl) e⟩,st⟩
theorem HOk.lt (x : HOk P w H h) (e : H a=some o) : a < h.objs.size:=(x a o e).lt
theorem HOk.fresh (x : HOk P w H h) (e : h.objs.size≤a) : H a=none:=by
  cases q : H a with
  | none => rfl
  | some u => exact absurd (Nat.lt_of_lt_of_le (x.lt q) e) (Nat.lt_irrefl _)
theorem HOk.kept (x : HOk P w H h) (k : ∀ b u,h.get? b=some u→h'.get? b=some u) : HOk P w H h':=fun a o e =>
  (x a o e).stay (fun b u _ q => k b u q) (fun _ q => q) fun _ _ q => q
theorem HOk.laid (x : HOk P w H h) (k : ∀ b u,h.get? b=some u→h'.get? b=some u) (hp : h.objs.size≤a) (new : ObjOk P w (upd H a o) h' a o) : HOk P w (upd H a o) h':=fun b u e => by
  have hn:=x.fresh hp
  by_cases hb : b=a
  · subst hb; rw [upd_same] at e; cases e; exact new
  · rw [upd_ne hb] at e
    exact (x b u e).stay (fun c v _ q => k c v q) (fun c q => by rw [upd_ne (ne_of_none q hn)]; exact q) fun c xs q => by rw [upd_ne (ne_of_none q hn)]; exact q
end
noncomputable def Rd (H : Hp) (a : Addr) (u : HO) : Prop:=H a=some u∨∃ o,H a=some (.frz o u)
theorem Rd.ok {P : Program} {w : World} {H : Hp} {h : Heap} {a : Addr} {u : HO} (r : Rd H a u) (x : HOk P w H h) : ObjOk P w H h a u:=by
  rcases r with r | ⟨o,r⟩
  · exact x a u r
  · obtain ⟨_,q⟩:=x a _ r
    exact q
noncomputable def Mut : Option HO→Prop
  | some (.lst _) => True
  | some (.dK _) => True
  | some (.dT _) => True
  | some (.set _ _) => True
  | some (.ins _ _ _) => True
  | some (.ext _) => True
  | _ => False
section
variable {P : Program} {w : World} {H : Hp} {h h' : Heap} {x e : Addr} {o' : HO}
theorem HOk.write (ok : HOk P w H h) (mu : Mut (H x)) (he : e=x∨H e=some (.own x)) (k : ∀ b u,b≠e→h.get? b=some u→h'.get? b=some u) (heo : ∃ u,h'.get? e=some u)
    (new : ObjOk P w (upd H x o') h' x o') : HOk P w (upd H x o') h':=fun b u q => by
  have nown : ∀ c y,H c=some (.own y)→c≠x:=fun c y r z => by subst z; rw [r] at mu; exact mu
  have ntup : ∀ c xs,H c=some (.tup xs)→c≠x:=fun c xs r z => by subst z; rw [r] at mu; exact mu
  by_cases hb : b=x
  · subst hb; rw [upd_same] at q; cases q; exact new
  · rw [upd_ne hb] at q
    by_cases hbe : b=e
    · have q' : H b=some (.own x):=by
        rcases he with z | z
        · exact absurd (hbe.trans z) hb
        · rw [hbe]; exact z
      rw [q] at q'; cases q'
      obtain ⟨v,hv⟩:=heo
      exact ⟨v,by rw [hbe]; exact hv⟩
    · refine (ok b u q).stay (fun c v hc r => k c v ?_ r) (fun c r => by rw [upd_ne (nown c b r)]; exact r) fun c xs r => by rw [upd_ne (ntup c xs r)]; exact r
      rcases hc with rfl | hc
      · exact hbe
      · rintro rfl
        rcases he with z | z
        · exact nown c b hc z
        · rw [hc] at z; cases z; exact hb rfl
end
structure Un (fs ex : List Addr) (H H' : Hp) (h h' : Heap) : Prop where
  keep : ∀ b o,h.get? b=some o→H b=none→b ∉ fs→b ∉ ex→h'.get? b=some o
  slot : ∀ b o,h.get? b=some o→H b=none→b∈fs→b ∉ ex→∃ sl,h'.get? b=some { o with slots:=sl }
  free : ∀ b o,h.get? b=some o→H b=none→b ∉ ex→H' b=none
  there : ∀ b o,h.get? b=some o→b ∉ ex→∃ o',h'.get? b=some o'
  tups : ∀ b xs,H b=some (.tup xs)→H' b=some (.tup xs)
  frzs : ∀ b o u,H b=some (.frz o u)→H' b=some (.frz o u)
  tbls : ∀ b ps,H b=some (.tbl ps)→∃ more,H' b=some (.tbl (ps++more))
section
variable {fs fs' ex ex' : List Addr} {H H1 H2 : Hp} {h h1 h2 h' : Heap} {a x e : Addr} {o : HO}
theorem Un.any (u : Un fs ex H H1 h h1) {b : Addr} {ob : Obj} (q : h.get? b=some ob) (n : H b=none) (hx : b ∉ ex) : ∃ sl,h1.get? b=some { ob with slots:=sl }:=by
  by_cases hb : b∈fs
  · exact u.slot b ob q n hb hx
  · exact ⟨ob.slots,u.keep b ob q n hb hx⟩
theorem Un.kept (k : ∀ b u,h.get? b=some u→h'.get? b=some u) : Un fs ex H H h h' :=
  ⟨fun b ob q _ _ _ => k b ob q,fun b ob q _ _ _ => ⟨ob.slots,k b ob q⟩,fun _ _ _ n _ => n,fun b ob q _ => ⟨ob,k b ob q⟩,fun _ _ q => q,fun _ _ _ q => q,fun _ ps q => ⟨#[],by rw [q]; simp⟩⟩
theorem Un.refl : Un fs ex H H h h:=Un.kept fun _ _ q => q
theorem Un.laid (k : ∀ b u,h.get? b=some u→h'.get? b=some u) (hp : h.objs.size≤a) (hn : H a=none) : Un fs ex H (upd H a o) h h' where
  keep:=fun b u q _ _ _ => k b u q
  slot:=fun b u q _ _ _ => ⟨u.slots,k b u q⟩
  free:=fun b u q n _ => by rw [upd_ne (Nat.ne_of_lt (Nat.lt_of_lt_of_le (Heap.lt_size q) hp))]; exact n
  there:=fun b u q _ => ⟨u,k b u q⟩
  tups:=fun b xs q => by rw [upd_ne (ne_of_none q hn)]; exact q
  frzs:=fun b u xs q => by rw [upd_ne (ne_of_none q hn)]; exact q
  tbls:=fun b ps q => ⟨#[],by rw [upd_ne (ne_of_none q hn),q]; simp⟩
theorem Un.write (mu : Mut (H x)) (he : e=x∨H e=some (.own x)) (k : ∀ b u,b≠e→h.get? b=some u→h'.get? b=some u) (heo : ∃ u,h'.get? e=some u) : Un fs ex H (upd H x o) h h':=by
  have hx : ∀ b,H b=none→b≠x:=fun b n z => by subst z; rw [n] at mu; exact mu
  have hb : ∀ b,H b=none→b≠e:=fun b n z => by
    subst z
    rcases he with r | r
    · exact hx b n r
    · rw [n] at r; cases r
  have hm : ∀ b u,H b=some u→¬ Mut (some u)→b≠x:=fun b u q nm z => by subst z; rw [q] at mu; exact nm mu
  refine ⟨fun b u q n _ _ => k b u (hb b n) q,fun b u q n _ _ => ⟨u.slots,k b u (hb b n) q⟩,fun b u q n _ => by rw [upd_ne (hx b n)]; exact n,fun b u q _ => ?_,
    fun b xs q => by rw [upd_ne (hm b _ q fun z => z)]; exact q,fun b u xs q => by rw [upd_ne (hm b _ q fun z => z)]; exact q,fun b ps q => ⟨#[],by rw [upd_ne (hm b _ q fun z => z),q]; simp⟩⟩
  by_cases hbe : b=e
  · subst hbe; exact heo
  · exact ⟨u,k b u hbe q⟩
end
noncomputable def trk (h : Heap) (H : Hp) : List Addr:=(List.range h.objs.size).filter fun a => (H a).isSome
noncomputable def hidT (h : Heap) (H : Hp) : Heap:=PySem.W.hideAll h (trk h H)
theorem hidT_size (h : Heap) (H : Hp) : (hidT h H).objs.size=h.objs.size:=PySem.W.hideAll_size _ _
theorem hidT_get {h : Heap} {H : Hp} {b : Addr} {o : Obj} (e : h.get? b=some o) (n : H b=none) : (hidT h H).get? b=some o :=
  PySem.W.hideAll_get _ e fun hm => by
    have q : (H b).isSome=true:=(List.mem_filter.mp hm).2
    rw [n] at q; simp at q
theorem of_hidT {h : Heap} {H : Hp} {b : Addr} {o : Obj} (e : (hidT h H).get? b=some o) : h.get? b=some o∧H b=none:=by
  have e' : h.get? b=some o:=PySem.W.of_hideAll (trk h H) e
  refine ⟨e',?_⟩
  cases q : H b with
  | none => rfl
  | some x =>
    have hm : b∈trk h H:=List.mem_filter.mpr ⟨List.mem_range.mpr (Heap.lt_size e'),by simp [q]⟩
    have z : (hidT h H).get? b=none:=PySem.W.hideAll_none (trk h H) hm
    rw [z] at e; cases e
noncomputable def allNews (g h : Heap) (L : Addr) : List (Addr×Obj):=(List.range h.objs.size).filterMap fun a => if a=L∨(g.get? a).isSome=true then none else (h.get? a).map fun o => (a,o)
noncomputable def rest (g h : Heap) (L d : Addr) : List (Addr×Obj):=(allNews g h L).filter fun p => decide (p.1≠d)
end L2
namespace L2
open PySem PySem.Spec PyProof.Rows
structure Mod (K : PySem.W.Frag) (mg : Str→Option Value) (base : Heap) : Prop where
  kin : K.In base
  glob : base.Ns mainGlobals mg
  blt : ∃ mb, base.Ns builtinsNs mb ∧ ∀ x : Str, x ≠ "__name__" → mb x = bootBuiltins x
  nolimit : base.NoLimit
structure Cx where
  prog : Program
  w : World
  K : PySem.W.Frag
  mg : Str→Option Value
  base : Heap
  A : Around
  N : List Str
  s₀ : Shared
  H₀ : Hp
  env : Env
  outer : List Env
  stack : List Env
  ex : List Addr
  fn : Str→Bool
  calm : Bool
  pn : List (Addr×Obj)
  xe : Value→Shared→Prop
noncomputable def frs (l : List Env) : List Addr:=l.filterMap (·.frame)
noncomputable abbrev Cx.fs (X : Cx) : List Addr:=frs X.outer
noncomputable def Vis (sc : Scope) (x : Str) : Prop:=sc.names.lookup x=some .local∨sc.names.lookup x=some .cell∨sc.names.lookup x=some .free
noncomputable def Loc (sc : Scope) (x : Str) : Prop:=sc.names.lookup x=some .local∨sc.names.lookup x=some .cell
noncomputable def Look (env : Env) (h : Heap) (m : Str→Option Value) (x : Str) (u : Value) : Prop :=
  (env.kindOf x=some .local∧m x=some u)∨((env.kindOf x=some .cell∨env.kindOf x=some .free)∧∃ c,env.cells.lookup x=some c∧h.IsCell c (some u))
structure Cx.Ok (X : Cx) : Prop where
  mod : Mod X.K X.mg X.base
  kind : X.env.scope.kind=.function
  glob : X.env.globals=mainGlobals
  blt : X.env.builtins=builtinsNs
  above : X.s₀.heap.objs.size≤X.env.locals
  inj : ∀ x y c,X.env.cells.lookup x=some c→X.env.cells.lookup y=some c→x=y
  has : ∀ x,(X.env.kindOf x=some .cell∨X.env.kindOf x=some .free)→∃ c,X.env.cells.lookup x=some c
  cab : ∀ x c,X.fn x=true→X.env.cells.lookup x=some c→X.s₀.heap.objs.size≤c
  hd : X.calm=true→X.A.handled=none
  frames : X.A.frames=some X.stack
  stk : X.stack=X.outer∨(X.stack=X.env :: X.outer∧X.env.frame=some X.env.locals)
  exf : ∀ b∈X.ex,b≠X.env.locals∧∀ x c,X.env.cells.lookup x=some c→c≠b
  bs : ∀ b o,X.base.get? b=some o→X.s₀.heap.get? b=some o∧X.H₀ b=none
  bsz : X.base.objs.size≤X.s₀.heap.objs.size
  noex : ∀ b o,X.base.get? b=some o→b ∉ X.ex
  exfs : ∀ b∈X.ex,b ∉ X.fs
  funs : X.s₀.heap.FunFrames X.base X.outer
  frf : ∀ b∈X.fs,X.H₀ b=none
structure Inv (X : Cx) (pins : List (Addr×Obj)) (σ : List (Option V)) (H : Hp) (s : Shared) : Prop where
  ok : X.Ok
  os : s.os=X.s₀.os
  bare : AllBare s.gens
  base : Un X.fs X.ex X.H₀ H X.s₀.heap s.heap
  loc : ∃ m,s.heap.Ns X.env.locals m∧∀ (i : Nat) (x : Str) (v : V),X.N[i]?=some x→σ[i]?=some (some v)→Vis X.env.scope x→∃ u,RelV v u∧Look X.env s.heap m x u
  cell : ∀ x c,X.env.cells.lookup x=some c→∃ v,s.heap.IsCell c v
  free : H X.env.locals=none
  freeC : ∀ x c,X.env.cells.lookup x=some c→H c=none
  pin : ∀ p∈X.pn++pins,s.heap.get? p.1=some p.2∧H p.1=none∧p.1≠X.env.locals∧p.1 ∉ X.fs∧∀ v,p.2.data≠.cell v
  hok : HOk X.prog X.w H s.heap
  len : σ.length=X.N.length
section
variable {X : Cx} {pins : List (Addr×Obj)} {σ : List (Option V)} {H H' : Hp} {s : Shared} {h' : Heap}
theorem Cx.Ok.nofr (ok : X.Ok) {b : Addr} {o : Obj} (e : X.base.get? b=some o) : b ∉ X.fs:=fun hb => by
  have:=(ok.funs.mem hb).1
  rw [e] at this; cases this
theorem Inv.bs (I : Inv X pins σ H s) : ∀ b o,X.base.get? b=some o→s.heap.get? b=some o∧H b=none:=fun b o e =>
  ⟨I.base.keep b o (I.ok.bs b o e).1 (I.ok.bs b o e).2 (I.ok.nofr e) (I.ok.noex b o e),I.base.free b o (I.ok.bs b o e).1 (I.ok.bs b o e).2 (I.ok.noex b o e)⟩
theorem Inv.bk (I : Inv X pins σ H s) : ∀ b o,X.base.get? b=some o→s.heap.get? b=some o:=fun b o e => (I.bs b o e).1
theorem Inv.mod (I : Inv X pins σ H s) : Mod X.K X.mg X.base:=I.ok.mod
theorem Inv.kIn (I : Inv X pins σ H s) : X.K.In s.heap:=I.ok.mod.kin.keeps I.bk
theorem Inv.lt (I : Inv X pins σ H s) : X.env.locals < s.heap.objs.size:=let ⟨_,hn,_⟩:=I.loc; hn.lt
theorem Inv.sz (I : Inv X pins σ H s) : X.s₀.heap.objs.size≤s.heap.objs.size:=Nat.le_trans I.ok.above (Nat.le_of_lt I.lt)
theorem Inv.nofs (I : Inv X pins σ H s) {a : Addr} (h : s.heap.objs.size≤a) : a ∉ X.fs:=fun hb => by
  obtain ⟨_,o,ho,_⟩:=I.ok.funs.mem hb
  exact absurd (Nat.lt_of_lt_of_le (Heap.lt_size ho) (Nat.le_trans I.sz h)) (Nat.lt_irrefl _)
theorem Inv.cne (I : Inv X pins σ H s) : ∀ x c,X.env.cells.lookup x=some c→c≠X.env.locals:=fun x c e z => by
  obtain ⟨v,o,ho,hd⟩:=I.cell x c e
  obtain ⟨m,⟨o',es,ep,ho',hd',_⟩,_⟩:=I.loc
  rw [z,ho'] at ho; cases ho; rw [hd'] at hd; cases hd
theorem Inv.funs (I : Inv X pins σ H s) : s.heap.FunFrames X.base X.outer:=by
  have all : ∀ (l : List Env),(∀ b∈frs l,b∈X.fs)→X.s₀.heap.FunFrames X.base l→s.heap.FunFrames X.base l:=by
    intro l
    induction l with
    | nil => intro _ _; trivial
    | cons env r ih =>
      intro hs hl
      obtain ⟨hk,⟨L,o,hf,hn,ho,hd⟩,hr⟩:=hl
      have hL : L∈X.fs:=hs L (by unfold frs; rw [List.filterMap_cons,hf]; exact List.mem_cons_self)
      obtain ⟨sl,e⟩:=I.base.slot L o ho (I.ok.frf L hL) hL fun z => I.ok.exfs L z hL
      exact ⟨hk,⟨L,_,hf,hn,e,hd⟩,ih (fun b hb => hs b (by unfold frs; rw [List.filterMap_cons,hf]; exact List.mem_cons_of_mem _ hb)) hr⟩
  exact all X.outer (fun _ hb => hb) I.ok.funs
theorem Inv.stack (I : Inv X pins σ H s) : s.heap.FunFrames X.base X.stack:=by
  rcases I.ok.stk with e | ⟨e,hf⟩
  · rw [e]; exact I.funs
  · rw [e]
    obtain ⟨m,hn,_⟩:=I.loc
    refine .cons (by rw [I.ok.kind]; decide) hf hn ?_ I.funs
    exact Heap.get?_none_of_le (Nat.le_trans I.ok.bsz I.ok.above)
theorem Inv.stkSub (I : Inv X pins σ H s) : ∀ b∈frs X.stack,b∈X.env.locals :: X.fs:=fun b hb => by
  rcases I.ok.stk with e | ⟨e,hf⟩
  · rw [e] at hb; exact List.mem_cons_of_mem _ hb
  · rw [e] at hb
    unfold frs at hb
    rw [List.filterMap_cons,hf] at hb
    exact hb
theorem Inv.stkFree (I : Inv X pins σ H s) : ∀ b∈frs X.stack,H b=none:=fun b hb => by
  rcases List.mem_cons.mp (I.stkSub b hb) with e | hb
  · rw [e]; exact I.free
  · obtain ⟨_,o,ho,_⟩:=I.ok.funs.mem hb
    exact I.base.free b o ho (I.ok.frf b hb) fun z => I.ok.exfs b z hb
theorem Inv.step {g' : Array GenState} {t' : Nat} {d' : Drawn} {ch : List Addr} (I : Inv X pins σ H s)
    (hch : ∀ b∈ch,(b∈X.ex∨X.s₀.heap.objs.size≤b)∧b≠X.env.locals∧(∀ x c,X.env.cells.lookup x=some c→c≠b)∧∀ p∈X.pn++pins,p.1≠b)
    (keep : ∀ b o,b≠X.env.locals→b ∉ X.fs→b ∉ ch→s.heap.get? b=some o→H b=none→h'.get? b=some o)
    (slot : ∀ b o,b≠X.env.locals→b∈X.fs→b ∉ ch→s.heap.get? b=some o→H b=none→∃ sl,h'.get? b=some { o with slots:=sl }) (free : ∀ b o,b ∉ ch→s.heap.get? b=some o→H b=none→H' b=none)
    (there : ∀ b o,b ∉ ch→s.heap.get? b=some o→∃ o',h'.get? b=some o')
    (tups : ∀ b xs,H b=some (.tup xs)→H' b=some (.tup xs)) (frzs : ∀ b o u,H b=some (.frz o u)→H' b=some (.frz o u)) (tbls : ∀ b ps,H b=some (.tbl ps)→∃ more,H' b=some (.tbl (ps++more)))
    (ns : ∀ m,s.heap.Ns X.env.locals m→h'.Ns X.env.locals m) (hok : HOk X.prog X.w H' h') (hg : AllBare g') :
    Inv X pins σ H' { s with heap:=h',gens:=g',drawn:=d',toks:=t' }:=by
  have neL : ∀ b o,X.s₀.heap.get? b=some o→b≠X.env.locals:=fun b o e => Nat.ne_of_lt (Nat.lt_of_lt_of_le (Heap.lt_size e) I.ok.above)
  have neC : ∀ b o,X.s₀.heap.get? b=some o→b ∉ X.ex→b ∉ ch:=fun b o e hx hb => by
    rcases (hch b hb).1 with z | z
    · exact hx z
    · exact absurd (Nat.lt_of_lt_of_le (Heap.lt_size e) z) (Nat.lt_irrefl _)
  have cellK : ∀ x c,X.env.cells.lookup x=some c→∀ v,s.heap.IsCell c v→h'.IsCell c v:=fun x c e v ⟨o,ho,hd⟩ => by
    have nch : c ∉ ch:=fun z => (hch c z).2.2.1 x c e rfl
    by_cases hc : c∈X.fs
    · obtain ⟨sl,q⟩:=slot c o (I.cne x c e) hc nch ho (I.freeC x c e)
      exact ⟨_,q,hd⟩
    · exact ⟨o,keep c o (I.cne x c e) hc nch ho (I.freeC x c e),hd⟩
  refine ⟨I.ok,I.os,hg,⟨fun b o e n hb hx => ?_,fun b o e n hb hx => ?_,fun b o e n hx => ?_,fun b o e hx => ?_,fun b xs e => tups b xs (I.base.tups b xs e),fun b o xs e => frzs b o xs (I.base.frzs b o xs e),fun b ps e => ?_⟩,?_,fun x c e => ?_,?_,fun x c e => ?_,fun p hp => ?_,hok,I.len⟩
  · exact keep b o (neL b o e) hb (neC b o e hx) (I.base.keep b o e n hb hx) (I.base.free b o e n hx)
  · obtain ⟨sl,e1⟩:=I.base.slot b o e n hb hx
    obtain ⟨sl',e2⟩:=slot b _ (neL b o e) hb (neC b o e hx) e1 (I.base.free b o e n hx)
    exact ⟨sl',e2⟩
  · obtain ⟨o',e1⟩:=I.base.there b o e hx
    exact free b o' (neC b o e hx) e1 (I.base.free b o e n hx)
  · obtain ⟨o',e1⟩:=I.base.there b o e hx
    exact there b o' (neC b o e hx) e1
  · obtain ⟨m1,e1⟩:=I.base.tbls b ps e
    obtain ⟨m2,e2⟩:=tbls b _ e1
    exact ⟨m1++m2,by rw [e2,Array.append_assoc]⟩
  · obtain ⟨m,hn,hl⟩:=I.loc
    refine ⟨m,ns m hn,fun i x v e1 e2 e3 => ?_⟩
    obtain ⟨u,r,l⟩:=hl i x v e1 e2 e3
    refine ⟨u,r,?_⟩
    rcases l with l | ⟨k,c,e,z⟩
    · exact .inl l
    · exact .inr ⟨k,c,e,cellK x c e _ z⟩
  · obtain ⟨v,z⟩:=I.cell x c e
    exact ⟨v,cellK x c e v z⟩
  · obtain ⟨m,⟨o,_,_,ho,_⟩,_⟩:=I.loc
    exact free _ o (fun z => (hch _ z).2.1 rfl) ho I.free
  · obtain ⟨v,o,ho,hd⟩:=I.cell x c e
    exact free c o (fun z => (hch c z).2.2.1 x c e rfl) ho (I.freeC x c e)
  · obtain ⟨e,n,ne,nf,d⟩:=I.pin p hp
    have nch : p.1 ∉ ch:=fun z => (hch p.1 z).2.2.2 p hp rfl
    exact ⟨keep p.1 p.2 ne nf nch e n,free p.1 p.2 nch e n,ne,nf,d⟩
theorem Inv.un {t' : Nat} (I : Inv X pins σ H s) (u : Un X.fs [] H H' s.heap h') (hok : HOk X.prog X.w H' h') : Inv X pins σ H' { s with heap:=h',toks:=t' }:=by
  obtain ⟨m,⟨o,es,ep,ho,r⟩,_⟩:=id I.loc
  obtain ⟨sl,hL⟩:=u.any ho I.free (by simp)
  exact I.step (g':=s.gens) (d':=s.drawn) (ch:=[]) (fun _ z => nomatch z) (fun b o _ hb _ e n => u.keep b o e n hb (by simp)) (fun b o _ hb _ e n => u.slot b o e n hb (by simp)) (fun b o _ e n => u.free b o e n (by simp)) (fun b o _ e => u.there b o e (by simp)) u.tups u.frzs u.tbls (fun m' hm => by
    obtain ⟨o',es',ep',ho',r'⟩:=hm
    rw [ho] at ho'; cases ho'
    exact ⟨_,es',ep',hL,r'⟩) hok I.bare
theorem Inv.call {g' : Array GenState} {t' : Nat} {d' : Drawn} {ch : List Addr} (I : Inv X pins σ H s) (u : Un (frs X.stack) ch H H' s.heap h') (hok : HOk X.prog X.w H' h') (hg : AllBare g')
    (hch : ∀ b∈ch,(b∈X.ex∨X.s₀.heap.objs.size≤b)∧b≠X.env.locals∧(∀ x c,X.env.cells.lookup x=some c→c≠b)∧∀ p∈X.pn++pins,p.1≠b) :
    Inv X pins σ H' { s with heap:=h',gens:=g',drawn:=d',toks:=t' }:=by
  obtain ⟨m,⟨o,es,ep,ho,r⟩,_⟩:=id I.loc
  obtain ⟨sl,hL⟩:=u.any ho I.free fun z => (hch _ z).2.1 rfl
  exact I.step (ch:=ch) hch (fun b o hL hb hc e n => u.keep b o e n (fun z => (List.mem_cons.mp (I.stkSub b z)).elim hL hb) hc) (fun b o _ _ hc e n => u.any e n hc) (fun b o hc e n => u.free b o e n hc) (fun b o hc e => u.there b o e hc) u.tups u.frzs u.tbls (fun m' hm => by
    obtain ⟨o',es',ep',ho',r'⟩:=hm
    rw [ho] at ho'; cases ho'
    exact ⟨_,es',ep',hL,r'⟩) hok hg
theorem Inv.turned {t' : Nat} {it : Addr} (I : Inv X pins σ H s) (k : ∀ b o,b≠it→s.heap.get? b=some o→h'.get? b=some o) (hn : H it=none) (hL : it≠X.env.locals)
    (h1 : it∈X.ex∨X.s₀.heap.objs.size≤it) (h2 : ∀ x c,X.env.cells.lookup x=some c→c≠it) (h3 : ∀ p∈X.pn++pins,p.1≠it) : Inv X pins σ H { s with heap:=h',toks:=t' }:=by
  have nit : ∀ b u,H b=some u→b≠it:=fun b u e z => by rw [z,hn] at e; cases e
  refine I.step (g':=s.gens) (d':=s.drawn) (ch:=[it]) (fun b hb => ?_) (fun b o _ _ hc e _ => k b o (fun z => hc (by simp [z])) e) (fun b o _ _ hc e _ => ⟨o.slots,k b o (fun z => hc (by simp [z])) e⟩) (fun _ _ _ _ n => n)
    (fun b o hc e => ⟨o,k b o (fun z => hc (by simp [z])) e⟩) (fun _ _ e => e) (fun _ _ _ e => e) (fun b ps e => ⟨#[],by rw [e]; simp⟩) (fun m hm => ?_) (fun b u e => ?_) I.bare
  · have e : b=it:=by simpa using hb
    subst e
    exact ⟨h1,hL,h2,h3⟩
  · obtain ⟨o,es,ep,ho,r⟩:=hm
    exact ⟨o,es,ep,k _ o (Ne.symm hL) ho,r⟩
  · refine (I.hok b u e).stay (fun c v hc q => k c v ?_ q) (fun _ q => q) fun _ _ q => q
    rcases hc with z | z
    · rw [z]; exact nit b u e
    · exact nit c _ z
theorem Inv.tok (I : Inv X pins σ H s) (t : Nat) : Inv X pins σ H { s with toks:=t }:=I.un (h':=s.heap) (t':=t) Un.refl I.hok
theorem Inv.kept {t' : Nat} (I : Inv X pins σ H s) (k : ∀ b u,s.heap.get? b=some u→h'.get? b=some u) : Inv X pins σ H { s with heap:=h',toks:=t' }:=I.un (Un.kept k) (I.hok.kept k)
theorem Inv.laid {a : Addr} {o : HO} {t' : Nat} (I : Inv X pins σ H s) (k : ∀ b u,s.heap.get? b=some u→h'.get? b=some u) (hp : s.heap.objs.size≤a) (new : ObjOk X.prog X.w (upd H a o) h' a o) :
    Inv X pins σ (upd H a o) { s with heap:=h',toks:=t' }:=I.un (Un.laid k hp (I.hok.fresh hp)) (I.hok.laid k hp new)
theorem Inv.write {x e : Addr} {o : HO} {t' : Nat} (I : Inv X pins σ H s) (mu : Mut (H x)) (he : e=x∨H e=some (.own x)) (k : ∀ b u,b≠e→s.heap.get? b=some u→h'.get? b=some u) (heo : ∃ u,h'.get? e=some u)
    (new : ObjOk X.prog X.w (upd H x o) h' x o) : Inv X pins σ (upd H x o) { s with heap:=h',toks:=t' }:=I.un (Un.write mu he k heo) (I.hok.write mu he k heo new)
theorem Inv.pins_of {pins' : List (Addr×Obj)} (I : Inv X pins σ H s) (h : ∀ p∈pins',s.heap.get? p.1=some p.2∧H p.1=none∧p.1≠X.env.locals∧p.1 ∉ X.fs∧∀ v,p.2.data≠.cell v) : Inv X pins' σ H s :=
  ⟨I.ok,I.os,I.bare,I.base,I.loc,I.cell,I.free,I.freeC,fun p hp => (List.mem_append.mp hp).elim (fun z => I.pin p (List.mem_append_left _ z)) (h p),I.hok,I.len⟩
theorem nodup_ix {N : List Str} (hN : N.Nodup) {i j : Nat} {x : Str} (a : N[i]?=some x) (b : N[j]?=some x) : i=j:=by
  obtain ⟨h1,e1⟩:=List.getElem?_eq_some_iff.mp a
  obtain ⟨h2,e2⟩:=List.getElem?_eq_some_iff.mp b
  exact (List.getElem_inj hN).mp (e1.trans e2.symm)
theorem store_ok2 {M : Model} {A : Around} {E : Value→Shared→Prop} {i : Nat} {x : Str} {v : V} {u : Value} {Q : Unit→Shared→Prop} (I : Inv X pins σ H s) (hN : X.N.Nodup) (hi : X.N[i]?=some x) (hx : Loc X.env.scope x) (r : RelV v u)
    (h : ∀ s',Inv X pins (σ.set i (some v)) H s'→(∃ a,Heap.SameBut a s.heap s'.heap∧(a=X.env.locals∨X.env.cells.lookup x=some a))→Q () s') (hf : X.fn x=true∨X.env.scope.names.lookup x=some .local:=by first | exact .inl rfl | exact .inr rfl | assumption) : wpAny M A (storeName X.env x u) Q E s:=by
  obtain ⟨m,hn,hl⟩:=id I.loc
  have hcls : (X.env.scope.kind == .class || (X.env.scope.kind == .module && X.env.locals != X.env.globals))=false:=by rw [I.ok.kind]; rfl
  have hiσ : i < σ.length:=by rw [I.len]; exact (List.getElem?_eq_some_iff.mp hi).1
  have cne:=I.cne
  have tracked : ∀ {a : Addr} {h' : Heap},(∃ o,s.heap.get? a=some o∧H a=none)→Heap.SameBut a s.heap h'→HOk X.prog X.w H h':=fun {a h'} ha hs b ob e => by
    obtain ⟨_,_,hfree⟩:=ha
    refine (I.hok b ob e).stay (fun c w' hc q => (hs.2 c ?_).trans q) (fun _ q => q) fun _ _ q => q
    rintro rfl
    rcases hc with rfl | hc
    · rw [hfree] at e; cases e
    · rw [hfree] at hc; cases hc
  rcases hx with hk | hk
  · refine wpAny_storeName_local hk hn (fun h' hn' hs => ?_) hcls
    obtain ⟨oL,_,_,hoL,_⟩:=id hn
    refine h _ ⟨I.ok,I.os,I.bare,⟨fun b o e n hb hx => ?_,fun b o e n hb hx => ?_,I.base.free,fun b o e hx => ?_,I.base.tups,I.base.frzs,I.base.tbls⟩,⟨_,hn',fun j y v' e1 e2 e3 => ?_⟩,fun y c e => ?_,I.free,I.freeC,fun p hp => ?_,tracked ⟨oL,hoL,I.free⟩ hs,by simpa using I.len⟩ ⟨_,hs,.inl rfl⟩
    · exact (hs.2 b (Nat.ne_of_lt (Nat.lt_of_lt_of_le (Heap.lt_size e) I.ok.above))).trans (I.base.keep b o e n hb hx)
    · obtain ⟨sl,e1⟩:=I.base.slot b o e n hb hx
      exact ⟨sl,(hs.2 b (Nat.ne_of_lt (Nat.lt_of_lt_of_le (Heap.lt_size e) I.ok.above))).trans e1⟩
    · obtain ⟨o',e1⟩:=I.base.there b o e hx
      exact ⟨o',(hs.2 b (Nat.ne_of_lt (Nat.lt_of_lt_of_le (Heap.lt_size e) I.ok.above))).trans e1⟩
    · by_cases hj : j=i
      · subst hj
        rw [hi] at e1; cases e1
        rw [List.getElem?_set_self hiσ] at e2
        cases e2
        exact ⟨u,r,.inl ⟨hk,by simp⟩⟩
      · rw [List.getElem?_set_ne (Ne.symm hj)] at e2
        obtain ⟨u',r',q⟩:=hl j y v' e1 e2 e3
        refine ⟨u',r',?_⟩
        rcases q with ⟨k,e⟩ | ⟨k,c,e,z⟩
        · refine .inl ⟨k,?_⟩
          have : y≠x:=fun e => hj (nodup_ix hN e1 (e ▸ hi))
          simp [this,e]
        · exact .inr ⟨k,c,e,z.sameBut hs (cne y c e)⟩
    · obtain ⟨w',z⟩:=I.cell y c e
      exact ⟨w',z.sameBut hs (cne y c e)⟩
    · obtain ⟨e,n,ne,nf,d⟩:=I.pin p hp
      exact ⟨(hs.2 p.1 ne).trans e,n,ne,nf,d⟩
  · have hfn : X.fn x=true:=by
      rcases hf with z | z
      · exact z
      · rw [z] at hk; cases hk
    obtain ⟨c,hc⟩:=I.ok.has x (.inl hk)
    obtain ⟨w',z⟩:=I.cell x c hc
    refine wpAny_storeName_cell I.ok.kind hk hc z (fun h' hc' hs => ?_)
    obtain ⟨oc,hoc,hocd⟩:=id z
    refine h { s with heap:=h' } ⟨I.ok,I.os,I.bare,⟨fun b o e n hb hx => ?_,fun b o e n hb hx => ?_,I.base.free,fun b o e hx => ?_,I.base.tups,I.base.frzs,I.base.tbls⟩,⟨m,hn.sameBut hs (Ne.symm (cne x c hc)),fun j y v' e1 e2 e3 => ?_⟩,fun y c' e => ?_,I.free,I.freeC,fun p hp => ?_,tracked ⟨oc,hoc,I.freeC x c hc⟩ hs,by simpa using I.len⟩ ⟨c,hs,.inr hc⟩
    · exact (hs.2 b (Nat.ne_of_lt (Nat.lt_of_lt_of_le (Heap.lt_size e) (I.ok.cab x c hfn hc)))).trans (I.base.keep b o e n hb hx)
    · obtain ⟨sl,e1⟩:=I.base.slot b o e n hb hx
      exact ⟨sl,(hs.2 b (Nat.ne_of_lt (Nat.lt_of_lt_of_le (Heap.lt_size e) (I.ok.cab x c hfn hc)))).trans e1⟩
    · obtain ⟨o',e1⟩:=I.base.there b o e hx
      exact ⟨o',(hs.2 b (Nat.ne_of_lt (Nat.lt_of_lt_of_le (Heap.lt_size e) (I.ok.cab x c hfn hc)))).trans e1⟩
    · by_cases hj : j=i
      · subst hj
        rw [hi] at e1; cases e1
        rw [List.getElem?_set_self hiσ] at e2
        cases e2
        exact ⟨u,r,.inr ⟨.inl hk,c,hc,hc'⟩⟩
      · rw [List.getElem?_set_ne (Ne.symm hj)] at e2
        obtain ⟨u',r',q⟩:=hl j y v' e1 e2 e3
        refine ⟨u',r',?_⟩
        rcases q with q | ⟨k,c',e,z'⟩
        · exact .inl q
        · refine .inr ⟨k,c',e,z'.sameBut hs ?_⟩
          rintro rfl
          exact hj (nodup_ix hN e1 (I.ok.inj _ _ _ e hc ▸ hi))
    · by_cases hcc : c'=c
      · subst hcc; exact ⟨_,hc'⟩
      · obtain ⟨w2,z2⟩:=I.cell y c' e
        exact ⟨w2,z2.sameBut hs hcc⟩
    · obtain ⟨e,n,ne,nf,d⟩:=I.pin p hp
      refine ⟨(hs.2 p.1 ?_).trans e,n,ne,nf,d⟩
      intro q
      rw [q,hoc] at e
      have q' : oc=p.2:=Option.some.inj e
      exact d w' (by rw [← q']; exact hocd)
theorem store_ok {M : Model} {A : Around} {E : Value→Shared→Prop} {i : Nat} {x : Str} {v : V} {u : Value} {Q : Unit→Shared→Prop} (I : Inv X pins σ H s) (hN : X.N.Nodup) (hi : X.N[i]?=some x) (hx : Loc X.env.scope x) (r : RelV v u)
    (h : ∀ s',Inv X pins (σ.set i (some v)) H s'→Q () s') (hf : X.fn x=true∨X.env.scope.names.lookup x=some .local:=by first | exact .inl rfl | exact .inr rfl | assumption) : wpAny M A (storeName X.env x u) Q E s :=
  store_ok2 I hN hi hx r (fun s' I' _ => h s' I') hf
theorem Inv.call' {s' : Shared} {ch : List Addr} (I : Inv X pins σ H s) (ho : s'.os=s.os) (u : Un (frs X.stack) ch H H' s.heap s'.heap) (hok : HOk X.prog X.w H' s'.heap) (hg : AllBare s'.gens)
    (hch : ∀ b∈ch,(b∈X.ex∨X.s₀.heap.objs.size≤b)∧b≠X.env.locals∧(∀ x c,X.env.cells.lookup x=some c→c≠b)∧∀ p∈X.pn++pins,p.1≠b) : Inv X pins σ H' s':=by
  obtain ⟨h',g',d',t',o'⟩:=s'
  have e : o'=s.os:=ho
  subst e
  exact I.call (g':=g') (t':=t') (d':=d') u hok hg hch
end
noncomputable abbrev XK:=Value→Option Addr→Hp→Prop
noncomputable abbrev St:=List (Option V)
noncomputable abbrev VK:=V→Hp→Prop
noncomputable abbrev TE:=St→Hp→VK→Prop
noncomputable abbrev TT:=St→Hp→(Bool→Hp→Prop)→Prop
noncomputable abbrev TA:=St→Hp→(List V→Hp→Prop)→Prop
structure Ends where
  nx : St→Hp→Prop
  rt : VK
  bk : St→Hp→Prop:=fun _ _ => False
  ct : St→Hp→Prop:=fun _ _ => False
noncomputable abbrev TS:=Ends→St→Hp→Prop
noncomputable def EP (X : Cx) (pins : List (Addr×Obj)) (σ : St) (Q : VK) (u : Value) (s' : Shared) : Prop:=∃ v H',Inv X pins σ H' s'∧RelV v u∧Q v H'
noncomputable def TP (X : Cx) (pins : List (Addr×Obj)) (σ : St) (Q : Bool→Hp→Prop) (b : Bool) (s' : Shared) : Prop:=∃ H',Inv X pins σ H' s'∧Q b H'
noncomputable def AP (X : Cx) (pins : List (Addr×Obj)) (σ : St) (Q : List V→Hp→Prop) (us : List Value) (s' : Shared) : Prop:=∃ vs H',Inv X pins σ H' s'∧Vals vs us∧Q vs H'
noncomputable def SP (X : Cx) (pins : List (Addr×Obj)) (D : Ends) (f : Flow) (s' : Shared) : Prop :=
  match f with
  | .next => ∃ σ' H',Inv X pins σ' H' s'∧D.nx σ' H'
  | .brk => ∃ σ' H',Inv X pins σ' H' s'∧D.bk σ' H'
  | .cont => ∃ σ' H',Inv X pins σ' H' s'∧D.ct σ' H'
  | .ret u => ∃ v σ' H',Inv X pins σ' H' s'∧RelV v u∧D.rt v H'
noncomputable def PE (X : Cx) (e : Expr) (t : TE) : Prop :=
  ∀ (pins : List (Addr×Obj)) (s : Shared) (σ : St) (H : Hp) (Q : VK),Inv X pins σ H s→t σ H Q→wpAny (model X.prog X.w) X.A (eval e X.env) (EP X pins σ Q) X.xe s
noncomputable def PT (X : Cx) (e : Expr) (t : TT) : Prop :=
  ∀ (pins : List (Addr×Obj)) (s : Shared) (σ : St) (H : Hp) (Q : Bool→Hp→Prop),Inv X pins σ H s→t σ H Q→wpAny (model X.prog X.w) X.A (isTrue e X.env (eval e X.env)) (TP X pins σ Q) X.xe s
noncomputable def PW (X : Cx) (e : Expr) (t : TT) : Prop :=
  ∀ (whole : Sem Value) (pins : List (Addr×Obj)) (s : Shared) (σ : St) (H : Hp) (Q : Bool→Hp→Prop),Inv X pins σ H s→t σ H Q→wpAny (model X.prog X.w) X.A (isTrue e X.env whole) (TP X pins σ Q) X.xe s
theorem PW.pt {X : Cx} {e : Expr} {t : TT} (h : PW X e t) : PT X e t:=h _
noncomputable def PA (X : Cx) (es : List Expr) (t : TA) : Prop :=
  ∀ (pos : Pos) (pins : List (Addr×Obj)) (s : Shared) (σ : St) (H : Hp) (Q : List V→Hp→Prop),Inv X pins σ H s→t σ H Q→wpAny (model X.prog X.w) X.A (spliced (backTo pos (starEach es X.env))) (AP X pins σ Q) X.xe s
noncomputable def PS (X : Cx) (st : Stmt) (t : TS) : Prop :=
  ∀ (pins : List (Addr×Obj)) (s : Shared) (σ : St) (H : Hp) (D : Ends),Inv X pins σ H s→t D σ H→wpAny (model X.prog X.w) X.A (exec st X.env) (SP X pins D) X.xe s
noncomputable def PSs (X : Cx) (st : List Stmt) (t : TS) : Prop :=
  ∀ (pins : List (Addr×Obj)) (s : Shared) (σ : St) (H : Hp) (D : Ends),Inv X pins σ H s→t D σ H→wpAny (model X.prog X.w) X.A (execs st X.env) (SP X pins D) X.xe s
theorem thn {α : Type} {t : Sem α} {Q Q' : α→Shared→Prop} {M : Model} {A : Around} {E : Value→Shared→Prop} {s : Shared} (h : wpAny M A t Q E s) (hQ : ∀ a s,Q a s→Q' a s) : wpAny M A t Q' E s:=wpAny_mono h hQ fun _ _ x => x
end L2
namespace L2
open PySem PySem.Spec PyProof.Rows
section
variable {X : Cx}
noncomputable def tVar (i : Nat) : TE:=fun σ H Q => ∃ v,σ[i]?=some (some v)∧Q v H
noncomputable def tC (v : V) : TE:=fun _ H Q => Q v H
theorem pe_var {i : Nat} {x : Str} {pos : Pos} (hN : X.N[i]? = some x) (hv : Vis X.env.scope x) (hd : (x == ("__debug__" : Str)) = false := by decide) (hcd : (x == ("__classdict__" : Str)) = false := by decide) : PE X (.Name x pos) (tVar i) := by
  intro pins s σ H Q I h
  obtain ⟨v,e,h⟩:=h
  obtain ⟨m,hn,hl⟩:=I.loc
  obtain ⟨u,r,l⟩:=hl i x v hN e hv
  have fin : EP X pins σ Q u s:=⟨v,H,I,r,h⟩
  rcases l with ⟨hk,hm⟩ | ⟨hk,c,hc,hcell⟩
  · exact wpAny_Name (wpAny_loadName_local I.ok.kind hk hn hm fin) hd
  · rcases hk with hk | hk
    · exact wpAny_Name (wpAny_loadName_cell I.ok.kind hk hc hcell fin) hd
    · exact wpAny_Name (wpAny_loadName_free I.ok.kind hk hc hcell fin hcd) hd
theorem pe_int {i j pos} : PE X (.Constant (.int i) j pos) (tC (.int i)):=fun _ _ _ H _ I h => wpAny_Constant_int ⟨.int i,H,I.tok _,⟨_,rfl⟩,h⟩
theorem pe_bl {b j pos} : PE X (.Constant (.bool b) j pos) (tC (.bl b)):=fun _ _ _ H _ I h => Constant_bool ⟨.bl b,H,I,rfl,h⟩
theorem pe_non {j pos} : PE X (.Constant .none j pos) (tC .non):=fun _ _ _ H _ I h => Constant_none ⟨.non,H,I,rfl,h⟩
theorem pe_str {x j pos} : PE X (.Constant (.str x) j pos) (tC (.str x)):=fun _ _ _ H _ I h => Calls.Constant_str ⟨.str x,H,I.tok _,⟨_,rfl⟩,h⟩
noncomputable def Gl (X : Cx) (x : Str) : Prop:=X.env.kindOf x=some .globalImplicit
theorem ld_glob {E : Value→Shared→Prop} {pins : List (Addr×Obj)} {s : Shared} {σ : St} {H : Hp} {x : Str} {u : Value} {pos : Pos} {Q : Value→Shared→Prop} (I : Inv X pins σ H s) (hg : Gl X x) (hm : X.mg x=some u) (h : Q u s)
    (hd : (x == ("__debug__" : Str)) = false := by decide) : wpAny (model X.prog X.w) X.A (eval (.Name x pos) X.env) Q E s :=
  Calls.Name_function_global I.ok.kind hg (Calls.loadGlobal_global (by rw [I.ok.glob]; exact I.mod.glob.keeps I.bk) hm h) hd
theorem ld_blt {E : Value→Shared→Prop} {pins : List (Addr×Obj)} {s : Shared} {σ : St} {H : Hp} {x : Str} {u : Value} {pos : Pos} {Q : Value→Shared→Prop} (I : Inv X pins σ H s) (hg : Gl X x) (hm : X.mg x=none) (hv : bootBuiltins x=some u) (h : Q u s)
    (hn : x ≠ "__name__" := by decide) (hd : (x == ("__debug__" : Str)) = false := by decide) : wpAny (model X.prog X.w) X.A (eval (.Name x pos) X.env) Q E s := by
  obtain ⟨mb,h1,h2⟩:=I.mod.blt
  exact Calls.Name_function_global I.ok.kind hg (Calls.loadGlobal_builtin (by rw [I.ok.glob]; exact I.mod.glob.keeps I.bk) hm (by rw [I.ok.blt]; exact h1.keeps I.bk) ((h2 x hn).trans hv) h) hd
theorem pe_bltn {x : Str} {v : V} {u : Value} {pos : Pos} (hg : Gl X x) (hm : X.mg x = none) (hv : bootBuiltins x = some u) (r : RelV v u) (hn : x ≠ "__name__" := by decide) (hd : (x == ("__debug__" : Str)) = false := by decide) : PE X (.Name x pos) (tC v) :=
  fun _ _ _ H _ I h => ld_blt I hg hm hv ⟨v,H,I,r,h⟩ hn hd
variable {a b : Expr} {ta tb : TE} {pos : Pos}
variable {tA tB' : TT} {rest : List Expr}
noncomputable def tAnd (t u : TT) : TT:=fun σ H Q => t σ H fun c H1 => if c=true then u σ H1 Q else Q false H1
noncomputable def tOr (t u : TT) : TT:=fun σ H Q => t σ H fun c H1 => if c=true then Q true H1 else u σ H1 Q
noncomputable def tNot (t : TT) : TT:=fun σ H Q => t σ H fun c H1 => Q (!c) H1
theorem pw_and1 (ha : PT X a tA) : PW X (.BoolOp .And [a] pos) tA:=by
  intro wh pins s σ H Q I h
  refine isTrue_and (thn (ha pins s σ H Q I h) fun c s1 e => ?_)
  cases c with
  | true => exact isTrue_and_nil e
  | false => exact e
theorem pw_or1 (ha : PT X a tA) : PW X (.BoolOp .Or [a] pos) tA:=by
  intro wh pins s σ H Q I h
  refine isTrue_or (thn (ha pins s σ H Q I h) fun c s1 e => ?_)
  cases c with
  | false => exact isTrue_or_nil e
  | true => exact e
theorem pw_and (ha : PT X a tA) (hb : PW X (.BoolOp .And (b :: rest) pos) tB') : PW X (.BoolOp .And (a :: b :: rest) pos) (tAnd tA tB'):=by
  intro wh pins s σ H Q I h
  refine isTrue_and (thn (ha pins s σ H _ I h) fun c s1 ⟨H1,I1,q1⟩ => ?_)
  cases c with
  | true => exact hb wh pins s1 σ H1 Q I1 q1
  | false => exact ⟨H1,I1,q1⟩
theorem pw_or (ha : PT X a tA) (hb : PW X (.BoolOp .Or (b :: rest) pos) tB') : PW X (.BoolOp .Or (a :: b :: rest) pos) (tOr tA tB'):=by
  intro wh pins s σ H Q I h
  refine isTrue_or (thn (ha pins s σ H _ I h) fun c s1 ⟨H1,I1,q1⟩ => ?_)
  cases c with
  | true => exact ⟨H1,I1,q1⟩
  | false => exact hb wh pins s1 σ H1 Q I1 q1
theorem pt_not (ha : PT X a tA) : PT X (.UnaryOp .Not a pos) (tNot tA):=by
  intro pins s σ H Q I h
  exact isTrue_not (ha pins s σ H (fun c H1 => Q (!c) H1) I h)
noncomputable def tAndV (ta tb : TE) : TE:=fun σ H Q => ta σ H fun x H1 => ∃ c,x=.bl c∧if c=true then tb σ H1 Q else Q (.bl false) H1
noncomputable def tNotV (ta : TE) : TE:=fun σ H Q => ta σ H fun x H1 => ∃ c,x=.bl c∧Q (.bl (!c)) H1
theorem pe_one {op} {t : TE} (h : PE X a t) : PE X (.BoolOp op [a] pos) t:=fun pins s σ H Q I hw => BoolOp_one (h pins s σ H Q I hw)
theorem pe_and (ha : PE X a ta) (hb : PE X (.BoolOp .And (b :: rest) pos) tb) : PE X (.BoolOp .And (a :: b :: rest) pos) (tAndV ta tb):=by
  intro pins s σ H Q I h
  refine BoolOp_and (thn (ha pins s σ H _ I h) fun v s1 ⟨x,H1,I1,r1,q1⟩ => ?_)
  obtain ⟨c,rfl,q1⟩:=q1
  cases r1
  refine wpAny_truthy_bool ?_
  cases c with
  | true => exact hb pins s1 σ H1 Q I1 q1
  | false => exact ⟨.bl false,H1,I1,rfl,q1⟩
theorem pe_not (ha : PE X a ta) : PE X (.UnaryOp .Not a pos) (tNotV ta):=by
  intro pins s σ H Q I h
  refine UnaryOp_ (thn (ha pins s σ H _ I h) fun v s1 ⟨x,H1,I1,r1,q1⟩ => ?_)
  obtain ⟨c,rfl,q1⟩:=q1
  cases r1
  exact not_of (wpAny_truthy_bool ⟨.bl (!c),H1,I1,rfl,q1⟩)
end
end L2
namespace L2
open PySem PySem.Spec PyProof.Rows
noncomputable def SqL (K : PySem.W.Frag) (H : Hp) (a : Addr) (xs : List V) : Prop :=
  Rd H a (.lst xs) ∨
    ∃ (o : Obj) (its : Array Value) (n : Nat), K.lookup a = some o ∧ o.cls = .type "list" ∧ o.dict = none ∧ o.data = .seq its n ∧ its.size ≤ sizeLine ∧ Vals xs its.toList
noncomputable def SqT (K : PySem.W.Frag) (H : Hp) (a : Addr) (xs : List V) : Prop :=
  Rd H a (.tup xs) ∨
    ∃ (o : Obj) (its : Array Value) (n : Nat), K.lookup a = some o ∧ o.cls = .type "tuple" ∧ o.data = .seq its n ∧ its.size ≤ sizeLine ∧ Vals xs its.toList
noncomputable def absV : Value→Option V
  | .none => some .non
  | .bool b => some (.bl b)
  | .int i _ => some (.int i)
  | .str x _ => some (.str x)
  | .bytes b _ => some (.byt b)
  | .float b _ => some (.flt b)
  | .ref a => some (.ref a)
  | .type n => some (.ty n)
  | _ => none
theorem RelV.abs {x : V} {u : Value} (r : RelV x u) : absV u=some x:=by
  cases x with
  | non => cases r; rfl
  | bl _ => cases r; rfl
  | int _ => obtain ⟨t,rfl⟩:=r; rfl
  | str _ => obtain ⟨t,rfl⟩:=r; rfl
  | byt _ => obtain ⟨t,rfl⟩:=r; rfl
  | flt _ => obtain ⟨t,rfl⟩:=r; rfl
  | ref _ => cases r; rfl
  | ty _ => cases r; rfl
theorem RelV.inj {x y : V} {u : Value} (r : RelV x u) (q : RelV y u) : x=y:=Option.some.inj (r.abs.symm.trans q.abs)
theorem Vals.inj : ∀ {xs ys : List V} {us : List Value},Vals xs us→Vals ys us→xs=ys
  | _,_,_,.nil,.nil => rfl
  | _,_,_,.cons r t,.cons r' t' => by rw [r.inj r',Vals.inj t t']
section
variable {X : Cx} {pins : List (Addr×Obj)} {σ : St} {H : Hp} {s : Shared} {a : Addr} {xs ys : List V}
theorem SqL.of {K : PySem.W.Frag} (h : H a=some (.lst xs)) : SqL K H a xs:=.inl (.inl h)
theorem SqT.of {K : PySem.W.Frag} (h : H a=some (.tup xs)) : SqT K H a xs:=.inl (.inl h)
theorem Inv.list (I : Inv X pins σ H s) (h : SqL X.K H a xs) : ∃ its : List Value,Vals xs its∧PlainL s.heap a its.toArray∧xs.length≤sizeLine:=by
  rcases h with h | ⟨o,its,n,hk,hc,hd,hs,hz,r⟩
  · obtain ⟨z,its,n,r,e⟩:=h.ok I.hok
    exact ⟨its,r,⟨_,n,e,rfl,rfl,rfl⟩,z⟩
  · refine ⟨its.toList,r,⟨o,n,I.kIn a o hk,hc,hd,by simpa using hs⟩,?_⟩
    have e:=r.length
    simp only [Array.length_toList] at e
    omega
theorem Inv.tuple (I : Inv X pins σ H s) (h : SqT X.K H a xs) : ∃ its : List Value,Vals xs its∧IsTup s.heap a its.toArray∧xs.length≤sizeLine:=by
  rcases h with h | ⟨o,its,n,hk,hc,hs,hz,r⟩
  · obtain ⟨z,its,r,p⟩:=h.ok I.hok
    exact ⟨its,r,p,z⟩
  · refine ⟨its.toList,r,⟨o,I.kIn a o hk,hc,n,by simpa using hs⟩,?_⟩
    have e:=r.length
    simp only [Array.length_toList] at e
    omega
theorem Inv.list_inj (I : Inv X pins σ H s) (h : SqL X.K H a xs) (h' : SqL X.K H a ys) : xs=ys:=by
  obtain ⟨its,r,⟨o,n,e,_,_,d⟩,_⟩:=I.list h
  obtain ⟨its',r',⟨o',n',e',_,_,d'⟩,_⟩:=I.list h'
  rw [e] at e'; cases e'
  rw [d] at d'
  injection d' with d1 _
  have : its=its':=by simpa using congrArg Array.toList d1
  subst this
  exact r.inj r'
theorem Inv.tuple_inj (I : Inv X pins σ H s) (h : SqT X.K H a xs) (h' : SqT X.K H a ys) : xs=ys:=by
  obtain ⟨its,r,⟨o,e,_,n,d⟩,_⟩:=I.tuple h
  obtain ⟨its',r',⟨o',e',_,n',d'⟩,_⟩:=I.tuple h'
  rw [e] at e'; cases e'
  rw [d] at d'
  injection d' with d1 _
  have : its=its':=by simpa using congrArg Array.toList d1
  subst this
  exact r.inj r'
end
noncomputable abbrev Cx.wish (X : Cx) (E : Value→Shared→Prop) : Cx:={ X with xe:=E }
noncomputable abbrev Cx.nox (X : Cx) : Cx:=X.wish fun _ _ => False
theorem Cx.Ok.wish {X : Cx} (ok : X.Ok) (E : Value→Shared→Prop) : (X.wish E).Ok :=
  ⟨ok.mod,ok.kind,ok.glob,ok.blt,ok.above,ok.inj,ok.has,ok.cab,ok.hd,ok.frames,ok.stk,ok.exf,ok.bs,ok.bsz,ok.noex,ok.exfs,ok.funs,ok.frf⟩
theorem Cx.Ok.unwish {X : Cx} {E : Value→Shared→Prop} (ok : (X.wish E).Ok) : X.Ok :=
  ⟨ok.mod,ok.kind,ok.glob,ok.blt,ok.above,ok.inj,ok.has,ok.cab,ok.hd,ok.frames,ok.stk,ok.exf,ok.bs,ok.bsz,ok.noex,ok.exfs,ok.funs,ok.frf⟩
section
variable {X : Cx} {pins : List (Addr×Obj)} {σ : St} {H : Hp} {s : Shared} {E : Value→Shared→Prop}
theorem Inv.wish (I : Inv X pins σ H s) (E : Value→Shared→Prop) : Inv (X.wish E) pins σ H s:=⟨I.ok.wish E,I.os,I.bare,I.base,I.loc,I.cell,I.free,I.freeC,I.pin,I.hok,I.len⟩
theorem Inv.unwish (I : Inv (X.wish E) pins σ H s) : Inv X pins σ H s:=⟨I.ok.unwish,I.os,I.bare,I.base,I.loc,I.cell,I.free,I.freeC,I.pin,I.hok,I.len⟩
theorem SP.unwish {D : Ends} {f : Flow} {s' : Shared} (h : SP (X.wish E) pins D f s') : SP X pins D f s':=by
  cases f with
  | next => obtain ⟨σ',H',I,q⟩:=h; exact ⟨σ',H',I.unwish,q⟩
  | brk => obtain ⟨σ',H',I,q⟩:=h; exact ⟨σ',H',I.unwish,q⟩
  | cont => obtain ⟨σ',H',I,q⟩:=h; exact ⟨σ',H',I.unwish,q⟩
  | ret u => obtain ⟨v,σ',H',I,r,q⟩:=h; exact ⟨v,σ',H',I.unwish,r,q⟩
theorem PSs.nox {st : List Stmt} {t : TS} (h : PSs X.nox st t) : PSs X st t:=fun pins s σ H D I hw =>
  wpAny_mono (h pins s σ H D (I.wish _) hw) (fun _ _ q => q.unwish) fun _ _ z => False.elim z
end
section
variable {X : Cx} {st : Stmt} {rest : List Stmt} {t u : TS} {e : Expr} {te : TE} {pos : Pos}
noncomputable def tNext : TS:=fun D σ H => D.nx σ H
noncomputable def tSeq (t u : TS) : TS:=fun D σ H => t { D with nx:=u D } σ H
theorem pss_nil : PSs X [] tNext:=fun _ _ σ H _ I h => wpAny_execs_nil ⟨σ,H,I,h⟩
theorem pss_cons (h1 : PS X st t) (h2 : PSs X rest u) : PSs X (st :: rest) (tSeq t u):=by
  intro pins s σ H D I h
  refine wpAny_execs_cons (thn (h1 pins s σ H { D with nx:=u D } I h) fun f s1 q => ?_)
  cases f with
  | next =>
    obtain ⟨σ',H',I',q⟩:=q
    exact h2 pins s1 σ' H' D I' q
  | ret v => exact q
  | brk => exact q
  | cont => exact q
theorem pss_one (h1 : PS X st t) : PSs X [st] t:=by
  intro pins s σ H D I h
  refine wpAny_execs_cons (thn (h1 pins s σ H D I h) fun f s1 q => ?_)
  cases f with
  | next => exact wpAny_execs_nil q
  | ret v => exact q
  | brk => exact q
  | cont => exact q
theorem Inv.quiet {pins : List (Addr×Obj)} {σ : St} {H : Hp} {s : Shared} (I : Inv X pins σ H s) : interactive X.env=false:=by simp [interactive,I.ok.kind]
noncomputable def tDrop (te : TE) : TS:=fun D σ H => te σ H fun _ H1 => D.nx σ H1
theorem ps_expr (he : PE X e te) (hs : swapsWith e none pos.line X.env=pure false:=by rfl) : PS X (.Expr e pos) (tDrop te):=by
  intro pins s σ H D I h
  exact wpAny_Expr_any (thn (he pins s σ H _ I h) fun v s1 ⟨x,H1,I1,r1,q1⟩ => ⟨σ,H1,I1,q1⟩) I.quiet hs
noncomputable def tRet (te : TE) : TS:=fun D σ H => te σ H D.rt
theorem ps_ret (he : PE X e te) : PS X (.Return (some e) pos) (tRet te):=by
  intro pins s σ H D I h
  exact wpAny_Return_some (thn (he pins s σ H _ I h) fun v s1 ⟨x,H1,I1,r1,q1⟩ => ⟨x,σ,H1,I1,r1,q1⟩)
noncomputable def tIfS (c : TT) (t u : TS) : TS:=fun D σ H => c σ H fun b H1 => if b=true then t D σ H1 else u D σ H1
theorem ps_if {c : Expr} {a b : List Stmt} {tc : TT} (hc : PT X c tc) (ha : PSs X a t) (hb : PSs X b u) : PS X (.If c a b pos) (tIfS tc t u):=by
  intro pins s σ H D I h
  refine wpAny_If (thn (hc pins s σ H _ I h) fun d s1 ⟨H1,I1,q1⟩ => ?_)
  cases d with
  | true => exact ha pins s1 σ H1 D I1 q1
  | false => exact hb pins s1 σ H1 D I1 q1
end
noncomputable abbrev TG:=V→St→Hp→(St→Hp→Prop)→Prop
noncomputable abbrev TGs:=List V→St→Hp→(St→Hp→Prop)→Prop
noncomputable def PG (X : Cx) (target : Expr) (t : TG) : Prop :=
  ∀ (pins : List (Addr×Obj)) (s : Shared) (σ : St) (H : Hp) (v : V) (u : Value) (Q : St→Hp→Prop),Inv X pins σ H s→RelV v u→t v σ H Q →
    wpAny (model X.prog X.w) X.A (assign target X.env u) (fun _ s' => ∃ σ' H',Inv X pins σ' H' s'∧Q σ' H') X.xe s
noncomputable def PGs (X : Cx) (ts : List Expr) (t : TGs) : Prop :=
  ∀ (pins : List (Addr×Obj)) (s : Shared) (σ : St) (H : Hp) (vs : List V) (us : List Value) (Q : St→Hp→Prop),Inv X pins σ H s→Vals vs us→t vs σ H Q →
    wpAny (model X.prog X.w) X.A (assignInOrder ((assignEach ts X.env).map (·.2)) us) (fun _ s' => ∃ σ' H',Inv X pins σ' H' s'∧Q σ' H') X.xe s
noncomputable abbrev TSet:=V→V→V→Hp→(Hp→Prop)→Prop
noncomputable def PSet (X : Cx) (t : TSet) : Prop :=
  ∀ (pins : List (Addr×Obj)) (s : Shared) (σ : St) (H : Hp) (o i v : V) (ov iv u : Value) (Q : Hp→Prop),Inv X pins σ H s→RelV o ov→RelV i iv→RelV v u→t o i v H Q →
    wpAny (model X.prog X.w) X.A (setItem ov iv u) (fun _ s' => ∃ H',Inv X pins σ H' s'∧Q H') X.xe s
section
variable {X : Cx} {pos : Pos}
noncomputable def gName (i : Nat) : TG:=fun v σ H Q => Q (σ.set i (some v)) H
theorem pg_name {i : Nat} {x : Str} (hN : X.N.Nodup) (hi : X.N[i]?=some x) (hx : Loc X.env.scope x) (hf : X.fn x=true∨X.env.scope.names.lookup x=some .local:=by first | exact .inl rfl | exact .inr rfl | assumption) : PG X (.Name x pos) (gName i):=by
  intro pins s σ H v u Q I r h
  exact wpAny_assign_Name (store_ok I hN hi hx r (fun s' I' => ⟨_,H,I',h⟩) hf)
noncomputable def gNil : TGs:=fun vs σ H Q => vs=[]∧Q σ H
noncomputable def gCons (t : TG) (u : TGs) : TGs:=fun vs σ H Q => ∃ v r,vs=v :: r∧t v σ H fun σ' H' => u r σ' H' Q
theorem pgs_nil : PGs X [] gNil:=by
  intro pins s σ H vs us Q I r h
  obtain ⟨e,h⟩:=h
  subst e
  cases r
  exact assignInOrder_nil ⟨σ,H,I,h⟩
theorem pgs_cons {e : Expr} {es : List Expr} {t : TG} {u : TGs} (h1 : PG X e t) (h2 : PGs X es u)
    (hs : (assignEach (e :: es) X.env).map (·.2)=assign e X.env :: (assignEach es X.env).map (·.2):=by rfl) : PGs X (e :: es) (gCons t u):=by
  intro pins s σ H vs us Q I r h
  obtain ⟨v,vr,e1,h⟩:=h
  subst e1
  cases r with
  | cons r rr =>
    rw [hs]
    refine assignInOrder_cons (thn (h1 pins s σ H _ _ _ I r h) fun _ s1 ⟨σ1,H1,I1,q1⟩ => ?_)
    exact h2 pins s1 σ1 H1 _ _ Q I1 rr q1
noncomputable def gTup (K : PySem.W.Frag) (n : Nat) (t : TGs) : TG:=fun v σ H Q => ∃ a xs,v=.ref a∧SqT K H a xs∧xs.length=n∧t xs σ H Q
theorem pg_tup {es : List Expr} {k : Nat} {t : TGs} {n : Nat} (hc : X.calm=true) (h : PGs X es t)
    (hn : (assignEach es X.env).length=n:=by rfl) (hst : (assignEach es X.env).findIdx? (·.1)=none:=by rfl) : PG X (.Tuple es k pos) (gTup X.K n t):=by
  intro pins s σ H v u Q I r hw
  obtain ⟨a,xs,e1,hq,hl,hw⟩:=hw
  subst e1
  cases r
  obtain ⟨its,rv,ht,hz⟩:=I.tuple hq
  refine assign_Tuple_tuple (I.ok.hd hc) ht (by simp [hn,← hl,rv.length]) hst fun h' hx => ?_
  have I1 : Inv X pins σ H { s with heap:=h' }:=I.kept (t':=s.toks) fun b o e => hx b o (Nat.ne_of_lt (Heap.lt_size e)) e
  exact h pins _ σ H xs _ Q I1 (by simpa using rv) hw
noncomputable def gSub (to ti : TE) (t : TSet) : TG:=fun v σ H Q => to σ H fun o H1 => ti σ H1 fun i H2 => t o i v H2 fun H3 => Q σ H3
theorem pg_sub {o i : Expr} {to ti : TE} {t : TSet} (ho : PE X o to) (hi : PE X i ti) (hs : PSet X t)
    (ha : ∀ v,assign (.Subscript o i pos) X.env v=(do
      let ov ← holding [v] (eval o X.env)
      let iv ← holding [v,ov] (eval i X.env)
      standAt pos
      holding [v,ov,iv] (setItem ov iv v)
      release [v,ov,iv] []):=by intro _; rfl) : PG X (.Subscript o i pos) (gSub to ti t):=by
  intro pins s σ H v u Q I r h
  rw [ha]
  refine wpAny_bind (wpAny_holding (thn (ho pins s σ H _ I h) fun ov s1 ⟨x,H1,I1,r1,q1⟩ => ?_))
  refine wpAny_bind (wpAny_holding (thn (hi pins s1 σ H1 _ I1 q1) fun iv s2 ⟨y,H2,I2,r2,q2⟩ => ?_))
  refine wpAny_bind (wpAny_standAt (wpAny_bind (wpAny_holding (thn (hs pins s2 σ H2 x y v ov iv u _ I2 r1 r2 r q2) fun _ s3 ⟨H3,I3,q3⟩ => ?_))))
  exact wpAny_release ⟨σ,H3,I3,q3⟩
noncomputable def tAsg (te : TE) (g : TG) : TS:=fun D σ H => te σ H fun x H1 => g x σ H1 D.nx
theorem ps_asg {tg e : Expr} {te : TE} {g : TG} (he : PE X e te) (hg : PG X tg g) (hs : swapsWithSole [tg] e pos.line X.env=pure false:=by rfl) (hw : swappedStores [tg] e X.env=pure none:=by rfl)
    (h1 : (assignEach [tg] X.env).map (·.2)=[assign tg X.env]:=by rfl) : PS X (.Assign [tg] e pos) (tAsg te g):=by
  intro pins s σ H D I h
  refine wpAny_Assign_stores (thn (he pins s σ H _ I h) fun v s1 ⟨x,H1,I1,r1,q1⟩ => ?_) hs hw
  rw [h1]
  exact thn (hg pins s1 σ H1 x v _ I1 r1 q1) fun _ s2 q => q
theorem ps_set {i : Nat} {x : Str} {e : Expr} {te : TE} {pos' : Pos} (hN : X.N.Nodup) (hi : X.N[i]?=some x) (hx : Loc X.env.scope x) (he : PE X e te) (hs : swapsWith e (some (.Name x pos')) pos.line X.env=pure false:=by rfl) (hf : X.fn x=true∨X.env.scope.names.lookup x=some .local:=by first | exact .inl rfl | exact .inr rfl | assumption) :
    PS X (.Assign [.Name x pos'] e pos) (tAsg te (gName i)):=by
  intro pins s σ H D I h
  refine wpAny_Assign_Name (thn (he pins s σ H _ I h) fun v s1 ⟨y,H1,I1,r1,q1⟩ => ?_) hs
  exact store_ok I1 hN hi hx r1 (fun s2 I2 => ⟨_,H1,I2,q1⟩) hf
end
section
variable {X : Cx} {pos : Pos}
noncomputable def tWhile (c : TT) (tb : TS) : TS:=fun D σ H => ∃ W : Nat→St→Hp→Prop,(∃ m,W m σ H)∧∀ m σ H,W m σ H →
  c σ H fun b H1 => if b=true then ∃ N : St→Hp→Prop,(∀ σ' H',N σ' H'→∃ m',m' < m∧W m' σ' H')∧tb { D with nx:=N,ct:=N,bk:=D.nx } σ H1 else D.nx σ H1
theorem ps_while {c : Expr} {body : List Stmt} {tc : TT} {tb : TS} (hp : PassesOwn (model X.prog X.w) X.A X.env X.xe) (hc : PT X c tc) (hb : PSs X body tb) : PS X (.While c body [] pos) (tWhile tc tb):=by
  intro pins s σ H D I h
  obtain ⟨W,⟨m0,w0⟩,turn⟩:=h
  refine wpAny_While (codeAny_whileLoop (fun n s' => ∃ σ' H',Inv X pins σ' H' s'∧W n σ' H') ?_ m0 ⟨σ,H,I,w0⟩)
  rintro n s1 ⟨σ1,H1,I1,w1⟩
  refine wpAny_passesOwn hp (thn (hc pins s1 σ1 H1 _ I1 (turn n σ1 H1 w1)) fun b s2 ⟨H2,I2,q2⟩ => ?_)
  cases b with
  | true =>
    obtain ⟨N,hN,q2⟩:=q2
    rw [if_pos rfl]
    refine wpAny_passesOwn hp (thn (hb pins s2 σ1 H2 _ I2 q2) fun f s3 q3 => ?_)
    cases f with
    | next =>
      obtain ⟨σ3,H3,I3,n3⟩:=q3
      obtain ⟨m',hm,w3⟩:=hN σ3 H3 n3
      exact ⟨m',hm,σ3,H3,I3,w3⟩
    | cont =>
      obtain ⟨σ3,H3,I3,n3⟩:=q3
      obtain ⟨m',hm,w3⟩:=hN σ3 H3 n3
      exact ⟨m',hm,σ3,H3,I3,w3⟩
    | brk => exact q3
    | ret v => exact q3
  | false =>
    rw [if_neg Bool.false_ne_true]
    exact wpAny_execs_nil ⟨σ1,H2,I2,q2⟩
end
structure It where
  go : Nat→Hp→Prop
  yld : Nat→Hp→V→Hp→Prop
  stop : Nat→Hp→Prop
noncomputable def FpOk (X : Cx) (pins : List (Addr×Obj)) (H : Hp) (b : Addr) : Prop :=
  H b=none∧b≠X.env.locals∧b ∉ X.fs∧(b∈X.ex∨X.s₀.heap.objs.size≤b)∧(∀ x c,X.env.cells.lookup x=some c→c≠b)∧∀ p∈X.pn++pins,p.1≠b
theorem Inv.fpOk {X : Cx} {pins : List (Addr×Obj)} {σ : St} {H H' : Hp} {s : Shared} {b : Addr} (I : Inv X pins σ H s) (hb : s.heap.objs.size≤b) (hn : H' b=none) : FpOk X pins H' b:=by
  refine ⟨hn,Nat.ne_of_gt (Nat.lt_of_lt_of_le I.lt hb),I.nofs hb,.inr (Nat.le_trans I.sz hb),fun x c e z => ?_,fun p hp z => ?_⟩
  · obtain ⟨v,q⟩:=I.cell x c e
    exact absurd (Nat.lt_of_lt_of_le q.lt (by rw [z]; exact hb)) (Nat.lt_irrefl _)
  · exact absurd (Nat.lt_of_lt_of_le (Heap.lt_size (I.pin p hp).1) (by rw [z]; exact hb)) (Nat.lt_irrefl _)
structure Turn (P : Program) (w : World) (K : PySem.W.Frag) (tg : Expr) (J : It) (fp : List Addr) (it : Addr) (tn : Nat→Heap→Prop) : Prop where
  mem : it∈fp
  obj : ∀ i h,tn i h→∀ b∈fp,∃ o,h.get? b=some o∧∀ v,o.data≠.cell v
  keep : ∀ i h h',tn i h→(∀ b∈fp,∀ o,h.get? b=some o→h'.get? b=some o)→tn i h'
  item : ∀ (X : Cx),X.prog=P→X.w=w→X.K=K→X.calm=true→∀ (i : Nat) (pins : List (Addr×Obj)) (s : Shared) (σ : St) (H : Hp) (E : Value→Shared→Prop),Inv X pins σ H s→(∀ b∈fp,FpOk X pins H b)→tn i s.heap→J.go i H →
    wpAny (model P w) X.A (pyNext (.ref it)) (fun r s1 => ∃ u,r=some u ∧
      wpAny (model P w) X.A (letOwnedTupleGo tg (.ref it) u) (fun _ s2 => ∃ x H',Inv X pins σ H' s2∧RelV x u∧J.yld i H x H'∧tn (i+1) s2.heap∧∀ b∈fp,H' b=none) E s1) E s
  done : ∀ (X : Cx),X.prog=P→X.w=w→X.K=K→X.calm=true→∀ (i : Nat) (pins : List (Addr×Obj)) (s : Shared) (σ : St) (H : Hp) (E : Value→Shared→Prop),Inv X pins σ H s→(∀ b∈fp,FpOk X pins H b)→tn i s.heap→J.stop i H →
    wpAny (model P w) X.A (pyNext (.ref it)) (fun r s1 => r=none∧Inv X pins σ H s1) E s
  self : ∀ (A : Around) (i : Nat) (s : Shared) (Q : Value→Shared→Prop) (E : Value→Shared→Prop),tn i s.heap→Q (.ref it) s→wpAny (model P w) A (pyIter (.ref it)) Q E s
noncomputable abbrev TI:=St→Hp→(It→Hp→Prop)→Prop
noncomputable def PIE (X : Cx) (pins : List (Addr×Obj)) (σ : St) (tg : Expr) (R : It→Hp→Prop) (itv : Value) (s2 : Shared) : Prop :=
  ∃ (it : Addr) (fp : List Addr) (tn : Nat→Heap→Prop) (J : It) (H' : Hp),itv=.ref it∧Inv X pins σ H' s2∧Turn X.prog X.w X.K tg J fp it tn∧tn 0 s2.heap∧(∀ b∈fp,FpOk X pins H' b)∧R J H'
noncomputable def PI (X : Cx) (tg iter : Expr) (wi : TI) : Prop :=
  ∀ (pins : List (Addr×Obj)) (s : Shared) (σ : St) (H : Hp) (R : It→Hp→Prop),Inv X pins σ H s→wi σ H R →
    wpAny (model X.prog X.w) X.A (eval iter X.env) (fun v s1 => wpAny (model X.prog X.w) X.A (pyIter v) (PIE X pins σ tg R) X.xe s1) X.xe s
theorem go_of {M : Model} {A : Around} {E : Value→Shared→Prop} {s : Shared} {tg : Expr} {it : Addr} {u : Value} {o : Obj} {n : String} {vs : Array Value} {Q : Unit→Shared→Prop} (ho : s.heap.get? it=some o) (hc : o.cls=.type n) (hd : o.data=.fields vs)
    (hn : ["enumerate", "zip", "dict_itemiterator", "dict_reverseitemiterator", "odict_iterator", "itertools.zip_longest", "itertools.pairwise"].contains n = false) (hQ : Q () s) : wpAny M A (letOwnedTupleGo tg (.ref it) u) Q E s := by
  unfold letOwnedTupleGo
  cases tg <;> first
    | exact wpAny_pure hQ
    | (cases u <;> first
        | exact wpAny_pure hQ
        | (refine wpAny_bind (wpAny_load ho ?_)
           rw [hc,hd]
           show wpAny M A (if (["enumerate", "zip", "dict_itemiterator", "dict_reverseitemiterator", "odict_iterator", "itertools.zip_longest", "itertools.pairwise"].contains n && vs[0]? == some (rawInt _)) = true then _ else _) Q E s
           rw [if_neg (by intro h; rw [hn,Bool.false_and] at h; cases h)]
           exact wpAny_pure hQ))
noncomputable def Itl (K : PySem.W.Frag) (a : Addr) : It :=
  ⟨fun i H => ∃ xs x,SqL K H a xs∧xs[i]?=some x,fun i H x H' => H'=H∧∀ xs,SqL K H a xs→xs[i]?=some x,fun i H => ∃ xs,SqL K H a xs∧xs.length≤i⟩
noncomputable def Itt (K : PySem.W.Frag) (a : Addr) : It :=
  ⟨fun i H => ∃ xs x,SqT K H a xs∧xs[i]?=some x,fun i H x H' => H'=H∧∀ xs,SqT K H a xs→xs[i]?=some x,fun i H => ∃ xs,SqT K H a xs∧xs.length≤i⟩
noncomputable def Itr (lo : Int) (n : Nat) : It:=⟨fun i _ => i < n,fun i H x H' => H'=H∧x=.int (lo+i),fun i _ => n≤i⟩
theorem turn_list {P : Program} {w : World} {K : PySem.W.Frag} {tg : Expr} (a it : Addr) : Turn P w K tg (Itl K a) [it] it (fun i h => h.IsListIter it a i) where
  mem:=by simp
  obj:=fun i h st b hb => by
    have e : b=it:=by simpa using hb
    subst e
    obtain ⟨o,e,c,d⟩:=st
    exact ⟨o,e,fun v z => by rw [d] at z; cases z⟩
  keep:=fun i h h' st k => st.at fun o e => k it (by simp) o e
  item:=by
    intro X hP hw hK hc i pins s σ H E I hf st hg
    subst hP hw hK
    obtain ⟨xs,x,hq,hx⟩:=hg
    obtain ⟨its,rv,p,hz⟩:=I.list hq
    obtain ⟨u,hu,ru⟩:=rv.get hx
    obtain ⟨f0,f1,f2,f3,f4,f5⟩:=hf it (by simp)
    refine wpAny_pyNext_list_item st p.isList (x:=u) (by simpa using hu) fun h' st' sb => ?_
    have I1 : Inv X pins σ H { s with heap:=h' }:=I.turned (t':=s.toks) (fun b o hb e => (sb.2 b hb).trans e) f0 f1 f3 f4 f5
    obtain ⟨o,e,c,d⟩:=id st'
    exact ⟨u,rfl,go_of (s:={ s with heap:=h' }) e c d (by decide) ⟨x,H,I1,ru,⟨rfl,fun ys hy => by rw [I.list_inj hy hq]; exact hx⟩,st',fun b hb => (hf b hb).1⟩⟩
  done:=by
    intro X hP hw hK hc i pins s σ H E I hf st hg
    subst hP hw hK
    obtain ⟨xs,hq,hx⟩:=hg
    obtain ⟨its,rv,p,hz⟩:=I.list hq
    obtain ⟨f0,f1,f2,f3,f4,f5⟩:=hf it (by simp)
    have hl:=rv.length
    exact wpAny_pyNext_list_end (I.ok.hd hc) st p.isList (by simp; omega) fun h' eb => ⟨rfl,I.turned (t':=s.toks) (fun b o hb e => eb b o hb e) f0 f1 f3 f4 f5⟩
  self:=fun _ _ _ _ _ st h => wpAny_pyIter_listiter st h
theorem turn_tuple {P : Program} {w : World} {K : PySem.W.Frag} {tg : Expr} (a it : Addr) : Turn P w K tg (Itt K a) [it] it (fun i h => h.IsTupleIter it a i) where
  mem:=by simp
  obj:=fun i h st b hb => by
    have e : b=it:=by simpa using hb
    subst e
    obtain ⟨o,e,c,d⟩:=st
    exact ⟨o,e,fun v z => by rw [d] at z; cases z⟩
  keep:=fun i h h' st k => st.at fun o e => k it (by simp) o e
  item:=by
    intro X hP hw hK hc i pins s σ H E I hf st hg
    subst hP hw hK
    obtain ⟨xs,x,hq,hx⟩:=hg
    obtain ⟨its,rv,p,hz⟩:=I.tuple hq
    obtain ⟨u,hu,ru⟩:=rv.get hx
    obtain ⟨f0,f1,f2,f3,f4,f5⟩:=hf it (by simp)
    refine wpAny_pyNext_tuple_item st (show s.heap.IsTuple a its.toArray from p) (x:=u) (by simpa using hu) fun h' st' sb => ?_
    have I1 : Inv X pins σ H { s with heap:=h' }:=I.turned (t':=s.toks) (fun b o hb e => (sb.2 b hb).trans e) f0 f1 f3 f4 f5
    obtain ⟨o,e,c,d⟩:=id st'
    exact ⟨u,rfl,go_of (s:={ s with heap:=h' }) e c d (by decide) ⟨x,H,I1,ru,⟨rfl,fun ys hy => by rw [I.tuple_inj hy hq]; exact hx⟩,st',fun b hb => (hf b hb).1⟩⟩
  done:=by
    intro X hP hw hK hc i pins s σ H E I hf st hg
    subst hP hw hK
    obtain ⟨xs,hq,hx⟩:=hg
    obtain ⟨its,rv,p,hz⟩:=I.tuple hq
    obtain ⟨f0,f1,f2,f3,f4,f5⟩:=hf it (by simp)
    have hl:=rv.length
    exact wpAny_pyNext_tuple_end (I.ok.hd hc) st (show s.heap.IsTuple a its.toArray from p) (by simp; omega) fun h' eb => ⟨rfl,I.turned (t':=s.toks) (fun b o hb e => eb b o hb e) f0 f1 f3 f4 f5⟩
  self:=fun _ _ _ _ _ st h => wpAny_pyIter_tupleiter st h
theorem turn_range {P : Program} {w : World} {K : PySem.W.Frag} {tg : Expr} (it : Addr) (lo : Int) (n : Nat) : Turn P w K tg (Itr lo n) [it] it (fun i h => IsRangeIter h it (lo+(i : Nat) * 1) ((n : Int) - (i : Nat)) 1) where
  mem:=by simp
  obj:=fun i h st b hb => by
    have e : b=it:=by simpa using hb
    subst e
    exact ⟨_,st,fun v z => by
      have z' : Data.fields _=Data.cell v:=z
      cases z'⟩
  keep:=fun i h h' st k => k it (by simp) _ st
  item:=by
    intro X hP hw hK hc i pins s σ H E I hf st hg
    subst hP hw hK
    obtain ⟨f0,f1,f2,f3,f4,f5⟩:=hf it (by simp)
    have W:=Walks.range (prog:=X.prog) (w:=X.w) (I.ok.hd hc) it lo 1 n
    refine W.item i s _ _ hg st fun v h' tk hv st' kk => ?_
    obtain ⟨t,rfl⟩:=hv
    have I1 : Inv X pins σ H { s with heap:=h',toks:=tk }:=I.turned (fun b o hb e => kk b o (by simpa using hb) e) f0 f1 f3 f4 f5
    refine ⟨_, rfl, go_of (s := { s with heap := h', toks := tk }) (n := "range_iterator") st' rfl rfl (by decide) ⟨.int (lo + i), H, I1, ⟨t, ?_⟩, ⟨rfl, rfl⟩, st', fun b hb => (hf b hb).1⟩⟩
    rw [Int.mul_one]
  done:=by
    intro X hP hw hK hc i pins s σ H E I hf st hg
    subst hP hw hK
    obtain ⟨f0,f1,f2,f3,f4,f5⟩:=hf it (by simp)
    exact wpAny_pyNext_range_end (I.ok.hd hc) st (by have : n≤i:=hg; omega) fun h' eb => ⟨rfl,I.turned (t':=s.toks) (fun b o hb e => eb b o hb e) f0 f1 f3 f4 f5⟩
  self:=fun _ _ _ _ _ st h => wpAny_pyIter_rangeiter st h
end L2
namespace L2
open PySem PySem.Spec PyProof.Rows
section
variable {X : Cx} {tg : Expr}
theorem range_it {pins : List (Addr×Obj)} {σ : St} {H : Hp} {s : Shared} {R : It→Hp→Prop} {E : Value→Shared→Prop} {lo hi : Int} {t u v : Tok} {tk : Nat} (I : Inv X pins σ H s) (h1 : -(2 ^ 62)≤lo) (h2 : lo < 2 ^ 62) (h3 : -(2 ^ 62)≤hi) (h4 : hi < 2 ^ 62)
    (q : R (Itr lo (hi - lo).toNat) H) : wpAny (model X.prog X.w) X.A (pyIter (.ref s.heap.objs.size)) (PIE X pins σ tg R) E { s with heap := s.heap.push { cls := .type "range", data := .fields #[.int lo t, .int hi u, .int 1 v] }, toks := tk } := by
  refine wpAny_pyIter_range (IsRange.new ..) (small_one h1 h2 h3 h4) ?_
  have I1 : Inv X pins σ H { s with heap := s.heap.push { cls := .type "range", data := .fields #[.int lo t, .int hi u, .int 1 v] }, toks := tk } := I.kept fun b o e => Heap.get?_push_of_some _ e
  refine ⟨(s.heap.push { cls := .type "range", data := .fields #[.int lo t, .int hi u, .int 1 v] }).objs.size, [(s.heap.push { cls := .type "range", data := .fields #[.int lo t, .int hi u, .int 1 v] }).objs.size], _, _, H, rfl,
    I1.kept (t':=tk) fun b o e => Heap.get?_push_of_some _ e,turn_range _ lo (hi - lo).toNat,?_,fun b hb => ?_,q⟩
  · have e1 : lo+((0 : Nat) : Int) * 1=lo:=by simp
    have e2 : (((hi - lo).toNat : Nat) : Int) - ((0 : Nat) : Int)=Builtin.Range.rangeSize lo hi 1:=by rw [rangeSize_one]; split <;> omega
    show IsRangeIter _ _ (lo+((0 : Nat) : Int) * 1) ((((hi - lo).toNat : Nat) : Int) - ((0 : Nat) : Int)) 1
    rw [e1,e2]
    exact Heap.get?_push_size _ rfl
  · have e : b = (s.heap.push { cls := .type "range", data := .fields #[.int lo t, .int hi u, .int 1 v] }).objs.size := by simpa using hb
    subst e
    exact I1.fpOk (Nat.le_refl _) (I1.hok.fresh (Nat.le_refl _))
noncomputable def iRng1 (ta : TA) : TI:=fun σ H R => ta σ H fun vs H1 => ∃ j : Int,vs=[.int j]∧-(2 ^ 62)≤j∧j < 2 ^ 62∧R (Itr 0 j.toNat) H1
noncomputable def iRng2 (ta : TA) : TI:=fun σ H R => ta σ H fun vs H1 => ∃ i j : Int,vs=[.int i,.int j]∧(-(2 ^ 62)≤i∧i < 2 ^ 62∧-(2 ^ 62)≤j∧j < 2 ^ 62)∧R (Itr i (j - i).toNat) H1
theorem pi_range1 {a : Expr} {ta : TA} {p pos : Pos} (hg : Gl X "range") (hm : X.mg "range" = none) (ha : PA X [a] ta) (hs : starEach [a] X.env = [(false, eval a X.env)] := by rfl) : PI X tg (.Call (.Name "range" p) [a] [] pos) (iRng1 ta) := by
  intro pins s σ H R I h
  refine Call_ (ld_blt I hg hm boot_range (PyProof.Rows.callWith_type1 (thn (ha pos pins s σ H _ I h) fun us s1 ⟨vs,H1,I1,r1,q1⟩ => ?_) hs rfl))
  obtain ⟨j,e,q1,q2,q⟩:=q1
  subst e
  cases r1 with
  | cons r rr =>
    cases rr
    obtain ⟨t,rfl⟩:=r
    exact call_range_1 (range_it I1 (by omega) (by omega) q1 q2 (by simpa using q))
theorem pi_range2 {a b : Expr} {ta : TA} {p pos : Pos} (hg : Gl X "range") (hm : X.mg "range" = none) (ha : PA X [a, b] ta) (hs : starEach [a, b] X.env = [(false, eval a X.env), (false, eval b X.env)] := by rfl) (hs2 : starEach [b] X.env = [(false, eval b X.env)] := by rfl) :
    PI X tg (.Call (.Name "range" p) [a, b] [] pos) (iRng2 ta) := by
  intro pins s σ H R I h
  refine Call_ (ld_blt I hg hm boot_range (PyProof.Rows.callWith_type1 (thn (ha pos pins s σ H _ I h) fun us s1 ⟨vs,H1,I1,r1,q1⟩ => ?_) (by rw [hs,hs2]) (by rw [hs2]; rfl)))
  obtain ⟨i,j,e,⟨q1,q2,q3,q4⟩,q⟩:=q1
  subst e
  cases r1 with
  | cons r rr =>
    cases rr with
    | cons r' rr =>
      cases rr
      obtain ⟨t,rfl⟩:=r
      obtain ⟨t',rfl⟩:=r'
      exact call_range_2 (range_it I1 q1 q2 q3 q4 q)
noncomputable def tFor (wi : TI) (g : TG) (tb : TS) : TS:=fun D σ H => wi σ H fun J H1 => ∃ W : Nat→Nat→St→Hp→Prop,(∃ m,W 0 m σ H1)∧∀ i m σ H,W i m σ H →
  (J.stop i H∧D.nx σ H)∨(J.go i H∧∃ N : St→Hp→Prop,(∀ σ' H',N σ' H'→∃ m',m' < m∧W (i+1) m' σ' H')∧∀ x H',J.yld i H x H'→g x σ H' fun σ2 H2 => tb { D with nx:=N,ct:=N,bk:=D.nx } σ2 H2)
noncomputable def pinsAt (fp : List Addr) (h : Heap) : List (Addr×Obj):=fp.filterMap fun b => (h.get? b).map fun o => (b,o)
theorem mem_pinsAt {fp : List Addr} {h : Heap} {b : Addr} {o : Obj} (hb : b∈fp) (e : h.get? b=some o) : (b,o)∈pinsAt fp h:=List.mem_filterMap.mpr ⟨b,hb,by rw [e]; rfl⟩
theorem of_pinsAt {fp : List Addr} {h : Heap} {p : Addr×Obj} (hp : p∈pinsAt fp h) : p.1∈fp∧h.get? p.1=some p.2:=by
  obtain ⟨b,hb,e⟩:=List.mem_filterMap.mp hp
  cases q : h.get? b with
  | none => rw [q] at e; cases e
  | some o =>
    rw [q] at e
    have e' : (b,o)=p:=Option.some.inj e
    subst e'
    exact ⟨hb,q⟩
theorem Inv.pinned {pins : List (Addr×Obj)} {σ : St} {H : Hp} {s : Shared} {fp : List Addr} (I : Inv X pins σ H s) (hf : ∀ b∈fp,FpOk X pins H b) (ho : ∀ b∈fp,∃ o,s.heap.get? b=some o∧∀ v,o.data≠.cell v) : Inv X (pins++pinsAt fp s.heap) σ H s :=
  I.pins_of fun p hp => (List.mem_append.mp hp).elim (fun z => I.pin p (List.mem_append_right _ z)) fun z => by
    obtain ⟨hb,e⟩:=of_pinsAt z
    obtain ⟨f0,f1,f2,_⟩:=hf p.1 hb
    obtain ⟨o,e',d⟩:=ho p.1 hb
    rw [e] at e'; cases e'
    exact ⟨e,f0,f1,f2,d⟩
theorem Inv.unpinned {pins pl : List (Addr×Obj)} {σ : St} {H : Hp} {s : Shared} (I : Inv X (pins++pl) σ H s) : Inv X pins σ H s:=I.pins_of fun p hp => I.pin p (List.mem_append_right _ (List.mem_append_left _ hp))
theorem ps_for {iter : Expr} {body : List Stmt} {wi : TI} {g : TG} {tb : TS} {pos : Pos} (hp : PassesOwn (model X.prog X.w) X.A X.env X.xe) (hc : X.calm=true) (hi : PI X tg iter wi) (hg : PG X tg g) (hb : PSs X body tb)
    (hs : ∀ x,foldedSetIterable iter X.env x=pure x:=by intro _; rfl) : PS X (.For tg iter body [] pos) (tFor wi g tb):=by
  intro pins s σ H D I h
  refine wpAny_For (thn (hi pins s σ H _ I h) fun v s1 h1 => thn h1 fun itv s2 h2 => ?_) hs
  obtain ⟨it,fp,tn,J,H2,e,I2,T,st2,f2,W,⟨m0,w0⟩,turn⟩:=h2
  subst e
  have stat : ∀ {H' : Hp},(∀ b∈fp,H' b=none)→∀ b∈fp,FpOk X pins H' b:=fun hn b hb => ⟨hn b hb,(f2 b hb).2⟩
  refine codeAny_forLoop_any (fun n s' => ∃ i σ' H',Inv X pins σ' H' s'∧tn i s'.heap∧(∀ b∈fp,H' b=none)∧W i n σ' H') ?_ m0 ⟨0,σ,H2,I2,st2,fun b hb => (f2 b hb).1,w0⟩
  rintro n s3 ⟨i,σ3,H3,I3,st3,fr3,w3⟩
  rcases turn i n σ3 H3 w3 with ⟨stop,qn⟩ | ⟨go,N,hN,step⟩
  · refine wpAny_passesOwn hp (thn (T.done X rfl rfl rfl hc i pins s3 σ3 H3 X.xe I3 (stat fr3) st3 stop) fun r s4 ⟨hr,I4⟩ => ?_)
    subst hr
    exact wpAny_execs_nil ⟨σ3,H3,I4,qn⟩
  · refine wpAny_passesOwn hp (thn (T.item X rfl rfl rfl hc i pins s3 σ3 H3 X.xe I3 (stat fr3) st3 go) fun r s4 ⟨u,hr,h4⟩ => ?_)
    subst hr
    refine wpAny_passesOwn hp (thn h4 fun _ s5 ⟨x,H5,I5,r5,y5,st5,fr5⟩ => ?_)
    have I5':=I5.pinned (stat fr5) (T.obj _ _ st5)
    refine wpAny_passesOwn hp (thn (hg _ s5 σ3 H5 x u _ I5' r5 (step x H5 y5)) fun _ s6 ⟨σ6,H6,I6,q6⟩ => ?_)
    refine wpAny_passesOwn hp (thn (hb _ s6 σ6 H6 _ I6 q6) fun f s7 q7 => ?_)
    have again : ∀ {σ7 : St} {H7 : Hp},Inv X (pins++pinsAt fp s5.heap) σ7 H7 s7→N σ7 H7→∃ m,m < n∧∃ i σ' H',Inv X pins σ' H' s7∧tn i s7.heap∧(∀ b∈fp,H' b=none)∧W i m σ' H':=fun {σ7 H7} I7 n7 => by
      obtain ⟨m',hm,w7⟩:=hN σ7 H7 n7
      refine ⟨m',hm,i+1,σ7,H7,I7.unpinned,T.keep _ _ _ st5 fun b hb o e => (I7.pin (b,o) (List.mem_append_right _ (List.mem_append_right _ (mem_pinsAt hb e)))).1,fun b hb => ?_,w7⟩
      obtain ⟨o,e,d⟩:=T.obj _ _ st5 b hb
      exact (I7.pin (b,o) (List.mem_append_right _ (List.mem_append_right _ (mem_pinsAt hb e)))).2.1
    cases f with
    | next => obtain ⟨σ7,H7,I7,n7⟩:=q7; exact again I7 n7
    | cont => obtain ⟨σ7,H7,I7,n7⟩:=q7; exact again I7 n7
    | brk => obtain ⟨σ7,H7,I7,q7⟩:=q7; exact ⟨σ7,H7,I7.unpinned,q7⟩
    | ret v => obtain ⟨x7,σ7,H7,I7,r7,q7⟩:=q7; exact ⟨x7,σ7,H7,I7.unpinned,r7,q7⟩
end
end L2
namespace L2
open PySem PySem.Spec PyProof.Rows
noncomputable abbrev R2:=V→V→Hp→VK→Prop
noncomputable def OpR (X : Cx) (f : Value→Value→Sem Value) (r : R2) : Prop :=
  ∀ (pins : List (Addr×Obj)) (s : Shared) (σ : St) (H : Hp) (x y : V) (v u : Value) (Q : VK),Inv X pins σ H s→RelV x v→RelV y u→r x y H Q →
    wpAny (model X.prog X.w) X.A (f v u) (EP X pins σ Q) X.xe s
noncomputable def UnR (X : Cx) (f : Value→Sem Value) (r : V→Hp→VK→Prop) : Prop :=
  ∀ (pins : List (Addr×Obj)) (s : Shared) (σ : St) (H : Hp) (x : V) (v : Value) (Q : VK),Inv X pins σ H s→RelV x v→r x H Q →
    wpAny (model X.prog X.w) X.A (f v) (EP X pins σ Q) X.xe s
noncomputable def CallR (X : Cx) (f : Value) (r : List V→Hp→VK→Prop) : Prop :=
  ∀ (pins : List (Addr×Obj)) (s : Shared) (σ : St) (H : Hp) (xs : List V) (us : List Value) (Q : VK),Inv X pins σ H s→Vals xs us→r xs H Q →
    wpAny (model X.prog X.w) X.A (call f us) (EP X pins σ Q) X.xe s
noncomputable def TruR (X : Cx) (r : V→Hp→(Bool→Hp→Prop)→Prop) : Prop :=
  ∀ (pins : List (Addr×Obj)) (s : Shared) (σ : St) (H : Hp) (x : V) (v : Value) (Q : Bool→Hp→Prop),Inv X pins σ H s→RelV x v→r x H Q →
    wpAny (model X.prog X.w) X.A (truthy v) (TP X pins σ Q) X.xe s
noncomputable def tOp (r : R2) (ta tb : TE) : TE:=fun σ H Q => ta σ H fun x H1 => tb σ H1 fun y H2 => r x y H2 Q
noncomputable def rI (C : Int→Int→Prop) (g : Int→Int→V) : R2:=fun x y H Q => ∃ i j,x=.int i∧y=.int j∧C i j∧Q (g i j) H
noncomputable def rI0 (g : Int→Int→V) : R2:=fun x y H Q => ∃ i j,x=.int i∧y=.int j∧Q (g i j) H
noncomputable def rU (g : Int→V) : V→Hp→VK→Prop:=fun x H Q => ∃ i,x=.int i∧Q (g i) H
section
variable {X : Cx} {a b c : Expr} {ta tb tc : TE} {pos : Pos}
theorem binT (ha : PE X a ta) (hb : PE X b tb) {pins : List (Addr×Obj)} {s : Shared} {σ : St} {H : Hp} {R : V→V→Hp→Prop} (I : Inv X pins σ H s)
    (h : ta σ H fun x H1 => tb σ H1 fun y H2 => R x y H2) {Q : Value→Shared→Prop} {f : Value→Value→Sem Value}
    (hf : ∀ v u s2 x y H2,Inv X pins σ H2 s2→RelV x v→RelV y u→R x y H2→wpAny (model X.prog X.w) X.A (f v u) Q X.xe s2) :
    wpAny (model X.prog X.w) X.A (eval a X.env) (fun v s₁ => wpAny (model X.prog X.w) X.A (eval b X.env) (fun u s₂ => wpAny (model X.prog X.w) X.A (f v u) Q X.xe s₂) X.xe s₁) X.xe s:=by
  refine thn (ha pins s σ H _ I h) fun v s1 ⟨x,H1,I1,r1,q1⟩ => ?_
  refine thn (hb pins s1 σ H1 _ I1 q1) fun u s2 ⟨y,H2,I2,r2,q2⟩ => ?_
  exact hf v u s2 x y H2 I2 r1 r2 q2
theorem pe_op {op : Operator} {r : R2} (ho : OpR X (binaryOp op) r) (ha : PE X a ta) (hb : PE X b tb) : PE X (.BinOp a op b pos) (tOp r ta tb):=by
  intro pins s σ H Q I h
  exact wpAny_BinOp (binT ha hb I h fun v u s2 x y H2 I2 rx ry q => ho pins s2 σ H2 x y v u Q I2 rx ry q)
theorem opI {f : Value→Value→Sem Value} {C : Int→Int→Prop} {g : Int→Int→Int}
    (rule : ∀ (i j : Int) (t u : Tok) (s : Shared) (Q : Value→Shared→Prop) (E : Value→Shared→Prop),C i j→Q (.int (g i j) s.toks) { s with toks:=s.toks+1 }→wpAny (model X.prog X.w) X.A (f (.int i t) (.int j u)) Q E s) :
    OpR X f (rI C fun i j => .int (g i j)):=by
  intro pins s σ H x y v u Q I rx ry h
  obtain ⟨i,j,rfl,rfl,hc,q⟩:=h
  obtain ⟨t,rfl⟩:=rx
  obtain ⟨t',rfl⟩:=ry
  exact rule i j t t' s _ _ hc ⟨.int (g i j),H,I.tok _,⟨_,rfl⟩,q⟩
theorem opI0 {f : Value→Value→Sem Value} {g : Int→Int→Int}
    (rule : ∀ (i j : Int) (t u : Tok) (s : Shared) (Q : Value→Shared→Prop) (E : Value→Shared→Prop),Q (.int (g i j) s.toks) { s with toks:=s.toks+1 }→wpAny (model X.prog X.w) X.A (f (.int i t) (.int j u)) Q E s) :
    OpR X f (rI0 fun i j => .int (g i j)):=by
  intro pins s σ H x y v u Q I rx ry h
  obtain ⟨i,j,rfl,rfl,q⟩:=h
  obtain ⟨t,rfl⟩:=rx
  obtain ⟨t',rfl⟩:=ry
  exact rule i j t t' s _ _ ⟨.int (g i j),H,I.tok _,⟨_,rfl⟩,q⟩
theorem opB0 {f : Value→Value→Sem Value} {g : Int→Int→Bool}
    (rule : ∀ (i j : Int) (t u : Tok) (s : Shared) (Q : Value→Shared→Prop) (E : Value→Shared→Prop),Q (.bool (g i j)) s→wpAny (model X.prog X.w) X.A (f (.int i t) (.int j u)) Q E s) :
    OpR X f (rI0 fun i j => .bl (g i j)):=by
  intro pins s σ H x y v u Q I rx ry h
  obtain ⟨i,j,rfl,rfl,q⟩:=h
  obtain ⟨t,rfl⟩:=rx
  obtain ⟨t',rfl⟩:=ry
  exact rule i j t t' s _ _ ⟨.bl (g i j),H,I,rfl,q⟩
noncomputable def CDiv (i j : Int) : Prop:=0 < j∧j < 1073741824
noncomputable def CPow (i j : Int) : Prop:=0≤j∧j≤1000000∧i.natAbs < 2 ^ 64
noncomputable def CMul (i j : Int) : Prop:=(-(2 ^ 64) < i∧i < 2 ^ 64)∨(-(2 ^ 64) < j∧j < 2 ^ 64)
theorem CMul.ok {i j : Int} (h : CMul i j) : IntMulOk i j:=by
  rcases h with ⟨h1,h2⟩ | ⟨h1,h2⟩
  · exact .of_left (intBits_le_64 h1 h2)
  · exact .of_right (intBits_le_64 h1 h2)
theorem op_add : OpR X (binaryOp .Add) (rI0 fun i j => .int (i+j)):=opI0 fun _ _ _ _ _ _ _ q => add_int q
theorem op_mul : OpR X (binaryOp .Mult) (rI CMul fun i j => .int (i * j)):=opI fun _ _ _ _ _ _ _ hc q => mul_int q hc.ok
theorem op_fdiv : OpR X (binaryOp .FloorDiv) (rI CDiv fun i j => .int (i / j)):=opI fun i j _ _ _ _ _ hc q => by
  have h1 : (0 : Int) < j:=hc.1
  have h2 : j < 1073741824:=hc.2
  exact floordiv_int (by omega) (by rw [Int.fdiv_eq_ediv_of_nonneg i (by omega)]; exact q) (.inl (PyProof.noPylong_small (by omega)))
theorem op_mod : OpR X (binaryOp .Mod) (rI (fun _ j => 0 < j) fun i j => .int (i % j)):=opI fun i j _ _ _ _ _ hc q => by
  have h1 : (0 : Int) < j:=hc
  exact mod_int' (by omega) (by rw [Int.fmod_eq_emod_of_nonneg i (by omega)]; exact q)
theorem op_pow : OpR X (binaryOp .Pow) (rI CPow fun i j => .int (i ^ j.toNat)):=opI fun _ _ _ _ _ _ _ hc q => pow_int_small hc.1 hc.2.1 hc.2.2 q
theorem unI {f : Value→Sem Value} {g : Int→Int}
    (rule : ∀ (i : Int) (t : Tok) (s : Shared) (Q : Value→Shared→Prop) (E : Value→Shared→Prop),Q (.int (g i) s.toks) { s with toks:=s.toks+1 }→wpAny (model X.prog X.w) X.A (f (.int i t)) Q E s) :
    UnR X f (rU fun i => .int (g i)):=by
  intro pins s σ H x v Q I rx h
  obtain ⟨i,rfl,q⟩:=h
  obtain ⟨t,rfl⟩:=rx
  exact rule i t s _ _ ⟨.int (g i),H,I.tok _,⟨_,rfl⟩,q⟩
end
section
variable {X : Cx} {a b c : Expr} {ta tb tc : TE} {pos : Pos}
theorem fin_bl {pins : List (Addr×Obj)} {σ : St} {H : Hp} {s : Shared} {Q : VK} {k k' : Bool} (I : Inv X pins σ H s) (q : Q (.bl k) H) (e : k=k') : EP X pins σ Q (.bool k') s:=by
  subst e
  exact ⟨.bl k,H,I,rfl,q⟩
theorem op_lt : OpR X (compareOp .Lt) (rI0 fun i j => .bl (decide (i < j))):=opB0 fun _ _ _ _ _ _ _ q => lt_int q
theorem op_gt : OpR X (compareOp .Gt) (rI0 fun i j => .bl (decide (j < i))):=opB0 fun _ _ _ _ _ _ _ q => gt_int q
theorem op_isN : OpR X (compareOp .Is) (fun x y H Q => y=.non∧Q (.bl (decide (x=.non))) H):=by
  intro pins s σ H x y v u Q I rx ry h
  obtain ⟨rfl,q⟩:=h
  cases ry
  refine is_none_gen (fin_bl I q ?_)
  cases x <;> first
    | (cases rx; rfl)
    | (obtain ⟨t,rfl⟩:=rx; rfl)
theorem OpR.or {f : Value→Value→Sem Value} {r r' : R2} (h : OpR X f r) (h' : OpR X f r') : OpR X f (fun x y H Q => r x y H Q∨r' x y H Q):=by
  intro pins s σ H x y v u Q I rx ry q
  rcases q with q | q
  · exact h pins s σ H x y v u Q I rx ry q
  · exact h' pins s σ H x y v u Q I rx ry q
theorem nomark (b : Expr) {op : CmpOp} (h : op≠.In:=by decide) (h2 : op≠.NotIn:=by decide) : behindInMarks op b=false:=by
  have e1 : (op == CmpOp.In)=false:=by cases op <;> first | rfl | exact absurd rfl h
  have e2 : (op == CmpOp.NotIn)=false:=by cases op <;> first | rfl | exact absurd rfl h2
  cases b <;> simp [behindInMarks,e1,e2]
theorem pe_cmpR {op : CmpOp} {r : R2} (ho : OpR X (compareOp op) r) (ha : PE X a ta) (hb : PE X b tb) (hm : behindInMarks op b=false) : PE X (.Compare a [op] [b] pos) (tOp r ta tb):=by
  intro pins s σ H Q I h
  exact wpAny_Compare1 (binT ha hb I h fun v u s2 x y H2 I2 rx ry q => ho pins s2 σ H2 x y v u Q I2 rx ry q) hm
noncomputable def tTest (t : TE) : TT:=fun σ H Q => t σ H fun x H' => ∃ k,x=.bl k∧Q k H'
theorem pt_cmpR {op : CmpOp} {r : R2} (ho : OpR X (compareOp op) r) (ha : PE X a ta) (hb : PE X b tb) (hm : behindInMarks op b=false) : PT X (.Compare a [op] [b] pos) (tTest (tOp r ta tb)):=by
  intro pins s σ H Q I h
  refine wpAny_isTrue_Compare1 (thn (ha pins s σ H _ I h) fun v s1 ⟨x,H1,I1,r1,q1⟩ => thn (hb pins s1 σ H1 _ I1 q1) fun u s2 ⟨y,H2,I2,r2,q2⟩ =>
    thn (ho pins s2 σ H2 x y v u _ I2 r1 r2 q2) fun c s3 ⟨z,H3,I3,r3,k,e,q3⟩ => ?_) hm
  subst e
  cases r3
  exact wpAny_truthy_bool ⟨H3,I3,q3⟩
noncomputable def TruV (K : PySem.W.Frag) (x : V) (H : Hp) (k : Bool) : Prop :=
  match x with
  | .non => k=false
  | .bl b => k=b
  | .int i => k=(i != 0)
  | .str y => y.length≤sizeLine∧k=((y.length : Int) != 0)
  | .byt y => y.size≤sizeLine∧k=((y.size : Int) != 0)
  | .ref p => (∃ xs,SqL K H p xs∧k=!xs.isEmpty)∨(∃ xs,SqT K H p xs∧k=!xs.isEmpty)∨∃ kvs,H p=some (.dK kvs)∧k=!kvs.isEmpty
  | _ => False
theorem isEmpty_kv {κ : Type} {kvs : List (κ×V)} {vs : List (κ×Value)} (r : KV kvs vs) : (!vs.isEmpty)=!kvs.isEmpty:=by
  cases r <;> rfl
theorem isEmpty_of {xs : List V} {its : List Value} (r : Vals xs its) : (!its.toArray.isEmpty)=!xs.isEmpty:=by
  cases r <;> simp
theorem line63 : (sizeLine : Nat) < 2 ^ 63:=by rw [sizeLine_eq]; decide
theorem tru_ok : TruR X (fun x H Q => ∃ k,TruV X.K x H k∧Q k H):=by
  intro pins s σ H x v Q I rx h
  obtain ⟨k,e,q⟩:=h
  have hl:=line63
  have hs : sizeLine=16777216:=sizeLine_eq
  cases x with
  | non =>
    cases rx
    have e' : k=false:=e
    subst e'
    exact truthy_none ⟨H,I,q⟩
  | bl b =>
    cases rx
    have e' : k=b:=e
    subst e'
    exact wpAny_truthy_bool ⟨H,I,q⟩
  | int i =>
    obtain ⟨t,rfl⟩:=rx
    have e' : k=(i != 0):=e
    subst e'
    exact PySem.P.truthy_int ⟨H,I,q⟩
  | str y =>
    obtain ⟨t,rfl⟩:=rx
    obtain ⟨hy,e'⟩ : y.length≤sizeLine∧k=((y.length : Int) != 0):=e
    subst e'
    exact PySem.P.truthy_str (by omega) ⟨H,I.tok _,q⟩
  | byt y =>
    obtain ⟨t,rfl⟩:=rx
    obtain ⟨hy,e'⟩ : y.size≤sizeLine∧k=((y.size : Int) != 0):=e
    subst e'
    exact PySem.W.truthy_bytes (by omega) ⟨H,I.tok _,q⟩
  | ref p =>
    cases rx
    have e' : (∃ xs,SqL X.K H p xs∧k=!xs.isEmpty)∨(∃ xs,SqT X.K H p xs∧k=!xs.isEmpty)∨∃ kvs,H p=some (.dK kvs)∧k=!kvs.isEmpty:=e
    rcases e' with ⟨xs,hx,e'⟩ | ⟨xs,hx,e'⟩ | ⟨kvs,hx,e'⟩
    · subst e'
      obtain ⟨its,r,pl,hz⟩:=I.list hx
      have hlen:=r.length
      exact wpAny_truthy_list pl.isList (by simp only [List.size_toArray]; omega) ⟨H,I.tok _,by rw [isEmpty_of r]; exact q⟩
    · subst e'
      obtain ⟨its,r,pl,hz⟩:=I.tuple hx
      have hlen:=r.length
      exact truthy_tuple pl (by simp only [List.size_toArray]; omega) ⟨H,I.tok _,by rw [isEmpty_of r]; exact q⟩
    · subst e'
      obtain ⟨hz,hS,vs,r,m⟩ : kvs.length≤sizeLine∧(p == sysModules)=false∧∃ vs,KV kvs vs∧s.heap.DictOf (mixKind X.prog X.w) p vs:=I.hok p _ hx
      have hlen : kvs.length=vs.length:=Paired.length r
      exact wpAny_truthy_dict hS m (by omega) ⟨H,I.tok _,by rw [isEmpty_kv r]; exact q⟩
  | _ => exact (show False from e).elim
theorem pt_truth (ha : PE X a ta) (he : ∀ whole,isTrue a X.env whole=(do let v ← whole; standAt a.pos; holding [v] (truthy v))) :
    PT X a (fun σ H Q => ta σ H fun x H' => ∃ k,TruV X.K x H' k∧Q k H'):=by
  intro pins s σ H Q I h
  exact isTrue_plain (thn (ha pins s σ H _ I h) fun v s1 ⟨x,H1,I1,r1,q1⟩ => tru_ok pins s1 σ H1 x v Q I1 r1 q1) (he _)
theorem op_add_str : OpR X (binaryOp .Add) (fun x y H Q => ∃ i j,x=.str i∧y=.str j∧i.length+j.length≤sizeLine∧Q (.str (i++j)) H):=by
  intro pins s σ H x y v u Q I rx ry h
  obtain ⟨i,j,rfl,rfl,hz,q⟩:=h
  obtain ⟨t,rfl⟩:=rx
  obtain ⟨t',rfl⟩:=ry
  exact add_str (fun t' tk => ⟨.str (i++j),H,I.tok _,⟨_,rfl⟩,q⟩) hz
theorem vals1 {x : V} {us : List Value} (r : Vals [x] us) : ∃ u,us=[u]∧RelV x u:=by
  cases r with
  | cons r1 r2 => cases r2; exact ⟨_,rfl,r1⟩
theorem vals2 {x y : V} {us : List Value} (r : Vals [x,y] us) : ∃ u w',us=[u,w']∧RelV x u∧RelV y w':=by
  cases r with
  | cons r1 r2 =>
    cases r2 with
    | cons r3 r4 => cases r4; exact ⟨_,_,rfl,r1,r3⟩
theorem call_abs : CallR X (.builtin "abs") (fun xs H Q => ∃ i, xs = [.int i] ∧ Q (.int (if i < 0 then -i else i)) H) := by
  intro pins s σ H xs us Q I r h
  obtain ⟨i,rfl,q⟩:=h
  obtain ⟨u,rfl,t,rfl⟩:=vals1 r
  exact call_abs_int fun u tk => ⟨.int (if i < 0 then -i else i),H,I.tok _,⟨_,rfl⟩,q⟩
theorem call_max2 (hc : X.calm = true) : CallR X (.builtin "max") (fun xs H Q => ∃ i j, xs = [.int i, .int j] ∧ Q (.int (if j > i then j else i)) H) := by
  intro pins s σ H xs us Q I r h
  obtain ⟨i,j,rfl,q⟩:=h
  obtain ⟨u,w',rfl,⟨t,rfl⟩,⟨t',rfl⟩⟩:=vals2 r
  refine max_two_ints (I.ok.hd hc) fun h' tk k => ⟨_,H,I.kept k,?_,q⟩
  by_cases hj : j > i
  · rw [if_pos hj,if_pos hj]; exact ⟨_,rfl⟩
  · rw [if_neg hj,if_neg hj]; exact ⟨_,rfl⟩
theorem call_min2 (hc : X.calm = true) : CallR X (.builtin "min") (fun xs H Q => ∃ i j, xs = [.int i, .int j] ∧ Q (.int (if j < i then j else i)) H) := by
  intro pins s σ H xs us Q I r h
  obtain ⟨i,j,rfl,q⟩:=h
  obtain ⟨u,w',rfl,⟨t,rfl⟩,⟨t',rfl⟩⟩:=vals2 r
  refine min_two_ints (I.ok.hd hc) fun h' tk k => ⟨_,H,I.kept k,?_,q⟩
  by_cases hj : j < i
  · rw [if_pos hj,if_pos hj]; exact ⟨_,rfl⟩
  · rw [if_neg hj,if_neg hj]; exact ⟨_,rfl⟩
theorem call_int1 : CallR X (.type "int") (fun xs H Q => (∃ i, xs = [.int i] ∧ Q (.int i) H) ∨ ∃ k, xs = [.bl k] ∧ Q (.int (if k then 1 else 0)) H) := by
  intro pins s σ H xs us Q I r h
  rcases h with ⟨i,rfl,q⟩ | ⟨k,rfl,q⟩
  · obtain ⟨u,rfl,t,rfl⟩:=vals1 r
    exact call_int_int ⟨.int i,H,I,⟨_,rfl⟩,q⟩
  · obtain ⟨u,rfl,r1⟩:=vals1 r
    cases r1
    exact call_int_bool ⟨.int (if k then 1 else 0),H,I.tok _,⟨_,rfl⟩,q⟩
end
end L2
namespace L2
open PySem PySem.Spec PyProof.Rows
structure ObjM (h : Heap) (x dx C : Addr) (mA : Str→Option Value) : Prop where
  obj : h.get? x=some (PySem.W.instObj C dx)
  ns : h.Ns1 dx mA
  ne : dx≠x
section
variable {prog : Program} {w : World} {A : Around} {E : Value→Shared→Prop} {s : Shared} {K : PySem.W.Frag} {x dx C f : Addr} {mA : Str→Option Value} {name : Str} {v : Value}
end
theorem RelO.some_of {v : V} {o : Option Value} (r : RelO (some v) o) : ∃ u,o=some u∧RelV v u:=by
  cases o with
  | none => exact (show False from r).elim
  | some u => exact ⟨u,rfl,r⟩
section
variable {P : Program} {w : World} {H H' : Hp} {h h' : Heap} {a C dx : Addr} {fs fs' : List (Str×V)}
end
structure Cls (K : PySem.W.Frag) (C : Addr) : Prop where
  pg : PySem.W.plainGet K C Str.empty=true
  hd : PySem.W.hasDictIn K C=true
  po : PySem.W.plainOver K C=true
  sa : PySem.W.findIn K (.ref C) "__setattr__" = some (some (.builtin "object.__setattr__"))
structure Con (K : PySem.W.Frag) (C : Addr) (f : Str) (v : V) (u : Value) : Prop where
  at_ : PySem.W.findIn K (.ref C) f=some (some u)
  rel : RelV v u
  get : PySem.W.specialIn K u "__get__" = some none
  cp : PySem.W.copiedNames.contains f=false
structure Meth (K : PySem.W.Frag) (C : Addr) (m : Str) (f : Addr) : Prop where
  at_ : PySem.W.findIn K (.ref C) m=some (some (.ref f))
  fn : PySem.W.isFn K (.ref f)=true
  kp : PySem.W.keepIn K (.ref f)=true
section
variable {X : Cx} {pins : List (Addr×Obj)} {σ : St} {H : Hp} {s : Shared} {a C dx : Addr} {fs : List (Str×V)} {f : Str} {v : V} {A : Around} {E : Value→Shared→Prop}
end
section
variable {X : Cx} {o e value : Expr} {f : Str} {pos pos' tpos : Pos} {ta tv : TE}
end
section
variable {X : Cx} {pins : List (Addr×Obj)} {σ : St} {H : Hp} {s : Shared} {A : Around} {E : Value→Shared→Prop} {Q : Value→Shared→Prop} {c : Value} {b : Bool}
inductive TyOf (K : PySem.W.Frag) (H : Hp) : V→Value→Prop where
  | non : TyOf K H .non (.type "NoneType")
  | bl (x : Bool) : TyOf K H (.bl x) (.type "bool")
  | int (i : Int) : TyOf K H (.int i) (.type "int")
  | str (x : Str) : TyOf K H (.str x) (.type "str")
  | flt (x : UInt64) : TyOf K H (.flt x) (.type "float")
  | lst {a : Addr} {xs : List V} (e : H a = some (.lst xs)) : TyOf K H (.ref a) (.type "list")
  | frz {a : Addr} {o : Obj} {xs : List V} (e : H a = some (.frz o (.lst xs))) : TyOf K H (.ref a) (.type "list")
  | tup {a : Addr} {xs : List V} (e : H a = some (.tup xs)) : TyOf K H (.ref a) (.type "tuple")
  | dK {a : Addr} {kvs : List (Key × V)} (e : H a = some (.dK kvs)) : TyOf K H (.ref a) (.type "dict")
  | dT {a : Addr} {kvs : List (List Key × V)} (e : H a = some (.dT kvs)) : TyOf K H (.ref a) (.type "dict")
  | ins {a C dx : Addr} {fs : List (Str × V)} (e : H a = some (.ins C dx fs)) (cl : Cls K C) (ha : PySem.W.findIn K (.ref C) "__class__" = some (some (.builtin "object.__class__")))
      (hn : PySem.W.specialIn K (.builtin "object.__class__") "__get__" = some (some (.builtin "getset_descriptor.__get__"))) (htk : PySem.W.takesIn K (.builtin "object.__class__") = some true)
      (hm : PySem.W.mroIn K C (.type "object") = some true) : TyOf K H (.ref a) (.ref C)
end
end L2
namespace L2
open PySem PySem.Spec PyProof.Rows
structure Room (k : Nat) (A : Around) : Prop where
  hd : A.handled=none
  dp : A.depth+3 * k+5 < recursionLimit
  un : A.units+16 * k+200 < cLine
  gd : A.guards=some []
theorem Room.mono {j k : Nat} {A : Around} (r : Room k A) (h : j≤k) : Room j A:=⟨r.hd,by have:=r.dp; omega,by have:=r.un; omega,r.gd⟩
theorem Room.deeper {k : Nat} {A : Around} (r : Room (k+1) A) (env : Env) : Room k (A.deeper env) :=
  ⟨r.hd,by have:=r.dp; show A.depth+1+3 * k+5 < _; omega,by have:=r.un; show A.units+3+16 * k+200 < _; omega,r.gd⟩
theorem Room.depth {k : Nat} {A : Around} (r : Room k A) : A.depth < recursionLimit:=by have:=r.dp; omega
theorem Room.units {k : Nat} {A : Around} (r : Room k A) : A.units+64 < cLine:=by have:=r.un; omega
noncomputable def tNil : TA:=fun _ H Q => Q [] H
noncomputable def tCons (ta : TE) (tr : TA) : TA:=fun σ H Q => ta σ H fun x H1 => tr σ H1 fun xs H2 => Q (x :: xs) H2
section
variable {X : Cx} {e : Expr} {es : List Expr} {te : TE} {t : TA} {pos : Pos}
theorem pa_nil : PA X [] tNil:=fun _ _ _ _ H Q I h => Calls.spliced_nil ⟨[],H,I,.nil,h⟩
theorem pa_cons (ha : PE X e te) (hr : PA X es t) (hs : starEach (e :: es) X.env=(false,eval e X.env) :: starEach es X.env:=by rfl) : PA X (e :: es) (tCons te t):=by
  intro pos pins s σ H Q I h
  rw [hs]
  show wpAny _ _ (spliced ((false,eval e X.env) :: backTo pos (starEach es X.env))) _ _ s
  refine Calls.spliced_cons (thn (ha pins s σ H _ I h) fun u s1 ⟨x,H1,I1,r1,q1⟩ => ?_)
  exact thn (hr pos pins s1 σ H1 _ I1 q1) fun us s2 ⟨xs,H2,I2,r2,q2⟩ => ⟨x :: xs,H2,I2,.cons r1 r2,q2⟩
noncomputable def tTup (t : TA) : TE:=fun σ H Q => t σ H fun xs H1 => xs.length≤sizeLine∧∀ p,H1 p=none→Q (.ref p) (upd H1 p (.tup xs))
noncomputable def tLst (t : TA) : TE:=fun σ H Q => t σ H fun xs H1 => xs.length≤sizeLine∧∀ p,H1 p=none→Q (.ref p) (upd H1 p (.lst xs))
theorem pe_tup {x1} (h : PA X es t) : PE X (.Tuple es x1 pos) (tTup t):=by
  intro pins s σ H Q I hq
  refine wpAny_Tuple_spliced (thn (h pos pins s σ H _ I hq) fun us s1 ⟨xs,H1,I1,r,z,q⟩ => ⟨by rw [← r.length]; exact z,?_⟩)
  have hf : H1 s1.heap.objs.size=none:=I1.hok.fresh (Nat.le_refl _)
  refine ⟨.ref s1.heap.objs.size,upd H1 s1.heap.objs.size (.tup xs),I1.laid (t':=s1.toks) (fun b u e => Heap.get?_push_of_some _ e) (Nat.le_refl _) ?_,rfl,q _ hf⟩
  exact ⟨z,us,r,⟨_,Heap.get?_push_size _ rfl,rfl,_,rfl⟩⟩
theorem pe_lst (h : PA X es t) : PE X (.List es pos) (tLst t):=by
  intro pins s σ H Q I hq
  refine wpAny_List_spliced (thn (h pos pins s σ H _ I hq) fun us s1 ⟨xs,H1,I1,r,z,q⟩ => ⟨by rw [← r.length]; exact z,?_⟩)
  have hf : H1 s1.heap.objs.size=none:=I1.hok.fresh (Nat.le_refl _)
  refine ⟨.ref s1.heap.objs.size,upd H1 s1.heap.objs.size (.lst xs),I1.laid (t':=s1.toks) (fun b u e => Heap.get?_push_of_some _ e) (Nat.le_refl _) ?_,rfl,q _ hf⟩
  exact ⟨z,us,0,r,Heap.get?_push_size _ rfl⟩
end
noncomputable abbrev Sp:=List V→Hp→VK→XK→Prop
noncomputable abbrev CXT:=List Env→Hp→Shared→XK→Value→Shared→Prop
structure Env0 (P : Program) (w : World) (K : PySem.W.Frag) (mg : Str→Option Value) (base : Heap) (A : Around) (outer : List Env) (s : Shared) (H : Hp) : Prop where
  frames : A.frames=some outer
  mod : Mod K mg base
  bs : ∀ b o,base.get? b=some o→s.heap.get? b=some o∧H b=none
  bsz : base.objs.size≤s.heap.objs.size
  funs : s.heap.FunFrames base outer
  frf : ∀ b∈frs outer,H b=none
  hok : HOk P w H s.heap
  bare : AllBare s.gens
noncomputable def CE (outer : List Env) (P : Program) (w : World) (H : Hp) (s : Shared) (Q : VK) (u : Value) (s' : Shared) : Prop :=
  ∃ v H',s'.os=s.os∧AllBare s'.gens∧Un (frs outer) [] H H' s.heap s'.heap∧HOk P w H' s'.heap∧RelV v u∧Q v H'
noncomputable def CR (CX : CXT) (outer : List Env) (P : Program) (w : World) (H : Hp) (s : Shared) (Q : VK) (E : XK) (r : Result) (s' : Shared) : Prop :=
  match r with
  | .ok (.ret u) => CE outer P w H s Q u s'
  | .ok _ => False
  | .error e => CX outer H s E e s'
structure FnOk (P : Program) (w : World) (K : PySem.W.Frag) (mg : Str→Option Value) (base : Heap) (CX : CXT) (k : Nat) (f : Addr) (fd : FuncData) (ps : List Str) (sp : Sp) : Prop where
  len : ∀ vs H Q E,sp vs H Q E→vs.length=ps.length
  run : ∀ (A : Around) (outer : List Env) (s : Shared) (H : Hp) (args : Args) (us : List Value) (vs : List V) (Q : VK) (E : XK),Room k A→Env0 P w K mg base A outer s H→BindsTo s fd args (ps.zip us)→Vals vs us→sp vs H Q E →
    codeAny (model P w) A (.call (.ref f) args) (CR CX outer P w H s Q E) s
theorem FnOk.mono {P : Program} {w : World} {K : PySem.W.Frag} {mg : Str→Option Value} {base : Heap} {CX : CXT} {j k : Nat} {f : Addr} {fd : FuncData} {ps : List Str} {sp : Sp} (F : FnOk P w K mg base CX j f fd ps sp) (h : j≤k) :
    FnOk P w K mg base CX k f fd ps sp:=⟨F.len,fun A outer s H args us vs Q E hr => F.run A outer s H args us vs Q E (hr.mono h)⟩
section
variable {X : Cx} {pins : List (Addr×Obj)} {σ : St} {H : Hp} {s s' : Shared}
theorem Inv.env0 (I : Inv X pins σ H s) : Env0 X.prog X.w X.K X.mg X.base X.A X.stack s H :=
  ⟨I.ok.frames,I.ok.mod,I.bs,Nat.le_trans I.ok.bsz I.sz,I.stack,I.stkFree,I.hok,I.bare⟩
theorem Inv.after {Q : VK} {u : Value} (I : Inv X pins σ H s) (h : CE X.stack X.prog X.w H s Q u s') : EP X pins σ Q u s':=by
  obtain ⟨v,H',os,bare,un,hok,r,q⟩:=h
  obtain ⟨hh,g,d,t,os'⟩:=s'
  obtain rfl : os'=s.os:=os
  exact ⟨v,H',I.call (h':=hh) (g':=g) (d':=d) (t':=t) (ch:=[]) un hok bare (fun b z => absurd z (by simp)),r,q⟩
end
noncomputable def tCall (sp : Sp) (dvs : List V) (E : XK) (t : TA) : TE:=fun σ H Q => t σ H fun vs H1 => sp (vs++dvs) H1 Q E
noncomputable def Binds (K : PySem.W.Frag) (fd : FuncData) (ps : List Str) (ds : List Value) : Prop :=
  ∀ (s : Shared) (us : List Value),K.In s.heap→(us++ds).length=ps.length→BindsTo s fd ⟨us,[]⟩ (ps.zip (us++ds))
theorem Binds.all {K : PySem.W.Frag} {fd : FuncData} {ps : List Str} (h : ∀ us : List Value,us.length=ps.length→bindArgs fd ⟨us,[]⟩=pure (ps.zip us)) : Binds K fd ps []:=fun s us _ hl => by
  rw [List.append_nil] at hl ⊢
  exact .of_eq (h us hl)
noncomputable def Passes (CX : CXT) (X : Cx) (E : XK) : Prop:=∀ (pins : List (Addr×Obj)) (σ : St) (H : Hp) (s : Shared) (e : Value) (s' : Shared),Inv X pins σ H s→CX X.stack H s E e s'→X.xe e s'
section
variable {X : Cx} {CX : CXT} {k : Nat} {f C : Addr} {fd : FuncData} {ps : List Str} {sp : Sp} {dvs : List V} {ds : List Value} {E : XK} {x m : Str} {p pos apos : Pos} {e o : Expr} {es : List Expr} {ta : TE} {t : TA}
theorem run_fn {pins : List (Addr×Obj)} {σ : St} {H : Hp} {s : Shared} {Q : VK} {us : List Value} {vs : List V} (F : FnOk X.prog X.w X.K X.mg X.base CX k f fd ps sp) (hr : Room k X.A) (hb : Binds X.K fd ps ds) (hd : Vals dvs ds) (hx : Passes CX X E)
    (I : Inv X pins σ H s) (r : Vals vs us) (h : sp (vs++dvs) H Q E) : wpAny (model X.prog X.w) X.A (call (.ref f) us) (EP X pins σ Q) X.xe s:=by
  have r2 : Vals (vs++dvs) (us++ds):=r.append hd
  have hl : (us++ds).length=ps.length:=by rw [← r2.length]; exact F.len _ _ _ _ h
  refine wpAny_call (codeAny_mono (F.run X.A X.stack s H ⟨us,[]⟩ (us++ds) (vs++dvs) Q E hr I.env0 (hb s us I.kIn hl) r2 h) fun r s' hq => ?_)
  cases r with
  | error e => exact hx pins σ H s e s' I hq
  | ok fl =>
    cases fl with
    | ret u => exact I.after hq
    | next => exact False.elim hq
    | brk => exact False.elim hq
    | cont => exact False.elim hq
theorem pe_call (F : FnOk X.prog X.w X.K X.mg X.base CX k f fd ps sp) (hr : Room k X.A) (hg : Gl X x) (hm : X.mg x=some (.ref f)) (hk : PySem.W.keepIn X.K (.ref f)=true) (hb : Binds X.K fd ps ds) (hd : Vals dvs ds) (hx : Passes CX X E)
    (ha : PA X (e :: es) t) (hdb : (x == ("__debug__" : Str)) = false := by decide) (he : starEach (e :: es) X.env = (false, eval e X.env) :: starEach es X.env := by rfl) (hpl : (backTo pos (starEach es X.env)).any (·.1) = false := by rfl) :
    PE X (.Call (.Name x p) (e :: es) [] pos) (tCall sp dvs E t):=by
  intro pins s σ H Q I h
  refine wpAny_Call_Name_kw (ld_glob I hg hm ?_ hdb)
  refine PySem.W.callWith_K (h₀:=X.base) I.ok.mod.kin hk (thn (ha pos pins s σ H _ I h) fun us s1 ⟨vs,H1,I1,r,q⟩ => ⟨I1.kIn,?_⟩) he hpl
  exact run_fn F hr hb hd hx I1 r q
structure Mk (K : PySem.W.Frag) (C f : Addr) : Prop where
  makes : PySem.W.makesIn K C=true
  init : PySem.W.findIn K (.ref C) "__init__" = some (some (.ref f))
  fn : PySem.W.isFn K (.ref f)=true
  kp : PySem.W.keepIn K (.ref C)=true
end
noncomputable def PK (X : Cx) (kws : List Keyword) (t : TA) : Prop :=
  ∀ (pos : Pos) (pins : List (Addr×Obj)) (s : Shared) (σ : St) (H : Hp) (Q : List V→Hp→Prop),Inv X pins σ H s→t σ H Q→wpAny (model X.prog X.w) X.A (evalAll ((backToKw pos (keywordEach kws X.env)).map (·.2))) (AP X pins σ Q) X.xe s
section
variable {X : Cx} {CX : CXT} {k : Nat} {f C : Addr} {fd : FuncData} {ps ks : List Str} {sp : Sp} {E : XK} {x m : Str} {p pos apos kpos : Pos} {e o : Expr} {es : List Expr} {kws : List Keyword} {te ta : TE} {t tk : TA} {nm : Option Str}
structure KBinds (K : PySem.W.Frag) (fd : FuncData) (ps ks : List Str) (g : List Value→List Value→List Value) (gV : List V→List V→List V) : Prop where
  to : ∀ (s : Shared) (us ws : List Value),K.In s.heap→(g us ws).length=ps.length→BindsTo s fd ⟨us,ks.zip ws⟩ (ps.zip (g us ws))
  rel : ∀ {vs : List V} {us : List Value} {zs : List V} {ws : List Value},Vals vs us→Vals zs ws→Vals (gV vs zs) (g us ws)
variable {g : List Value→List Value→List Value} {gV : List V→List V→List V}
end
structure FnScope (N P : List Str) (sc : Scope) : Prop where
  kind : sc.kind=.function
  co : sc.isCoroutine=false
  gen : sc.isGenerator=false
  nd : N.Nodup
  pre : N.take P.length=P
  par : ∀ x∈P,sc.names.lookup x=some .local∨sc.names.lookup x=some .cell
  nofree : ∀ y∈sc.names,y.2≠.free
theorem bindL_out {kindOf : Str→Option NameKind} {x : Str} : ∀ {binds : List (Str×Value)} {m : Str→Option Value},(∀ v,(x,v) ∉ binds)→bindL kindOf binds m x=m x
  | [],_,_ => rfl
  | (n,v) :: r,m,h => by
    unfold bindL
    rw [bindL_out fun w hw => h w (List.mem_cons_of_mem _ hw)]
    split
    · have : x≠n:=by rintro rfl; exact h v List.mem_cons_self
      simp [this]
    · rfl
theorem bindC_out {kindOf : Str→Option NameKind} {x : Str} : ∀ {binds : List (Str×Value)} {m : Str→Option Value},(∀ v,(x,v) ∉ binds)→bindC kindOf binds m x=m x
  | [],_,_ => rfl
  | (n,v) :: r,m,h => by
    unfold bindC
    rw [bindC_out fun w hw => h w (List.mem_cons_of_mem _ hw)]
    split
    · rfl
    · have : x≠n:=by rintro rfl; exact h v List.mem_cons_self
      simp [this]
theorem bindL_get {kindOf : Str→Option NameKind} {x : Str} {v : Value} : ∀ {P : List Str} {vs : List Value} {i : Nat} {m : Str→Option Value},P.Nodup→P[i]?=some x→vs[i]?=some v→kindOf x=some .local →
    bindL kindOf (P.zip vs) m x=some v
  | [],_,_,_,_,h,_,_ => by simp at h
  | _ :: _,[],_,_,_,_,h,_ => by simp at h
  | p :: P,w :: vs,0,m,nd,h1,h2,hk => by
    simp at h1 h2; subst h1; subst h2
    show bindL kindOf ((p,w) :: P.zip vs) m p=_
    unfold bindL
    rw [bindL_out fun v hv => (List.nodup_cons.mp nd).1 (List.of_mem_zip hv).1,if_pos hk]
    simp
  | p :: P,w :: vs,i+1,m,nd,h1,h2,hk => by
    show bindL kindOf ((p,w) :: P.zip vs) m x=_
    unfold bindL
    exact bindL_get (i:=i) (List.nodup_cons.mp nd).2 (by simpa using h1) (by simpa using h2) hk
theorem bindC_get {kindOf : Str→Option NameKind} {x : Str} {v : Value} : ∀ {P : List Str} {vs : List Value} {i : Nat} {m : Str→Option Value},P.Nodup→P[i]?=some x→vs[i]?=some v→kindOf x≠some .local →
    bindC kindOf (P.zip vs) m x=some v
  | [],_,_,_,_,h,_,_ => by simp at h
  | _ :: _,[],_,_,_,_,h,_ => by simp at h
  | p :: P,w :: vs,0,m,nd,h1,h2,hk => by
    simp at h1 h2; subst h1; subst h2
    show bindC kindOf ((p,w) :: P.zip vs) m p=_
    unfold bindC
    rw [bindC_out fun v hv => (List.nodup_cons.mp nd).1 (List.of_mem_zip hv).1,if_neg hk]
    simp
  | p :: P,w :: vs,i+1,m,nd,h1,h2,hk => by
    show bindC kindOf ((p,w) :: P.zip vs) m x=_
    unfold bindC
    exact bindC_get (i:=i) (List.nodup_cons.mp nd).2 (by simpa using h1) (by simpa using h2) hk
noncomputable def start (N : List Str) (vs : List V) : St:=vs.map some++List.replicate (N.length - vs.length) none
noncomputable def cxOf (CX : CXT) (P : Program) (w : World) (K : PySem.W.Frag) (mg : Str→Option Value) (base : Heap) (N : List Str) (qual : Str) (scope : Scope) (f : Addr) (cd : Value) (A : Around) (outer : List Env) (s : Shared) (H : Hp) (E : XK) : Cx where
  prog:=P
  w:=w
  K:=K
  mg:=mg
  base:=base
  A:=A.deeper (envOfC qual scope s.heap.objs.size f cd)
  N:=N
  s₀:=s
  H₀:=H
  env:=envOfC qual scope s.heap.objs.size f cd
  outer:=outer
  stack:=envOfC qual scope s.heap.objs.size f cd :: outer
  ex:=[]
  calm:=true
  fn:=fun _ => true
  pn:=[]
  xe:=fun e s' => wpAny (model P w) (A.deeper (envOfC qual scope s.heap.objs.size f cd)) (leaving (envOfC qual scope s.heap.objs.size f cd) e) (fun _ s'' => CX outer H s E e s'') (fun e' s'' => CX outer H s E e' s'') s'
theorem cell_has {sc : Scope} {n : Nat} {x : Str} (h : sc.names.lookup x=some .cell) : ∃ c,(cellsFrom n sc.names []).lookup x=some c:=by
  have q:=PySem.W.cellsFrom_some sc.names n [] (.inl h)
  exact Option.isSome_iff_exists.mp q
theorem inv_start {CX : CXT} {P : Program} {w : World} {K : PySem.W.Frag} {mg : Str→Option Value} {base : Heap} {N ps : List Str} {qual : Str} {scope : Scope} {f : Addr} {cd : Value} {A : Around} {outer : List Env} {s s1 : Shared} {H : Hp} {E : XK} {us : List Value} {vs : List V}
    (S : FnScope N ps scope) (hd : A.handled=none) (e0 : Env0 P w K mg base A outer s H) (hl : vs.length=ps.length) (r : Vals vs us)
    (x : InCallC s s.heap.objs.size (bindL (envOfC qual scope s.heap.objs.size f cd).kindOf (ps.zip us) fun _ => none) (cellsFrom (s.heap.objs.size+1) scope.names []) (bindC (envOfC qual scope s.heap.objs.size f cd).kindOf (ps.zip us) fun _ => none) s1) :
    Inv (cxOf CX P w K mg base N qual scope f cd A outer s H E) [] (start N vs) H s1:=by
  have hpl : ps.length≤N.length:=by have:=congrArg List.length S.pre; rw [List.length_take] at this; omega
  obtain ⟨h1,tk,rfl,hk⟩:=x.done
  have noA : ∀ b : Addr,b ∉ (cxOf CX P w K mg base N qual scope f cd A outer s H E).ex:=fun b z => absurd (show b∈([] : List Addr) from z) (by simp)
  refine ⟨⟨e0.mod,S.kind,rfl,rfl,Nat.le_refl _,fun y z c h1 h2 => ?_,fun y hy => ?_,fun y c _ h => ?_,fun _ => hd,Around.frames_deeper e0.frames,.inr ⟨rfl,rfl⟩,fun b z => absurd z (noA b),e0.bs,e0.bsz,fun b _ _ => noA b,fun b z => absurd z (noA b),e0.funs,e0.frf⟩,
    rfl,e0.bare,Un.kept hk,⟨_,x.toInCall.ns,fun i y v h1 h2 h3 => ?_⟩,fun y c h => ⟨_,x.cell y c h⟩,e0.hok.fresh (Nat.le_refl _),fun y c h => ?_,fun p hp => absurd (show p∈([] : List (Addr×Obj)) from hp) (by simp),e0.hok.kept hk,?_⟩
  · exact name_of_addr x.apart (PySem.mem_of_lookup h1) (PySem.mem_of_lookup h2)
  · have hy : scope.names.lookup y=some .cell∨scope.names.lookup y=some .free:=hy
    rcases hy with hy | hy
    · exact cell_has hy
    · exact absurd rfl (S.nofree _ (PySem.mem_of_lookup hy))
  · exact Nat.le_of_lt (x.above y c (PySem.mem_of_lookup h))
  · have hi : i < vs.length:=by
      unfold start at h2
      by_cases hi : i < vs.length
      · exact hi
      · rw [List.getElem?_append_right (by simpa using hi)] at h2
        rw [List.getElem?_replicate] at h2
        split at h2 <;> cases h2
    have ha : vs[i]?=some v:=by
      unfold start at h2
      rw [List.getElem?_append_left (by simpa using hi),List.getElem?_map] at h2
      cases e : vs[i]? with
      | none => rw [e] at h2; cases h2
      | some a => rw [e] at h2; cases h2; rfl
    obtain ⟨u,hu,rv⟩:=r.get ha
    have hp : ps[i]?=some y:=by
      rw [← S.pre,List.getElem?_take_of_lt (by omega)]; exact h1
    have ndP : ps.Nodup:=by rw [← S.pre]; exact S.nd.sublist (List.take_sublist _ _)
    refine ⟨u,rv,?_⟩
    rcases S.par y (List.mem_of_getElem? hp) with k | k
    · exact .inl ⟨k,bindL_get ndP hp hu k⟩
    · obtain ⟨c,e⟩:=cell_has (n:=s.heap.objs.size+1) k
      refine .inr ⟨.inl k,c,e,?_⟩
      have q:=x.cell y c e
      rw [bindC_get ndP hp hu (by show scope.names.lookup y≠_; rw [k]; decide)] at q
      exact q
  · exact e0.hok.fresh (Nat.le_of_lt (x.above y c (PySem.mem_of_lookup h)))
  · unfold start
    show _=N.length
    rw [List.length_append,List.length_map,List.length_replicate]
    omega
theorem fn_of {CX : CXT} {P : Program} {w : World} {K : PySem.W.Frag} {mg : Str→Option Value} {base : Heap} {k : Nat} {f : Addr} {name qual : Str} {params : Arguments} {body : List Stmt} {scope : Scope} {dV kV doc pm cdv ct oc : Value} {an od : Option Addr}
    {osl : Array (Option Value)} {N ps : List Str} {sp : Sp} (lk : K.lookup f=some ⟨oc,od,.func (PySem.W.fnOf name qual params body scope dV kV doc pm an cdv ct),osl⟩) (hcd : PySem.W.codeIn K cdv qual=true) (S : FnScope N ps scope)
    (len : ∀ vs H Q E,sp vs H Q E→vs.length=ps.length)
    (hbody : ∀ (A : Around) (outer : List Env) (s : Shared) (H : Hp) (vs : List V) (Q : VK) (E : XK),Room k (A.deeper (envOfC qual scope s.heap.objs.size f cdv))→sp vs H Q E →
      ∃ t,PSs (cxOf CX P w K mg base N qual scope f cdv A outer s H E) body t∧t { nx:=fun _ H' => Q .non H',rt:=Q } (start N vs) H) :
    FnOk P w K mg base CX (k+1) f (PySem.W.fnOf name qual params body scope dV kV doc pm an cdv ct) ps sp:=by
  refine ⟨len,fun A outer s H args us vs Q E hr e0 hb r hsp => ?_⟩
  have hl:=len _ _ _ _ hsp
  have KX : K.In s.heap:=e0.mod.kin.keeps fun b o e => (e0.bs b o e).1
  have lim : s.heap.NoLimit:=e0.mod.nolimit.keeps fun b o e => (e0.bs b o e).1
  have hkind : ∀ y∈ps.zip us,scope.names.lookup y.1=some .local∨(scope.names.lookup y.1=some .cell∧((cellsFrom (s.heap.objs.size+1) scope.names []).lookup y.1).isSome=true):=fun ⟨n,v⟩ hy => by
    rcases S.par n (List.of_mem_zip hy).1 with q | q
    · exact .inl q
    · exact .inr ⟨q,PySem.W.cellsFrom_some _ _ _ (.inl q)⟩
  refine codeAny_call_function hr.depth (KX _ _ lk) rfl S.co S.gen rfl (PySem.W.codeRec_of KX hcd) (hb _ _ _ _ ?_)
  refine wpAny_newFunctionEnv_cells S.kind hkind fun env he s1 x => ?_
  subst he
  refine ⟨lim.keeps x.toInCall.keep,codeAny_func ?_⟩
  obtain ⟨t,ht,hq⟩:=hbody A outer s H vs Q E (hr.deeper _) hsp
  have I : Inv (cxOf CX P w K mg base N qual scope f cdv A outer s H E) [] (start N vs) H s1:=inv_start S hr.hd e0 hl r x
  refine wpAny_mono (ht [] s1 (start N vs) H _ I hq) (fun fl s' hs => ?_) fun e s' hs => hs
  have fin : ∀ {σ' : St} {H' : Hp} {v : V} {u : Value},Inv (cxOf CX P w K mg base N qual scope f cdv A outer s H E) [] σ' H' s'→RelV v u→Q v H'→CE outer P w H s Q u s' :=
    fun {σ' H' v u} J rv q => ⟨v,H',J.os,J.bare,J.base,J.hok,rv,q⟩
  cases fl with
  | ret u =>
    obtain ⟨v,σ',H',J,rv,q⟩:=hs
    exact fin J rv q
  | next =>
    obtain ⟨σ',H',J,q⟩:=hs
    exact fin (v:=V.non) (u:=Value.none) J rfl q
  | brk =>
    obtain ⟨_,_,_,q⟩:=hs
    exact False.elim q
  | cont =>
    obtain ⟨_,_,_,q⟩:=hs
    exact False.elim q
end L2
namespace L2
open PySem PySem.Spec PyProof.Rows
section
variable {X : Cx} {x : Str} {p pos : Pos} {e : Expr} {es : List Expr} {t : TA} {id T : String} {r : List V→Hp→VK→Prop}
noncomputable def tCB (r : List V→Hp→VK→Prop) (t : TA) : TE:=fun σ H Q => t σ H fun vs H1 => r vs H1 Q
theorem pe_callB (hc : CallR X (.builtin id) r) (hg : Gl X x) (hm : X.mg x = none) (hv : bootBuiltins x = some (.builtin id)) (ha : PA X (e :: es) t) (hn : x ≠ "__name__" := by decide) (hdb : (x == ("__debug__" : Str)) = false := by decide)
    (he : starEach (e :: es) X.env=(false,eval e X.env) :: starEach es X.env:=by rfl) (hpl : (backTo pos (starEach es X.env)).any (·.1)=false:=by rfl) : PE X (.Call (.Name x p) (e :: es) [] pos) (tCB r t):=by
  intro pins s σ H Q I h
  refine wpAny_Call_Name_kw (ld_blt I hg hm hv ?_ hn hdb)
  exact PyProof.Rows.callWith_builtin1 (thn (ha pos pins s σ H _ I h) fun us s1 ⟨vs,H1,I1,r1,q1⟩ => hc pins s1 σ H1 vs us Q I1 r1 q1) he hpl
theorem pe_callTy (hc : CallR X (.type T) r) (hg : Gl X x) (hm : X.mg x = none) (hv : bootBuiltins x = some (.type T)) (ha : PA X (e :: es) t) (hn : x ≠ "__name__" := by decide) (hdb : (x == ("__debug__" : Str)) = false := by decide)
    (he : starEach (e :: es) X.env=(false,eval e X.env) :: starEach es X.env:=by rfl) (hpl : (backTo pos (starEach es X.env)).any (·.1)=false:=by rfl) : PE X (.Call (.Name x p) (e :: es) [] pos) (tCB r t):=by
  intro pins s σ H Q I h
  refine wpAny_Call_Name_kw (ld_blt I hg hm hv ?_ hn hdb)
  exact PyProof.Rows.callWith_type1 (thn (ha pos pins s σ H _ I h) fun us s1 ⟨vs,H1,I1,r1,q1⟩ => hc pins s1 σ H1 vs us Q I1 r1 q1) he hpl
end
end L2
namespace HT
open PySem PyProof.Rows
section
open PySem.SeqAt
open PySem.AutoSeq1 (wpAny_loadPart')
open PySem.MeetsSeq PySem.MeetsSeq2 PySem.MeetsSeq3
end
section
variable {prog : Program} {w : World} {A : Around} {E : Value→Shared→Prop} {s : Shared}
theorem cat_tup {t b : Addr} {vs ws : List Value} {Q : Value→Shared→Prop} (ht : IsTup s.heap t vs.toArray) (hb : IsTup s.heap b ws.toArray) (hv : vs≠[])
    (h1 : ws = [] → Q (.ref t) s) (h2 : ws ≠ [] → Q (.ref s.heap.objs.size) { s with heap := s.heap.push { cls := .type "tuple", data := .seq (vs ++ ws).toArray } })
    (hsz : vs.length+ws.length≤sizeLine) : wpAny (model prog w) A (binaryOp .Add (.ref t) (.ref b)) Q E s:=by
  obtain ⟨⟨cls,dd,data,sl⟩,ho,hc,n,hd⟩:=id ht
  obtain ⟨⟨cls2,dd2,data2,sl2⟩,ho2,hc2,n2,hd2⟩:=id hb
  simp only at hc hd hc2 hd2
  subst hc hd hc2 hd2
  have e : vs.toArray++ws.toArray=(vs++ws).toArray:=by simp
  by_cases hw : ws=[]
  · exact concat_meets ⟨_,ho,rfl⟩ ⟨_,ho2,rfl⟩ noFill_tuple_add seq_tuple_add PySem.F.slot_tuple_add PySem.F.entry_tuple_add (PySem.F.args_tuple_add_2 _ _)
      (tuple_addW1 t b vs.toArray ws.toArray n n2 dd dd2 sl sl2 (by simpa using hv) (by simp [hw])) ⟨ho,ho2,h1 hw⟩
  · refine concat_meets ⟨_,ho,rfl⟩ ⟨_,ho2,rfl⟩ noFill_tuple_add seq_tuple_add PySem.F.slot_tuple_add PySem.F.entry_tuple_add (PySem.F.args_tuple_add_2 _ _)
      (tuple_addW2 t b vs.toArray ws.toArray n n2 dd dd2 sl sl2 (by simpa using hv) (by simpa using hw) (by rw [List.size_toArray,List.size_toArray]; exact hsz)) ⟨ho,ho2,?_⟩
    rw [e]
    exact h2 hw
noncomputable def sIx (n d : Nat) : Option Int→Nat
  | none => d
  | some v => if v < 0 then (v+(n : Int)).toNat else min v.toNat n
theorem sIx_none (n d : Nat) : sIx n d none=d:=rfl
theorem sIx_nat (n d k : Nat) : sIx n d (some (k : Int))=min k n:=by
  show (if (k : Int) < 0 then ((k : Int)+(n : Int)).toNat else min (k : Int).toNat n)=min k n
  rw [if_neg (by omega),Int.toNat_natCast]
theorem sIx_le (n d : Nat) (hd : d≤n) (o : Option Int) : sIx n d o≤n:=by
  cases o with
  | none => exact hd
  | some v =>
    show (if v < 0 then (v+(n : Int)).toNat else min v.toNat n)≤n
    by_cases hv : v < 0
    · rw [if_pos hv]; omega
    · rw [if_neg hv]; exact Nat.min_le_right _ _
theorem clip_eq (v : Int) (n d : Nat) : (if v < 0 then max (v+(n : Int)) 0 else min v (n : Int))=((sIx n d (some v) : Nat) : Int):=by
  show (if v < 0 then max (v+(n : Int)) 0 else min v (n : Int))=(((if v < 0 then (v+(n : Int)).toNat else min v.toNat n) : Nat) : Int)
  by_cases hv : v < 0
  · simp only [if_pos hv]; omega
  · simp only [if_neg hv]; omega
theorem adjust_gen (lo hi : Option Int) (n : Nat) : Builtin.Slice.sliceAdjust lo hi 1 (n : Int)=(((sIx n 0 lo : Nat) : Int),((sIx n n hi : Nat) : Int)):=by
  have h1 : ¬ ((1 : Int) < 0):=by omega
  unfold Builtin.Slice.sliceAdjust
  simp only [h1,if_false]
  refine Prod.ext ?_ ?_
  · cases lo with
    | none => rfl
    | some v => exact clip_eq v n 0
  · cases hi with
    | none => rfl
    | some v => exact clip_eq v n n
theorem places_gen (i j : Nat) : Builtin.Slice.slicePlaces (i : Int) (j : Int) 1=j - i:=by
  unfold Builtin.Slice.slicePlaces
  have h1 : (1 : Int) > 0:=by omega
  simp only [h1,if_true,Int.ediv_one]
  split <;> omega
theorem slicePart_ {v : Value} {o : Option Int} {Q : Option Int→Shared→Prop} (p : IsPart v o) (h : Q o s) : wpAny (model prog w) A (Builtin.Slice.slicePartIndex v) Q E s:=by
  cases p with
  | none => exact slicePart_none h
  | int i t => exact slicePart_int h
theorem sliceApplied_gen {sl : Addr} {vl vu : Value} {lo hi : Option Int} {n : Nat} {Q : Int×Int×Nat→Shared→Prop} (hs : s.heap.IsSliceOf sl vl vu .none) (pl : IsPart vl lo) (pu : IsPart vu hi)
    (h : Q (((sIx n 0 lo : Nat) : Int),1,sIx n n hi - sIx n 0 lo) s) : wpAny (model prog w) A (Builtin.Slice.sliceApplied (.ref sl) (pure (n : Int))) Q E s:=by
  obtain ⟨os,hos,hcs,hds⟩:=id hs
  unfold Builtin.Slice.sliceApplied Builtin.Slice.sliceFields
  refine wpAny_bind (wpAny_bind (wpAny_field hos hds (x:=vl) rfl (wpAny_bind (wpAny_field hos hds (x:=vu) rfl (wpAny_bind (wpAny_field hos hds (x:=.none) rfl (wpAny_pure ?_)))))))
  refine wpAny_bind (slicePart_none ?_)
  show wpAny _ _ (if ((1 : Int) == 0)=true then _ else _) _ _ s
  rw [if_neg (by decide)]
  refine wpAny_bind (slicePart_ pl (wpAny_bind (slicePart_ pu (wpAny_bind (wpAny_pure ?_)))))
  show wpAny _ _ (match Builtin.Slice.sliceAdjust lo hi 1 (n : Int) with | (lo,hi) => pure (lo,(1 : Int),Builtin.Slice.slicePlaces lo hi 1)) _ _ s
  rw [adjust_gen lo hi n]
  show wpAny _ _ (pure (((sIx n 0 lo : Nat) : Int),(1 : Int),Builtin.Slice.slicePlaces ((sIx n 0 lo : Nat) : Int) ((sIx n n hi : Nat) : Int) 1)) _ _ s
  rw [places_gen]
  exact wpAny_pure h
theorem pick_gen (xs : Array Value) (i k : Nat) : ((List.range k).filterMap fun (m : Nat) => xs[((i : Int)+(m : Int) * 1).toNat]?).toArray=((xs.toList.drop i).take k).toArray:=by
  have e : (fun (m : Nat) => xs[((i : Int)+(m : Int) * 1).toNat]?)=fun m => xs[i+m]?:=by
    funext m
    have : ((i : Int)+(m : Int) * 1).toNat=i+m:=by omega
    rw [this]
  rw [e]
  have:=pick_run xs i k
  rw [List.filterMap_map] at this
  have e2 : ((fun x => xs[x]?) ∘ fun x => i+x)=fun m => xs[i+m]?:=rfl
  rw [e2] at this
  rw [this]
theorem getItem_tuple_cut {t sl : Addr} {items : Array Value} {vl vu : Value} {lo hi : Option Int} {Q : Value→Shared→Prop} (ht : IsTup s.heap t items) (hs : s.heap.IsSliceOf sl vl vu .none) (pl : IsPart vl lo) (pu : IsPart vu hi)
    (hw : ¬ (sIx items.size 0 lo=0∧sIx items.size items.size hi=items.size))
    (h : Q (.ref s.heap.objs.size) { s with heap := s.heap.push { cls := .type "tuple", data := .seq ((items.toList.drop (sIx items.size 0 lo)).take (sIx items.size items.size hi - sIx items.size 0 lo)).toArray } })
    (hsz : items.size≤sizeLine) : wpAny (model prog w) A (getItem (.ref t) (.ref sl)) Q E s:=by
  have htake : sizeOk (.seq ((items.toList.drop (sIx items.size 0 lo)).take (sIx items.size items.size hi - sIx items.size 0 lo)).toArray):=by
    show ((items.toList.drop (sIx items.size 0 lo)).take (sIx items.size items.size hi - sIx items.size 0 lo)).toArray.size≤sizeLine
    rw [List.size_toArray,List.length_take,List.length_drop,Array.length_toList]
    omega
  have hj : sIx items.size items.size hi≤items.size:=sIx_le _ _ (Nat.le_refl _) hi
  obtain ⟨os,hos,hcs,hds⟩:=id hs
  have hTs : s.TypeIs (.ref sl) "slice" := ⟨os, hos, hcs⟩
  unfold getItem
  try with_reducible refine wpAny_holding ?_
  first | refine wpAny_bind (wpAny_pure ?_) | skip
  refine wpAny_bind (wpAny_sequenceKey ht.typeIs (by decide) ?_)
  refine wpAny_bind (wpAny_callSpecial?_slot (name := Str.ofString "__getitem__") ht.typeIs PyProof.Rows.slot_tuple_getitem
    (wpAny_call_entry PyProof.Rows.slot_tuple_getitem ht.typeIs entry_tuple_getitem ?_ (args_tuple_getitem _ _)))
  show wpAny _ _ (Builtin.Tuple.tupleItemsOf (.ref t) >>= _) _ _ s
  refine wpAny_bind (tupleItemsOf_ ht ?_)
  refine wpAny_bind (wpAny_typeOf hTs ?_)
  rw [if_pos (by decide)]
  refine wpAny_bind (sliceApplied_gen hs pl pu ?_)
  have hno : ¬ ((((sIx items.size 0 lo : Nat) : Int) == 0 && (1 : Int) == 1 && (sIx items.size items.size hi - sIx items.size 0 lo) == items.size)=true):=by
    intro q
    rw [Bool.and_eq_true,Bool.and_eq_true] at q
    have q1 : ((sIx items.size 0 lo : Nat) : Int)=0:=eq_of_beq q.1.1
    have q2 : sIx items.size items.size hi - sIx items.size 0 lo=items.size:=eq_of_beq q.2
    exact hw ⟨by omega,by omega⟩
  show wpAny _ _ (if (((sIx items.size 0 lo : Nat) : Int) == 0 && (1 : Int) == 1 && (sIx items.size items.size hi - sIx items.size 0 lo) == items.size)=true then _ else _) _ _ s
  rw [if_neg hno,pick_gen]
  first
    | exact wpAny_bind (m:=Builtin.Tuple.tupleExact _) (wpAny_newObj_type (wpAny_pure ⟨_,rfl,wpAny_pure h⟩) htake)
    | exact wpAny_bind (m:=Builtin.Tuple.tupleExact _) (wpAny_newObj_type (wpAny_bind (wpAny_pure (wpAny_pure ⟨_,rfl,wpAny_pure h⟩))) htake)
    | exact wpAny_bind (wpAny_bind (m:=Builtin.Tuple.tupleExact _) (wpAny_newObj_type (wpAny_pure (wpAny_pure ⟨_,rfl,wpAny_pure h⟩)) htake))
    | exact wpAny_bind (wpAny_bind (m:=Builtin.Tuple.tupleExact _) (wpAny_newObj_type (wpAny_pure ⟨_,rfl,wpAny_pure h⟩) htake))
end
end HT
namespace L2
open PySem PySem.Spec PyProof.Rows
noncomputable abbrev TO:=St→Hp→(Option Int→Hp→Prop)→Prop
noncomputable def PO (X : Cx) (e : Option Expr) (t : TO) : Prop :=
  ∀ (pins : List (Addr×Obj)) (s : Shared) (σ : St) (H : Hp) (Q : Option Int→Hp→Prop),Inv X pins σ H s→t σ H Q →
    wpAny (model X.prog X.w) X.A (evalPart e X.env) (fun u s' => ∃ o H',Inv X pins σ H' s'∧IsPart u o∧Q o H') X.xe s
noncomputable def tNoPart : TO:=fun _ H Q => Q none H
noncomputable def tPart (t : TE) : TO:=fun σ H Q => t σ H fun x H1 => ∃ i,x=.int i∧Q (some i) H1
section
variable {X : Cx} {e : Expr} {te : TE} {lo hi : Option Expr} {tl th : TO} {pos p2 : Pos}
theorem po_none : PO X none tNoPart:=by
  intro pins s σ H Q I h
  rw [evalPart_none]
  exact wpAny_pure ⟨none,H,I,.none,h⟩
theorem po_some (h : PE X e te) : PO X (some e) (tPart te):=by
  intro pins s σ H Q I hw
  rw [evalPart_some]
  refine thn (h pins s σ H _ I hw) fun u s1 ⟨x,H1,I1,r1,q1⟩ => ?_
  obtain ⟨i,rfl,q⟩:=q1
  obtain ⟨t,rfl⟩:=r1
  exact ⟨some i,H1,I1,.int i t,q⟩
noncomputable def SlR (X : Cx) (r : V→Option Int→Option Int→Hp→VK→Prop) : Prop :=
  ∀ (pins : List (Addr×Obj)) (s : Shared) (σ : St) (H : Hp) (x : V) (v vl vu : Value) (lo hi : Option Int) (sl : Addr) (Q : VK),Inv X pins σ H s→RelV x v→s.heap.IsSliceOf sl vl vu .none→IsPart vl lo→IsPart vu hi→r x lo hi H Q →
    ∃ T id, typeLookup (.type T) "__getitem__" = pure (some (.builtin id)) ∧ s.TypeIs v T ∧ wpAny (model X.prog X.w) X.A (getItem v (.ref sl)) (EP X pins σ Q) X.xe s
theorem SlR.or {r r' : V→Option Int→Option Int→Hp→VK→Prop} (h : SlR X r) (h' : SlR X r') : SlR X (fun x lo hi H Q => r x lo hi H Q∨r' x lo hi H Q):=by
  intro pins s σ H x v vl vu lo hi sl Q I rx hs pl pu q
  rcases q with q | q
  · exact h pins s σ H x v vl vu lo hi sl Q I rx hs pl pu q
  · exact h' pins s σ H x v vl vu lo hi sl Q I rx hs pl pu q
noncomputable def tSl (r : V→Option Int→Option Int→Hp→VK→Prop) (te : TE) (tl th : TO) : TE:=fun σ H Q => te σ H fun x H1 => tl σ H1 fun l H2 => th σ H2 fun u H3 => r x l u H3 Q
theorem pe_slice {r : V→Option Int→Option Int→Hp→VK→Prop} (hr : SlR X r) (he : PE X e te) (hl : PO X lo tl) (hu : PO X hi th) : PE X (.Subscript e (.Slice lo hi none p2) pos) (tSl r te tl th):=by
  intro pins s σ H Q I h
  refine Subscript_ (thn (he pins s σ H _ I h) fun v s1 ⟨x,H1,I1,r1,q1⟩ => ?_)
  refine wpAny_Slice (thn (hl pins s1 σ H1 _ I1 q1) fun vl s2 ⟨l,H2,I2,pl,q2⟩ => thn (hu pins s2 σ H2 _ I2 q2) fun vu s3 ⟨u,H3,I3,pu,q3⟩ => ?_)
  rw [evalPart_none]
  refine wpAny_pure ?_
  have I4 : Inv X pins σ H3 { s3 with heap := s3.heap.push { cls := .type "slice", data := .fields #[vl, vu, .none] } } := I3.kept (t' := s3.toks) fun b ob q => Heap.get?_push_of_some _ q
  obtain ⟨T, id, hT, ht, hg⟩ := hr pins { s3 with heap := s3.heap.push { cls := .type "slice", data := .fields #[vl, vu, .none] } } σ H3 x v vl vu l u s3.heap.objs.size Q I4 r1 (Heap.IsSliceOf.new ..) pl pu q3
  show wpAny (model X.prog X.w) X.A (subscriptTail e (.Slice lo hi none p2) v (.ref s3.heap.objs.size)) (EP X pins σ Q) X.xe { s3 with heap := s3.heap.push { cls := .type "slice", data := .fields #[vl, vu, .none] } }
  exact tail_any (ops:=[.ref s3.heap.objs.size,v]) ht hT hg (by with_unfolding_all rfl)
noncomputable def cutV (xs : List V) (lo hi : Option Int) : List V:=(xs.drop (HT.sIx xs.length 0 lo)).take (HT.sIx xs.length xs.length hi - HT.sIx xs.length 0 lo)
theorem cutV_length (xs : List V) (lo hi : Option Int) : (cutV xs lo hi).length≤xs.length:=by
  unfold cutV
  rw [List.length_take,List.length_drop]
  omega
noncomputable def rSlT (K : PySem.W.Frag) : V→Option Int→Option Int→Hp→VK→Prop:=fun x lo hi H Q => ∃ a xs,x=.ref a∧SqT K H a xs ∧
  ¬ (HT.sIx xs.length 0 lo=0∧HT.sIx xs.length xs.length hi=xs.length)∧∀ p,H p=none→Q (.ref p) (upd H p (.tup (cutV xs lo hi)))
theorem sl_tup : SlR X (rSlT X.K):=by
  intro pins s σ H x v vl vu lo hi sl Q I rx hs pl pu h
  obtain ⟨a,xs,rfl,hx,hw,q⟩:=h
  cases rx
  obtain ⟨its,r,ht,hz⟩:=I.tuple hx
  have hlen : its.toArray.size=xs.length:=by rw [List.size_toArray]; exact r.length.symm
  refine ⟨"tuple", _, PyProof.Rows.slot_tuple_getitem.lookup, ht.typeIs, ?_⟩
  refine HT.getItem_tuple_cut ht hs pl pu (by rw [hlen]; exact hw) ?_ (by rw [hlen]; exact hz)
  rw [hlen]
  refine ⟨.ref s.heap.objs.size,_,I.laid (t':=s.toks) (o:=.tup (cutV xs lo hi)) (fun b ob q => Heap.get?_push_of_some _ q) (Nat.le_refl _) ?_,rfl,q _ (I.hok.fresh (Nat.le_refl _))⟩
  exact ⟨Nat.le_trans (cutV_length xs lo hi) hz,_,(r.drop (HT.sIx xs.length 0 lo)).take (HT.sIx xs.length xs.length hi - HT.sIx xs.length 0 lo),IsTup.new _ _⟩
noncomputable def rCatT (K : PySem.W.Frag) : R2:=fun x y H Q => ∃ a b xs ys,x=.ref a∧y=.ref b∧SqT K H a xs∧SqT K H b ys∧xs≠[]∧xs.length+ys.length≤sizeLine ∧
  (ys=[]→Q (.ref a) H)∧(ys≠[]→∀ p,H p=none→Q (.ref p) (upd H p (.tup (xs++ys))))
theorem Vals.nil_iff {xs : List V} {us : List Value} (r : Vals xs us) : us=[]↔xs=[]:=by
  cases r with
  | nil => simp
  | cons _ _ => simp
theorem op_catT : OpR X (binaryOp .Add) (rCatT X.K):=by
  intro pins s σ H x y v u Q I rx ry h
  obtain ⟨a,b,xs,ys,rfl,rfl,ha,hb,hx,hz,q1,q2⟩:=h
  cases rx
  cases ry
  obtain ⟨its,r1,p1,_⟩:=I.tuple ha
  obtain ⟨its2,r2,p2,_⟩:=I.tuple hb
  refine HT.cat_tup p1 p2 (fun z => hx (r1.nil_iff.mp z)) (fun z => ⟨.ref a,H,I,rfl,q1 (r2.nil_iff.mp z)⟩) (fun z => ?_) (by rw [← r1.length,← r2.length]; exact hz)
  refine ⟨.ref s.heap.objs.size,_,I.laid (t':=s.toks) (o:=.tup (xs++ys)) (fun b ob q => Heap.get?_push_of_some _ q) (Nat.le_refl _) ?_,rfl,q2 (fun w => z (r2.nil_iff.mpr w)) _ (I.hok.fresh (Nat.le_refl _))⟩
  exact ⟨by rw [List.length_append]; exact hz,_,r1.append r2,IsTup.new _ _⟩
end
end L2
namespace L2
open PySem PySem.Spec PyProof.Rows
noncomputable def ixN (n : Nat) (i : Int) : Option Nat:=if 0≤i then (if i < n then some i.toNat else none) else if -(n : Int)≤i then some (i+n).toNat else none
noncomputable def atI {α : Type} (xs : List α) (i : Int) : Option α:=(ixN xs.length i).bind fun j => xs[j]?
theorem ixN_seq {n : Nat} {i : Int} {j : Nat} (h : ixN n i=some j) : seqIndex? i n=some j∧j < n∧-(n : Int)≤i∧i < n:=by
  unfold ixN at h
  by_cases h0 : 0≤i
  · rw [if_pos h0] at h
    by_cases h1 : i < n
    · rw [if_pos h1] at h
      have e : i.toNat=j:=Option.some.inj h
      exact ⟨by rw [seqIndex_of h0 h1,e],by omega,by omega,h1⟩
    · rw [if_neg h1] at h; cases h
  · rw [if_neg h0] at h
    by_cases h1 : -(n : Int)≤i
    · rw [if_pos h1] at h
      have e : (i+n).toNat=j:=Option.some.inj h
      exact ⟨by rw [seqIndex_neg (by omega) h1,e],by omega,h1,by omega⟩
    · rw [if_neg h1] at h; cases h
theorem atI_get {α : Type} {xs : List α} {i : Int} {v : α} (h : atI xs i=some v) : ∃ j,seqIndex? i xs.length=some j∧xs[j]?=some v∧j < xs.length∧-(xs.length : Int)≤i∧i < xs.length:=by
  unfold atI at h
  cases e : ixN xs.length i with
  | none => rw [e] at h; cases h
  | some j =>
    rw [e] at h
    obtain ⟨h1,h2,h3,h4⟩:=ixN_seq e
    exact ⟨j,h1,h,h2,h3,h4⟩
theorem atI_nat {α : Type} {xs : List α} {j : Nat} {v : α} (h : xs[j]?=some v) : atI xs (j : Int)=some v:=by
  have hj : j < xs.length:=(List.getElem?_eq_some_iff.mp h).1
  have e : ixN xs.length (j : Int)=some j:=by
    unfold ixN
    rw [if_pos (by omega),if_pos (by omega)]; simp
  unfold atI; rw [e]; exact h
noncomputable def PlainIx (b : Expr) : Prop:=∀ o i,subscripted b false o i=operate [o,i] (getItem o i)
noncomputable def IxR (X : Cx) (r : R2) : Prop :=
  ∀ (value slice : Expr) (pins : List (Addr×Obj)) (s : Shared) (σ : St) (H : Hp) (x y : V) (v u : Value) (Q : VK),Inv X pins σ H s→RelV x v→RelV y u→r x y H Q →
    subscripted slice false v u=operate [v,u] (getItem v u)→wpAny (model X.prog X.w) X.A (subscriptTail value slice v u) (EP X pins σ Q) X.xe s
noncomputable def MtR (X : Cx) (id : String) (r : V→List V→Hp→VK→Prop) : Prop :=
  ∀ (pins : List (Addr×Obj)) (s : Shared) (σ : St) (H : Hp) (x : V) (xs : List V) (v : Value) (us : List Value) (Q : VK),Inv X pins σ H s→RelV x v→Vals xs us→r x xs H Q →
    wpAny (model X.prog X.w) X.A (call (.builtin id) (v :: us)) (EP X pins σ Q) X.xe s
section
variable {X : Cx} {a b : Expr} {ta tb : TE} {pos : Pos}
theorem IxR.or {r r' : R2} (h : IxR X r) (h' : IxR X r') : IxR X (fun x y H Q => r x y H Q∨r' x y H Q):=by
  intro value slice pins s σ H x y v u Q I rx ry q hs
  rcases q with q | q
  · exact h value slice pins s σ H x y v u Q I rx ry q hs
  · exact h' value slice pins s σ H x y v u Q I rx ry q hs
theorem pe_ix {r : R2} (hr : IxR X r) (ha : PE X a ta) (hb : PE X b tb) (hs : PlainIx b) : PE X (.Subscript a b pos) (tOp r ta tb):=by
  intro pins s σ H Q I h
  exact Subscript_ (binT ha hb I h fun v u s2 x y H2 I2 rx ry q => hr a b pins s2 σ H2 x y v u Q I2 rx ry q (hs _ _))
noncomputable def rIxL (K : PySem.W.Frag) : R2:=fun x y H Q => ∃ p xs i v,x=.ref p∧y=.int i∧SqL K H p xs∧atI xs i=some v∧Q v H
noncomputable def rIxT (K : PySem.W.Frag) : R2:=fun x y H Q => ∃ p xs i v,x=.ref p∧y=.int i∧SqT K H p xs∧atI xs i=some v∧Q v H
theorem ix_list : IxR X (rIxL X.K):=by
  intro value slice pins s σ H x y v u Q I rx ry h hs
  obtain ⟨p,xs,i,z,rfl,rfl,hq,he,q⟩:=h
  cases rx
  obtain ⟨t,rfl⟩:=ry
  obtain ⟨its,r,pl,hz⟩:=I.list hq
  obtain ⟨j,h1,h2,h3,h4,h5⟩:=atI_get he
  obtain ⟨w,ew,rw'⟩:=r.get h2
  have hl:=r.length
  have hn:=line63
  have fin : EP X pins σ Q w s:=⟨z,H,I,rw',q⟩
  by_cases h0 : 0≤i
  · have hj : i.toNat=j:=by
      rw [seqIndex_of h0 h5] at h1
      exact Option.some.inj h1
    exact item_listR pl.isList h0 (by omega) (by rw [hj]; simpa using ew) fin hs
  · have hj : (i+(its.toArray.size : Int)).toNat=j:=by
      rw [seqIndex_neg (by omega) h4] at h1
      rw [List.size_toArray,← hl]
      exact Option.some.inj h1
    exact subscriptTail_builtinR (x:=w) pl.isList.typeIs slot_list_getitem.lookup
      (wpAny_getItem_list_neg (Q:=fun r s' => r=w∧EP X pins σ Q r s') pl.isList (by omega) (by rw [List.size_toArray] <;> omega) (by omega) (by rw [hj]; simpa using ew) ⟨rfl,fin⟩) hs
theorem ix_tup : IxR X (rIxT X.K):=by
  intro value slice pins s σ H x y v u Q I rx ry h hs
  obtain ⟨p,xs,i,z,rfl,rfl,hq,he,q⟩:=h
  cases rx
  obtain ⟨t,rfl⟩:=ry
  obtain ⟨its,r,pl,hz⟩:=I.tuple hq
  obtain ⟨j,h1,h2,h3,h4,h5⟩:=atI_get he
  obtain ⟨w,ew,rw'⟩:=r.get h2
  have hl:=r.length
  have hn:=line63
  have fin : EP X pins σ Q w s:=⟨z,H,I,rw',q⟩
  exact subscriptTail_builtinR (x:=w) pl.typeIs slot_tuple_getitem.lookup
    (getItem_tuple (j:=j) (Q:=fun r s' => r=w∧EP X pins σ Q r s') pl (by omega) (by omega) (by rw [List.size_toArray,← hl]; exact h1) (by simpa using ew) ⟨rfl,fin⟩) hs
theorem mapSeq_set (its : List Value) (n j : Nat) (u : Value) : Obj.mapSeq (·.setIfInBounds j u) { cls := .type "list", data := .seq its.toArray n } = { cls := .type "list", data := .seq (its.set j u).toArray n } := by
  simp [Obj.mapSeq]
theorem Inv.lst {pins : List (Addr×Obj)} {σ : St} {H : Hp} {s : Shared} {p : Addr} {xs : List V} (I : Inv X pins σ H s) (h : H p=some (.lst xs)) :
    ∃ (its : List Value) (n : Nat), Vals xs its ∧ s.heap.get? p = some { cls := .type "list", data := .seq its.toArray n } ∧ xs.length ≤ sizeLine := by
  obtain ⟨z,its,n,r,e⟩:=I.hok p _ h
  exact ⟨its,n,r,e,z⟩
theorem Inv.lstUpd {pins : List (Addr×Obj)} {σ : St} {H : Hp} {s : Shared} {p : Addr} {xs ys : List V} {its its' : List Value} {n n' : Nat} {f : Obj→Obj} (I : Inv X pins σ H s) (h : H p=some (.lst xs))
    (ho : s.heap.get? p = some { cls := .type "list", data := .seq its.toArray n }) (hf : f { cls := .type "list", data := .seq its.toArray n } = { cls := .type "list", data := .seq its'.toArray n' }) (r : Vals ys its') (hz : ys.length ≤ sizeLine) (t : Nat) :
    Inv X pins σ (upd H p (.lst ys)) { s with heap:=s.heap.update p f,toks:=t }:=by
  have e : (s.heap.update p f).get? p = some { cls := .type "list", data := .seq its'.toArray n' } := by
    rw [Heap.get?_update_self f ho (by rw [hf] <;> rfl),hf]
  refine I.write (x:=p) (e:=p) (by rw [h]; trivial) (.inl rfl) (fun b u hb q => (Heap.get?_update_other _ _ (Ne.symm hb)).trans q) ⟨_,e⟩ ?_
  exact ⟨hz,its',n',r,e⟩
noncomputable def rSetL : V→V→V→Hp→(Hp→Prop)→Prop:=fun o i v H Q => ∃ p xs k j,o=.ref p∧i=.int k∧H p=some (.lst xs)∧ixN xs.length k=some j∧Q (upd H p (.lst (xs.set j v)))
theorem set_list : PSet X rSetL:=by
  intro pins s σ H o i v ov iv u Q I ro ri rv h
  obtain ⟨p,xs,k,j,rfl,rfl,hp,hj,q⟩:=h
  cases ro
  obtain ⟨t,rfl⟩:=ri
  obtain ⟨its,n,r,ho,hz⟩:=I.lst hp
  obtain ⟨h1,h2,h3,h4⟩:=ixN_seq hj
  have hl:=r.length
  have hn:=line63
  have I' : Inv X pins σ (upd H p (.lst (xs.set j v))) { s with heap:=s.heap.update p (Obj.mapSeq (·.setIfInBounds j u)) } :=
    I.lstUpd hp ho (mapSeq_set its n j u) (r.set rv j) (by rw [List.length_set]; exact hz) s.toks
  by_cases h0 : 0≤k
  · have hk : k.toNat=j:=by
      rw [seqIndex_of h0 h4] at h1
      exact Option.some.inj h1
    exact PySem.W.ki_setAt ho h0 (by omega) (by rw [List.size_toArray,← hl]; exact h4) (by rw [hk]; exact ⟨_,I',q⟩)
  · have hk : (k+(its.toArray.size : Int)).toNat=j:=by
      rw [seqIndex_neg (by omega) h3] at h1
      rw [List.size_toArray,← hl]
      exact Option.some.inj h1
    exact PySem.W.ki_setBack ho (by omega) (by rw [List.size_toArray,← hl]; exact h3) (by omega) (by rw [hk]; exact ⟨_,I',q⟩)
theorem slice_bounds (lo hi : Option Int) (n : Nat) : (sliceBounds lo hi none n).1=((HT.sIx n 0 lo : Nat) : Int)∧(sliceBounds lo hi none n).2.1=((HT.sIx n n hi : Nat) : Int)∧(sliceBounds lo hi none n).2.2=1:=by
  refine ⟨?_,?_,rfl⟩
  · cases lo with
    | none => simp [sliceBounds,HT.sIx]
    | some i =>
      simp only [sliceBounds,HT.sIx,Option.getD_none,show (1 : Int) > 0 by decide,if_true]
      by_cases h : i < 0
      · simp only [h,if_true] <;> omega
      · simp only [h,if_false] <;> omega
  · cases hi with
    | none => simp [sliceBounds,HT.sIx]
    | some i =>
      simp only [sliceBounds,HT.sIx,Option.getD_none,show (1 : Int) > 0 by decide,if_true]
      by_cases h : i < 0
      · simp only [h,if_true] <;> omega
      · simp only [h,if_false] <;> omega
theorem slicePick_cut (its : List Value) (lo hi : Option Int) : slicePick its.toArray lo hi none=((its.drop (HT.sIx its.length 0 lo)).take (HT.sIx its.length its.length hi - HT.sIx its.length 0 lo)).toArray:=by
  obtain ⟨h1,h2,h3⟩:=slice_bounds lo hi its.toArray.size
  unfold slicePick
  rw [h1,h2,h3]
  simp only [sliceRange_one,pick_run,List.size_toArray] <;> rfl
noncomputable def rSlL (K : PySem.W.Frag) : V→Option Int→Option Int→Hp→VK→Prop:=fun x lo hi H Q => ∃ a xs,x=.ref a∧SqL K H a xs∧∀ p,H p=none→Q (.ref p) (upd H p (.lst (cutV xs lo hi)))
theorem sl_list : SlR X (rSlL X.K):=by
  intro pins s σ H x v vl vu lo hi sl Q I rx hs pl pu h
  obtain ⟨a,xs,rfl,hx,q⟩:=h
  cases rx
  obtain ⟨its,r,ht,hz⟩:=I.list hx
  have hlen:=r.length
  refine ⟨"list", _, slot_list_getitem.lookup, ht.isList.typeIs, ?_⟩
  refine wpAny_getItem_list_slice ht.isList hs pl pu .none (by simp) ?_ (by rw [List.size_toArray] <;> omega)
  rw [slicePick_cut,← hlen]
  refine ⟨.ref s.heap.objs.size,_,I.laid (t':=s.toks) (o:=.lst (cutV xs lo hi)) (fun b ob q => Heap.get?_push_of_some _ q) (Nat.le_refl _) ?_,rfl,q _ (I.hok.fresh (Nat.le_refl _))⟩
  exact ⟨Nat.le_trans (cutV_length xs lo hi) hz,_,0,(r.drop (HT.sIx xs.length 0 lo)).take (HT.sIx xs.length xs.length hi - HT.sIx xs.length 0 lo),Heap.get?_push_size _ rfl⟩
theorem call_len_seq : CallR X (.builtin "len") (fun xs H Q => ∃ p ys, xs = [.ref p] ∧ (SqL X.K H p ys ∨ SqT X.K H p ys) ∧ Q (.int ys.length) H) := by
  intro pins s σ H xs us Q I r h
  obtain ⟨p,ys,rfl,hq,q⟩:=h
  obtain ⟨u,rfl,rx⟩:=vals1 r
  cases rx
  have hn:=line63
  rcases hq with hq | hq
  · obtain ⟨its,r',pl,hz⟩:=I.list hq
    have hlen:=r'.length
    exact Calls.call_len_list pl.isList (by simp only [List.size_toArray] <;> omega) ⟨.int ys.length,H,I.tok _,⟨s.toks+1,by rw [List.size_toArray,hlen]⟩,q⟩
  · obtain ⟨its,r',pl,hz⟩:=I.tuple hq
    have hlen:=r'.length
    exact len_tuple pl (by simp only [List.size_toArray] <;> omega) ⟨.int ys.length,H,I.tok _,⟨s.toks+1,by rw [List.size_toArray,hlen]⟩,q⟩
theorem call_list_of : CallR X (.type "list") (fun xs H Q => ∃ p ys, xs = [.ref p] ∧ (SqL X.K H p ys ∨ SqT X.K H p ys) ∧ ∀ l, H l = none → Q (.ref l) (upd H l (.lst ys))) := by
  intro pins s σ H xs us Q I r h
  obtain ⟨p,ys,rfl,hq,q⟩:=h
  obtain ⟨u,rfl,rx⟩:=vals1 r
  cases rx
  have fin : ∀ (its : List Value),Vals ys its→ys.length≤sizeLine→∀ (h' : Heap) (c' : Nat),(∀ b o',s.heap.get? b=some o'→h'.get? b=some o') →
      h'.get? s.heap.objs.size = some { cls := .type "list", dict := none, data := .seq its.toArray c', slots := #[] } → EP X pins σ Q (.ref s.heap.objs.size) { s with heap := h' } := fun its r' hz h' c' kp e =>
    ⟨.ref s.heap.objs.size,_,I.laid (t':=s.toks) kp (Nat.le_refl _) (show ObjOk X.prog X.w _ h' _ (.lst ys) from ⟨hz,its,c',r',e⟩),rfl,q _ (I.hok.fresh (Nat.le_refl _))⟩
  rcases hq with hq | hq
  · obtain ⟨its,r',pl,hz⟩:=I.list hq
    have hlen:=r'.length
    obtain ⟨o,ho,hc,n,hd⟩:=pl.isList
    exact call_list_seq p (.inl rfl) ho hc hd (fun h' c' kp e => fin its r' hz h' c' kp e) (by simp only [List.size_toArray] <;> omega)
  · obtain ⟨its,r',pl,hz⟩:=I.tuple hq
    have hlen:=r'.length
    obtain ⟨o,ho,hc,n,hd⟩:=pl
    exact call_list_seq p (.inr rfl) ho hc hd (fun h' c' kp e => fin its r' hz h' c' kp e) (by simp only [List.size_toArray] <;> omega)
theorem call_tuple_of : CallR X (.type "tuple") (fun xs H Q => ∃ p ys, xs = [.ref p] ∧ ((SqL X.K H p ys ∧ ∀ l, H l = none → Q (.ref l) (upd H l (.tup ys))) ∨ (SqT X.K H p ys ∧ Q (.ref p) H))) := by
  intro pins s σ H xs us Q I r h
  obtain ⟨p,ys,rfl,h⟩:=h
  obtain ⟨u,rfl,rx⟩:=vals1 r
  cases rx
  rcases h with ⟨hq,q⟩ | ⟨hq,q⟩
  · obtain ⟨its,r',pl,hz⟩:=I.list hq
    have hlen:=r'.length
    refine call_tuple_list pl.isList (fun h' kp => ?_) (by simp only [List.size_toArray] <;> omega)
    have I1 : Inv X pins σ H { s with heap:=h' }:=I.kept (t':=s.toks) kp
    have I2 : Inv X pins σ (upd H h'.objs.size (.tup ys)) { s with heap := h'.push { cls := .type "tuple", data := .seq its.toArray } } :=
      I1.laid (t':=s.toks) (fun b o e => Heap.get?_push_of_some _ e) (Nat.le_refl _) (show ObjOk X.prog X.w _ _ _ (.tup ys) from ⟨hz,its,r',IsTup.new _ _⟩)
    exact ⟨.ref h'.objs.size,_,I2,rfl,q _ (I1.hok.fresh (Nat.le_refl _))⟩
  · obtain ⟨its,r',pl,hz⟩:=I.tuple hq
    exact call_tuple_same pl ⟨.ref p,H,I,rfl,q⟩
noncomputable def tyV (K : PySem.W.Frag) (T : String) (x : V) (H : Hp) : Prop:=match x with
  | .str _ => T = "str"
  | .int _ => T = "int"
  | .ref p => (T = "list" ∧ ∃ xs, SqL K H p xs) ∨ (T = "tuple" ∧ ∃ o, K.lookup p = some o ∧ o.cls = .type "tuple" ∧ o.dict = none) ∨
      (T = "dict" ∧ ((∃ kvs, H p = some (.dK kvs)) ∨ ∃ kvs, H p = some (.dT kvs))) ∨ (T = "set" ∧ ∃ S n, H p = some (.set S n))
  | _ => False
theorem tyV_is {pins : List (Addr×Obj)} {σ : St} {H : Hp} {s : Shared} {T : String} {x : V} {v : Value} (I : Inv X pins σ H s) (r : RelV x v) (ty : tyV X.K T x H) :
    s.TypeIs v T∧∀ a,v=.ref a→∃ ob,s.heap.get? a=some ob∧ob.dict=none:=by
  cases x with
  | str z =>
    obtain ⟨t,rfl⟩:=r
    cases (show T = "str" from ty)
    exact ⟨typeIs_str s z t,fun _ e => nomatch e⟩
  | int i =>
    obtain ⟨t,rfl⟩:=r
    cases (show T = "int" from ty)
    exact ⟨typeIs_int s i t,fun _ e => nomatch e⟩
  | ref p =>
    cases r
    rcases ty with ⟨rfl,xs,hq⟩ | ⟨rfl,o,hk,hc,hd⟩ | ⟨rfl,hk⟩ | ⟨rfl,S,n,hk⟩
    · obtain ⟨its,_,pl,_⟩:=I.list hq
      refine ⟨pl.isList.typeIs,fun a e => ?_⟩
      cases e
      obtain ⟨o,n,e,c,hd,_⟩:=pl
      exact ⟨o,e,hd⟩
    · refine ⟨⟨o,I.kIn p o hk,hc⟩,fun a e => ?_⟩
      cases e
      exact ⟨o,I.kIn _ o hk,hd⟩
    · have z : ∃ o,s.heap.get? p=some o∧o.ExactDict:=by
        rcases hk with ⟨kvs,hk⟩ | ⟨kvs,hk⟩
        · obtain ⟨_,_,_,_,o,_,_,e,ex,_⟩:=I.hok p _ hk
          exact ⟨o,e,ex⟩
        · obtain ⟨_,_,_,_,o,_,_,e,ex,_⟩:=I.hok p _ hk
          exact ⟨o,e,ex⟩
      obtain ⟨o,e,ex⟩:=z
      refine ⟨⟨o,e,ex.1⟩,fun a e2 => ?_⟩
      cases e2
      exact ⟨o,e,ex.2.1⟩
    · obtain ⟨o,_,_,_,e,ex,_⟩:=I.hok p _ hk
      refine ⟨⟨o,e,ex.1⟩,fun a e2 => ?_⟩
      cases e2
      exact ⟨o,e,ex.2.1⟩
  | _ => exact False.elim ty
noncomputable def tBM (K : PySem.W.Frag) (T : String) (r : V→List V→Hp→VK→Prop) (to : TE) (t : TA) : TE:=fun σ H Q => to σ H fun x H1 => tyV K T x H1∧t σ H1 fun xs H2 => r x xs H2 Q
variable {o e : Expr} {es : List Expr} {to : TE} {t : TA} {name : Str} {apos cpos : Pos} {T id : String} {r : V→List V→Hp→VK→Prop}
theorem pe_bm (pa : PlainAttrs T) (slot : Slot T name id) (hty : typeOf (.builtin id) = pure (.type "method_descriptor")) (hm : MtR X id r) (ho : PE X o to) (ha : PA X (e :: es) t)
    (hbase : attributeBase o name X.env (eval o X.env)=eval o X.env:=by rfl)
    (hfew : ((backTo cpos (starEach (e :: es) X.env)).all (fun x => !x.1) && (backToKw cpos (keywordEach [] X.env)).all (fun x => x.1.isSome)
      && decide ((e :: es).length+([] : List Keyword).length+(if ([] : List Keyword).isEmpty then 0 else 1) < 30))=true:=by rfl)
    (hline : (apos.endLine == cpos.line)=true:=by rfl) (hs : starEach (e :: es) X.env=(false,eval e X.env) :: starEach es X.env:=by rfl) (hplain : (backTo cpos (starEach es X.env)).any (·.1)=false:=by rfl) :
    PE X (.Call (.Attribute o name apos) (e :: es) [] cpos) (tBM X.K T r to t):=by
  intro pins s σ H Q I h
  refine wpAny_Call_method_late hbase hfew hline rfl (thn (ho pins s σ H _ I h) fun v s1 ⟨x,H1,I1,r1,ty,q1⟩ => ?_)
  obtain ⟨h1,h2⟩:=tyV_is I1 r1 ty
  refine ⟨T,id,pa,slot,hty,h1,h2,?_⟩
  have hA:=ha cpos pins s1 σ H1 _ I1 q1
  rw [hs] at hA ⊢
  refine Calls.callWith_builtin (by show (false || (backTo cpos (starEach es X.env)).any (·.1))=false; rw [hplain] <;> rfl) (Calls.evalArgs_plain ?_)
  exact thn hA fun us s2 ⟨vs,H2,I2,r2,q2⟩ => hm pins s2 σ H2 x vs v us Q I2 r1 r2 q2
end
end L2
namespace L2
open PySem PySem.Spec PyProof.Rows
noncomputable def MtM (X : Cx) (id : String) (r : V→List V→Hp→VK→Prop) : Prop :=
  ∀ (pins : List (Addr×Obj)) (s : Shared) (σ : St) (H : Hp) (x : V) (xs : List V) (v : Value) (us : List Value) (Q : VK),Inv X pins σ H s→RelV x v→Vals xs us→r x xs H Q →
    wpAny (model X.prog X.w) X.A (call (.builtin id) (v :: us)) (EP X pins σ Q) X.xe s
theorem Vals.one : ∀ {x : V} {us : List Value},Vals [x] us→∃ u,us=[u]∧RelV x u
  | _,_,.cons r .nil => ⟨_,rfl,r⟩
theorem Vals.rep {xs : List V} {us : List Value} (h : Vals xs us) : ∀ k : Nat,Vals (List.replicate k xs).flatten (List.replicate k us).flatten
  | 0 => .nil
  | k+1 => by
    rw [List.replicate_succ,List.replicate_succ,List.flatten_cons,List.flatten_cons]
    exact Vals.append h (Vals.rep h k)
theorem foldl_rep (its : List Value) : ∀ (k : Nat) (acc : List Value),
    List.foldl (fun x1 x2 => x1++x2) acc.toArray (List.replicate k its.toArray)=(acc++(List.replicate k its).flatten).toArray
  | 0,acc => by simp
  | k+1,acc => by
    have e : acc.toArray++its.toArray=(acc++its).toArray:=by simp
    have e2 : (acc++its)++(List.replicate k its).flatten=acc++(List.replicate (k+1) its).flatten:=by
      rw [List.replicate_succ,List.flatten_cons,List.append_assoc]
    rw [← e2,← foldl_rep its k (acc++its),← e,List.replicate_succ,List.foldl_cons]
section
variable {X : Cx} {pins : List (Addr×Obj)} {σ : St} {H : Hp} {s : Shared} {l b : Addr} {xs ys zs : List V}
theorem Inv.lset {its its' : List Value} {n : Nat} {f : Array Value→Array Value} {t' : Nat} (I : Inv X pins σ H s) (hH : H l=some (.lst xs))
    (e : s.heap.get? l = some { cls := .type "list", data := .seq its.toArray n }) (hf : f its.toArray = its'.toArray) (hv : Vals ys its') (hz : ys.length ≤ sizeLine) :
    Inv X pins σ (upd H l (.lst ys)) { s with heap:=s.heap.update l (Obj.mapSeq f),toks:=t' }:=by
  have q:=PySem.IsL.update e f
  rw [hf] at q
  refine I.write (x:=l) (e:=l) (by rw [hH]; exact trivial) (.inl rfl) (fun b' u hb hu => (Heap.get?_update_other s.heap (Obj.mapSeq f) (Ne.symm hb)).trans hu) ⟨_,q⟩ ?_
  exact ⟨hz,its',_,hv,q⟩
theorem Inv.lnew {its : List Value} {t' : Nat} (I : Inv X pins σ H s) (hv : Vals ys its) (hz : ys.length≤sizeLine) :
    Inv X pins σ (upd H s.heap.objs.size (.lst ys)) { s with heap := s.heap.push { cls := .type "list", data := .seq its.toArray }, toks := t' } :=
  I.laid (fun _ _ q => Heap.get?_push_of_some _ q) (Nat.le_refl _) ⟨hz,its,0,hv,Heap.get?_push_size _ rfl⟩
theorem Inv.fresh (I : Inv X pins σ H s) : H s.heap.objs.size=none:=I.hok.fresh (Nat.le_refl _)
theorem Inv.lstM (I : Inv X pins σ H s) (hH : H l = some (.lst xs)) : xs.length ≤ sizeLine ∧ ∃ (its : List Value) (n : Nat), Vals xs its ∧ xs.length = its.length ∧ s.heap.get? l = some { cls := .type "list", data := .seq its.toArray n } := by
  obtain ⟨z,its,n,r,e⟩:=I.hok l _ hH
  exact ⟨z,its,n,r,r.length,e⟩
theorem notLongL {n : Nat} (h : n≤sizeLine) : Builtin.List.listTooLong n=false:=by
  unfold Builtin.List.listTooLong
  exact decide_eq_false (by omega)
end
section
variable {X : Cx}
noncomputable def rAppend : V→List V→Hp→VK→Prop:=fun x vs H Q => ∃ l xs y,x=.ref l∧vs=[y]∧H l=some (.lst xs)∧xs.length < sizeLine∧Q .non (upd H l (.lst (xs++[y])))
theorem mt_append : MtM X "list.append" rAppend := by
  intro pins s σ H x vs v us Q I rx rv h
  obtain ⟨l,xs,y,rfl,rfl,hH,hz,q⟩:=h
  cases rx
  obtain ⟨u,rfl,ru⟩:=rv.one
  obtain ⟨z,its,n,r,hl,e⟩:=I.lstM hH
  refine call_meets F.slot_list_append ⟨_,e,rfl⟩ F.entry_list_append (F.args_list_append_2 _ _) (PySem.list_append l its.toArray n u (by rw [List.size_toArray]; omega)) ⟨e,?_⟩
  refine ⟨.non,_,I.lset (its':=its++[u]) hH e (by simp) (r.append (.cons ru .nil)) ?_,rfl,q⟩
  rw [List.length_append,List.length_singleton]
  omega
noncomputable def rCat : R2:=fun x y H Q => ∃ l b xs zs,x=.ref l∧y=.ref b∧H l=some (.lst xs)∧H b=some (.lst zs)∧xs.length+zs.length≤sizeLine∧∀ p,H p=none→Q (.ref p) (upd H p (.lst (xs++zs)))
theorem op_cat : OpR X (binaryOp .Add) rCat:=by
  intro pins s σ H x y v u Q I rx ry h
  obtain ⟨l,b,xs,zs,rfl,rfl,hH,hB,hz,q⟩:=h
  cases rx
  cases ry
  obtain ⟨z,its,n,r,hl,e⟩:=I.lstM hH
  obtain ⟨z2,its2,n2,r2,hl2,e2⟩:=I.lstM hB
  refine PySem.P.add_list e e2 ?_ (by rw [List.size_toArray,List.size_toArray]; omega)
  have ea : its.toArray++its2.toArray=(its++its2).toArray:=by simp
  rw [ea]
  exact ⟨.ref _,_,I.lnew (t':=s.toks) (r.append r2) (by rw [List.length_append]; omega),rfl,q _ I.fresh⟩
noncomputable def rRep : R2:=fun x y H Q => ∃ l k xs,x=.ref l∧y=.int k∧H l=some (.lst xs)∧-(2 ^ 63)≤k∧k < 2 ^ 63∧xs.length * k.toNat≤sizeLine ∧
  ∀ p,H p=none→Q (.ref p) (upd H p (.lst (List.replicate k.toNat xs).flatten))
theorem len_rep {α : Type} (xs : List α) (k : Nat) : (List.replicate k xs).flatten.length=k * xs.length:=by
  induction k with
  | zero => simp
  | succ k ih => rw [List.replicate_succ,List.flatten_cons,List.length_append,ih,Nat.succ_mul,Nat.add_comm]
theorem op_rep : OpR X (binaryOp .Mult) rRep:=by
  intro pins s σ H x y v u Q I rx ry h
  obtain ⟨l,k,xs,rfl,rfl,hH,h1,h2,hz,q⟩:=h
  cases rx
  obtain ⟨t,rfl⟩:=ry
  obtain ⟨z,its,n,r,hl,e⟩:=I.lstM hH
  have hlen : its.toArray.size * k.toNat≤sizeLine:=by rw [List.size_toArray,← hl]; exact hz
  have hcap : ¬ its.toArray.size * k.toNat > (2 ^ 63 - 1) / 8:=by
    have : (sizeLine : Nat)≤(2 ^ 63 - 1) / 8:=by decide
    omega
  have hfit : ¬ (!Builtin.List.listFitsIndex k)=true:=by
    rw [fitsIndex_both h1 h2]
    exact Bool.false_ne_true
  have hlong : ¬ Builtin.List.listTooLong (its.toArray.size * k.toNat)=true:=by
    rw [notLongL hlen]
    exact Bool.false_ne_true
  have hnew : List.foldl (fun x1 x2 => x1++x2) #[] (List.replicate (if its.toArray.isEmpty=true then 0 else k.toNat) its.toArray)=(List.replicate k.toNat its).flatten.toArray:=by
    have f0 : ∀ m : Nat,List.foldl (fun x1 x2 => x1++x2) #[] (List.replicate m its.toArray)=(List.replicate m its).flatten.toArray:=fun m => by
      have:=foldl_rep its m []
      rw [List.nil_append] at this
      exact this
    rw [f0]
    cases its with
    | nil => simp
    | cons a r' => rw [if_neg (by simp)]
  refine wpAny_binaryOp_repeat_ref (T := "list") (U := "int") (by decide) ⟨_, e, rfl⟩ (fun s' => typeIs_int s' k t) noFill_list_mul F.fills_int_mul F.slot_int_rmul repeat_list F.slot_int_index.lookup
    (call_meets F.slot_int_rmul (typeIs_int s k t) F.entry_int_rmul (F.args_int_rmul_2 _ _) (int___rmul___int_list k t l its.toArray n)
      ⟨e,rfl,⟨_,e,rfl⟩,call_meets F.slot_list_mul ⟨_,e,rfl⟩ F.entry_list_mul (F.args_list_mul_2 _ _) (AutoListH.list___mul___list_int_3 l its.toArray n k t hfit hcap hlong) ⟨e,?_⟩⟩)
  rw [hnew]
  exact ⟨.ref _,_,I.lnew (t':=s.toks) (r.rep k.toNat) (by rw [len_rep,Nat.mul_comm]; exact hz),rfl,q _ I.fresh⟩
end
section
variable {prog : Program} {w : World} {A : Around} {E : Value→Shared→Prop} {s : Shared}
set_option maxRecDepth 100000 in
end
section
variable {X : Cx}
end
end L2
namespace L2
open PySem PySem.Spec PyProof.Rows
section
variable {κ : Type} [DecidableEq κ]
noncomputable def valV (kvs : List (κ×V)) (k : κ) : Option V:=(kvs.find? fun kv => decide (kv.1=k)).map (·.2)
noncomputable def putK (kvs : List (κ×V)) (k : κ) (v : V) : List (κ×V) :=
  if (kvs.any fun kv => decide (kv.1=k))=true then kvs.map (fun kv => if kv.1=k then (kv.1,v) else kv) else kvs++[(k,v)]
theorem valV_pos {p : κ×V} {r : List (κ×V)} {k : κ} (e : p.1=k) : valV (p :: r) k=some p.2:=by simp [valV,List.find?_cons,e]
theorem valV_neg {p : κ×V} {r : List (κ×V)} {k : κ} (e : ¬ p.1=k) : valV (p :: r) k=valV r k:=by simp [valV,List.find?_cons,e]
theorem valV_any (k : κ) : ∀ kvs : List (κ×V),(kvs.any fun kv => decide (kv.1=k))=(valV kvs k).isSome
  | [] => rfl
  | p :: r => by
    rw [List.any_cons]
    by_cases e : p.1=k
    · simp only [valV_pos e,decide_eq_true e,Bool.true_or,Option.isSome_some]
    · rw [valV_neg e,decide_eq_false e,Bool.false_or]; exact valV_any k r
theorem length_putK (kvs : List (κ×V)) (k : κ) (v : V) : (putK kvs k v).length≤kvs.length+1:=by
  unfold putK
  split
  · rw [List.length_map]; omega
  · rw [List.length_append,List.length_cons,List.length_nil]; omega
theorem RelO.isSome_eq {o : Option V} {u : Option Value} (r : RelO o u) : o.isSome=u.isSome:=by
  cases o with
  | none => cases u with
    | none => rfl
    | some _ => exact (show False from r).elim
  | some _ => cases u with
    | none => exact (show False from r).elim
    | some _ => rfl
theorem KV.val {kvs : List (κ×V)} {vs : List (κ×Value)} (r : KV kvs vs) (k : κ) : RelO (valV kvs k) (valueAt vs k):=by
  unfold KV at r
  induction r with
  | nil => exact True.intro
  | @cons p q ps qs h t ih =>
    obtain ⟨h1,h2⟩:=h
    by_cases e : p.1=k
    · have e' : q.1=k:=h1.symm.trans e
      have b : valueAt (q :: qs) k=some q.2:=by simp [valueAt,List.find?_cons,e']
      rw [valV_pos e,b]; exact h2
    · have e' : ¬ q.1=k:=fun z => e (h1.trans z)
      have b : valueAt (q :: qs) k=valueAt qs k:=by simp [valueAt,List.find?_cons,e']
      rw [valV_neg e,b]; exact ih
theorem KV.any {kvs : List (κ×V)} {vs : List (κ×Value)} (r : KV kvs vs) (k : κ) : (kvs.any fun kv => decide (kv.1=k))=vs.any fun kv => decide (kv.1=k):=by
  unfold KV at r
  induction r with
  | nil => rfl
  | cons h t ih => rw [List.any_cons,List.any_cons,ih,h.1]
theorem KV.repl {kvs : List (κ×V)} {vs : List (κ×Value)} (r : KV kvs vs) (k : κ) {y : V} {u : Value} (ry : RelV y u) :
    KV (kvs.map fun kv => if kv.1=k then (kv.1,y) else kv) (vs.map fun kv => if kv.1=k then (kv.1,u) else kv):=by
  unfold KV at r ⊢
  induction r with
  | nil => exact .nil
  | @cons p q ps qs h t ih =>
    rw [List.map_cons,List.map_cons]
    refine .cons ?_ ih
    obtain ⟨h1,h2⟩:=h
    by_cases e : p.1=k
    · rw [if_pos e,if_pos (h1.symm.trans e)]; exact ⟨h1,ry⟩
    · rw [if_neg e,if_neg (fun z => e (h1.trans z))]; exact ⟨h1,h2⟩
theorem KV.put {kvs : List (κ×V)} {vs : List (κ×Value)} (r : KV kvs vs) (k : κ) {y : V} {u : Value} (ry : RelV y u) : KV (putK kvs k y) (stored vs k u):=by
  unfold putK stored
  rw [r.any k]
  by_cases e : (vs.any fun kv => decide (kv.1=k))=true
  · rw [if_pos e,if_pos e]; exact r.repl k ry
  · rw [if_neg e,if_neg e]; exact Paired.snoc r ⟨rfl,ry⟩
theorem KV.length {kvs : List (κ×V)} {vs : List (κ×Value)} (r : KV kvs vs) : kvs.length=vs.length:=Paired.length r
end
theorem kV_is {P : Program} {w : World} {k : Key} {u : Value} (r : RelV (kV k) u) : (mixKind P w).is k u=true:=by
  cases k with
  | inl i => obtain ⟨t,e⟩:=(show ∃ t,u=Value.int i t from r); subst e; exact mixKind_int P w i t
  | inr x => obtain ⟨t,e⟩:=(show ∃ t,u=Value.str x t from r); subst e; exact mixKind_str P w x t
theorem items_are {P : Program} {w : World} : ∀ {ks : List Key} {us : List Value},Vals (ks.map kV) us→ItemsAre (mixKind P w) ks us
  | [],_,r => by rw [List.map_nil] at r; cases r; exact .nil
  | k :: ks,_,r => by
    rw [List.map_cons] at r
    cases r with
    | cons h t => exact .cons (kV_is h) (items_are t)
noncomputable abbrev KT (H : Hp) : List (List Key×V)→List (List Key×Addr×Value)→Prop:=Paired fun p q => p.1=q.1∧H q.2.1=some (.tup (p.1.map kV))∧RelV p.2 q.2.2
theorem KT.val {H : Hp} {kvs : List (List Key×V)} {xs : List (List Key×Addr×Value)} (r : KT H kvs xs) (k : List Key) : RelO (valV kvs k) ((atKey xs k).map (·.2)):=by
  induction r with
  | nil => exact True.intro
  | @cons p q ps qs h t ih =>
    obtain ⟨h1,_,h2⟩:=h
    by_cases e : p.1=k
    · have e' : q.1=k:=h1.symm.trans e
      have b : atKey (q :: qs) k=some q.2:=by simp [atKey,List.find?_cons,e']
      rw [valV_pos e,b]; exact h2
    · have e' : ¬ q.1=k:=fun z => e (h1.trans z)
      have b : atKey (q :: qs) k=atKey qs k:=by simp [atKey,List.find?_cons,e']
      rw [valV_neg e,b]; exact ih
theorem KT.repl {H : Hp} {kvs : List (List Key×V)} {xs : List (List Key×Addr×Value)} (r : KT H kvs xs) (k : List Key) {y : V} {u : Value} (ry : RelV y u) :
    KT H (kvs.map fun kv => if kv.1=k then (kv.1,y) else kv) (xs.map (putAt k u)):=by
  induction r with
  | nil => exact .nil
  | @cons p q ps qs h t ih =>
    rw [List.map_cons,List.map_cons]
    refine .cons ?_ ih
    obtain ⟨h1,h2,h3⟩:=h
    unfold putAt
    by_cases e : p.1=k
    · rw [if_pos e,if_pos (h1.symm.trans e)]; exact ⟨h1,h2,ry⟩
    · rw [if_neg e,if_neg (fun z => e (h1.trans z))]; exact ⟨h1,h2,h3⟩
theorem KT.put {H : Hp} {kvs : List (List Key×V)} {xs : List (List Key×Addr×Value)} (r : KT H kvs xs) (k : List Key) {b : Addr} {y : V} {u : Value} (hb : H b=some (.tup (k.map kV))) (ry : RelV y u) :
    KT H (putK kvs k y) (storedH xs k b u):=by
  have e : (kvs.any fun kv => decide (kv.1=k))=(atKey xs k).isSome:=by
    rw [valV_any,(r.val k).isSome_eq,Option.isSome_map]
  unfold putK storedH
  rw [e]
  by_cases q : (atKey xs k).isSome=true
  · rw [if_pos q,if_pos q]; exact r.repl k ry
  · rw [if_neg q,if_neg q]; exact Paired.snoc r ⟨rfl,hb,ry⟩
theorem KT.keeps {H H' : Hp} {kvs : List (List Key×V)} {xs : List (List Key×Addr×Value)} (r : KT H kvs xs) (ht : ∀ b ys,H b=some (.tup ys)→H' b=some (.tup ys)) : KT H' kvs xs :=
  Paired.mapP r fun _ _ z => ⟨z.1,ht _ _ z.2.1,z.2.2⟩
section
variable {P : Program} {w : World} {H : Hp} {h : Heap} {a : Addr}
theorem rd_of {u : HO} (ok : HOk P w H h) (e : Rd H a u) : ObjOk P w H h a u:=e.ok ok
theorem dk_rd {kvs : List (Key×V)} (ok : HOk P w H h) (e : Rd H a (.dK kvs)) : kvs.length≤sizeLine∧(a == sysModules)=false∧∃ vs,KV kvs vs∧h.DictOf (mixKind P w) a vs :=
  show ObjOk P w H h a (.dK kvs) from rd_of ok e
theorem dk_of {kvs : List (Key×V)} (ok : HOk P w H h) (e : H a=some (.dK kvs)) : kvs.length≤sizeLine∧(a == sysModules)=false∧∃ vs,KV kvs vs∧h.DictOf (mixKind P w) a vs:=dk_rd ok (.inl e)
theorem key_of {ks : List Key} (ok : HOk P w H h) (e : H a=some (.tup (ks.map kV))) : (tupleKind (mixKind P w)).is h ks a:=by
  obtain ⟨_,its,r,o,h1,h2,n,h3⟩:=(show ObjOk P w H h a (.tup (ks.map kV)) from ok a _ e)
  exact ⟨o,its.toArray,n,h1,h2,h3,by simpa using items_are r⟩
theorem dt_rd {kvs : List (List Key×V)} (ok : HOk P w H h) (e : Rd H a (.dT kvs)) : kvs.length≤sizeLine∧(a == sysModules)=false ∧
    ∃ xs,KT H kvs xs∧h.DictOfH (tupleKind (mixKind P w)) a xs:=by
  obtain ⟨z,y,xs,r,o,es,ep,h1,h2,h3,h4,h5⟩:=(show ObjOk P w H h a (.dT kvs) from rd_of ok e)
  refine ⟨z,y,xs,r,o,es,ep,h1,h2,h3,h4,fun x hx => ?_,h5⟩
  have all : ∀ {l : List (List Key×V)} {m : List (List Key×Addr×Value)},KT H l m→∀ x∈m,(tupleKind (mixKind P w)).is h x.1 x.2.1:=by
    intro l m q
    induction q with
    | nil => intro x hx; exact nomatch hx
    | @cons p q ps qs hq t ih =>
      intro x hx
      rcases List.mem_cons.mp hx with e | hx
      · subst e
        exact key_of ok (by rw [← hq.1]; exact hq.2.1)
      · exact ih x hx
  exact all r x hx
theorem dt_of {kvs : List (List Key×V)} (ok : HOk P w H h) (e : H a=some (.dT kvs)) : kvs.length≤sizeLine∧(a == sysModules)=false ∧
    ∃ xs,KT H kvs xs∧h.DictOfH (tupleKind (mixKind P w)) a xs:=dt_rd ok (.inl e)
end
noncomputable def DGet (H : Hp) (a : Addr) (y : V) (r : Option V) : Prop :=
  (∃ kvs k,Rd H a (.dK kvs)∧y=kV k∧r=valV kvs k)∨∃ kvs k b,Rd H a (.dT kvs)∧y=.ref b∧H b=some (.tup (k.map kV))∧r=valV kvs k
noncomputable def DPut (H : Hp) (a : Addr) (y v : V) (H' : Hp) : Prop :=
  (∃ kvs k,H a=some (.dK kvs)∧y=kV k∧kvs.length < sizeLine∧H'=upd H a (.dK (putK kvs k v))) ∨
  ∃ kvs k b,H a=some (.dT kvs)∧y=.ref b∧H b=some (.tup (k.map kV))∧kvs.length < sizeLine∧H'=upd H a (.dT (putK kvs k v))
theorem DPut.t {H : Hp} {a b : Addr} {kvs : List (List Key×V)} {k : List Key} {v : V} (e : H a=some (.dT kvs)) (eb : H b=some (.tup (k.map kV))) (hl : kvs.length < sizeLine) :
    DPut H a (.ref b) v (upd H a (.dT (putK kvs k v))):=.inr ⟨kvs,k,b,e,rfl,eb,hl,rfl⟩
section
variable {X : Cx} {pins : List (Addr×Obj)} {σ : St} {H : Hp} {s : Shared} {a : Addr} {y v : V} {u r : Value} {o : Option V} {A : Around} {E : Value→Shared→Prop}
theorem Inv.big (I : Inv X pins σ H s) : sysModules < s.heap.objs.size:=by
  have h : mainGlobals < s.heap.objs.size:=(I.mod.glob.keeps I.bk).lt
  exact Nat.lt_trans (by decide) h
theorem d_getItem {Q : Value→Shared→Prop} (hu : A.units+1 < cLine) (I : Inv X pins σ H s) (g : DGet H a y (some v)) (ry : RelV y u) (h : ∀ w' s',Inv X pins σ H s'→RelV v w'→Q w' s') :
    wpAny (model X.prog X.w) A (getItem (.ref a) u) Q E s:=by
  rcases g with ⟨kvs,k,e,ey,l⟩ | ⟨kvs,k,b,e,ey,eb,l⟩
  · subst ey
    obtain ⟨z,hd,vs,rel,dd⟩:=dk_rd I.hok e
    obtain ⟨w',hw,rw'⟩:=RelO.some_of (v:=v) (o:=valueAt vs k) (by rw [l]; exact rel.val k)
    exact wpAny_getItem_of (kV_is ry) dd.mapOf hw (h w' _ (I.tok _) rw')
  · subst ey
    cases (show u=Value.ref b from ry)
    obtain ⟨z,hd,xs,rel,dd⟩:=dt_rd I.hok e
    obtain ⟨w',hw,rw'⟩:=RelO.some_of (v:=v) (o:=(atKey xs k).map (·.2)) (by rw [l]; exact rel.val k)
    obtain ⟨p,hp,hp2⟩:=Option.map_eq_some_iff.mp hw
    refine wpAny_getItem_heap (tupleKind_room_in1 hu) (key_of I.hok eb) dd hp ?_
    rw [hp2]
    exact h w' _ (I.tok _) rw'
theorem d_notIn {Q : Value→Shared→Prop} (hu : A.units+1 < cLine) (I : Inv X pins σ H s) (g : DGet H a y o) (ry : RelV y u) (h : ∀ s',Inv X pins σ H s'→Q (.bool (!o.isSome)) s') :
    wpAny (model X.prog X.w) A (compareOp .NotIn u (.ref a)) Q E s:=by
  rcases g with ⟨kvs,k,e,ey,l⟩ | ⟨kvs,k,b,e,ey,eb,l⟩
  · subst ey
    obtain ⟨z,hd,vs,rel,dd⟩:=dk_rd I.hok e
    refine wpAny_notIn_of (kV_is ry) hd dd.mapOf ?_
    rw [← (rel.val k).isSome_eq,← l]
    exact h _ (I.tok _)
  · subst ey
    cases (show u=Value.ref b from ry)
    obtain ⟨z,hd,xs,rel,dd⟩:=dt_rd I.hok e
    refine wpAny_notIn_heap (tupleKind_room_in1 hu) (key_of I.hok eb) hd dd ?_
    have q:=(rel.val k).isSome_eq
    rw [Option.isSome_map] at q
    rw [← q,← l]
    exact h _ (I.tok _)
theorem d_write {h' : Heap} {t' : Nat} {ob : HO} (I : Inv X pins σ H s) (mu : Mut (H a)) (hs : Heap.SameBut a s.heap h') (he : ∃ q,h'.get? a=some q) (new : ObjOk X.prog X.w (upd H a ob) h' a ob) :
    Inv X pins σ (upd H a ob) { s with heap:=h',toks:=t' } :=
  I.write (x:=a) (e:=a) mu (.inl rfl) (fun b q hb z => (hs.2 b hb).trans z) he new
theorem dk_new {P : Program} {w : World} {H' : Hp} {h' : Heap} {kvs : List (Key×V)} {vs : List (Key×Value)} (z : kvs.length≤sizeLine) (hd : (a == sysModules)=false) (rel : KV kvs vs) (dd : h'.DictOf (mixKind P w) a vs) :
    ObjOk P w H' h' a (.dK kvs):=⟨z,hd,vs,rel,dd⟩
theorem d_setItem {H' : Hp} {Q : Unit→Shared→Prop} (hu : A.units+1 < cLine) (I : Inv X pins σ H s) (g : DPut H a y v H') (ry : RelV y u) (rv : RelV v r) (h : ∀ s',Inv X pins σ H' s'→Q () s') :
    wpAny (model X.prog X.w) A (setItem (.ref a) u r) Q E s:=by
  rcases g with ⟨kvs,k,e,ey,l,eH⟩ | ⟨kvs,k,b,e,ey,eb,l,eH⟩
  · subst ey eH
    obtain ⟨z,hd,vs,rel,dd⟩:=dk_of I.hok e
    have hz : vs.length≤sizeLine:=by rw [← rel.length]; exact z
    have hl : (putK kvs k v).length≤sizeLine:=by have:=length_putK kvs k v; omega
    refine wpAny_setItem_pairs (hsz:=hz) (kV_is ry) dd fun h' dd' hs => h _ ?_
    have he : ∃ q,h'.get? a=some q:=let ⟨q,_,_,hq,_⟩:=dd'; ⟨q,hq⟩
    exact d_write I (by rw [e]; exact True.intro) hs he (dk_new hl hd (rel.put k rv) dd')
  · subst ey eH
    cases (show u=Value.ref b from ry)
    obtain ⟨z,hd,xs,rel,dd⟩:=dt_of I.hok e
    have hz : xs.length≤sizeLine:=by rw [← Paired.length rel]; exact z
    have hl : (putK kvs k v).length≤sizeLine:=by have:=length_putK kvs k v; omega
    refine wpAny_setItem_heap (hsz:=hz) (tupleKind_room_in1 hu) (key_of I.hok eb) dd fun h' dd' hs => h _ ?_
    obtain ⟨q,es,ep,hq,h2,h3,h4,_,h5⟩:=dd'
    refine d_write I (by rw [e]; exact True.intro) hs ⟨q,hq⟩ ⟨hl,hd,_,(rel.put k eb rv).keeps fun c ys ec => ?_,q,es,ep,hq,h2,h3,h4,h5⟩
    rw [upd_ne (ne_of ec e (fun z => nomatch z))]
    exact ec
end
section
variable {X : Cx} {pins : List (Addr×Obj)} {σ : St} {H : Hp} {s : Shared} {a : Addr} {kvs : List (Key×V)} {k : Key} {u : Value} {A : Around} {E : Value→Shared→Prop}
end
noncomputable def NoSl (i : Expr) : Prop:=∀ ov iv,subscripted i false ov iv=operate [ov,iv] (getItem ov iv)
theorem subD_of {prog : Program} {w : World} {A : Around} {E : Value→Shared→Prop} {s : Shared} {env : Env} {value slice : Expr} {pos : Pos} {T id : String} {Q : Value→Shared→Prop}
    (hl : typeLookup (.type T) "__getitem__" = pure (some (.builtin id))) (hs : NoSl slice)
    (h : wpAny (model prog w) A (eval value env) (fun o s₁ => wpAny (model prog w) A (eval slice env) (fun i s₂ => s₂.TypeIs o T∧wpAny (model prog w) A (getItem o i) Q E s₂) E s₁) E s) :
    wpAny (model prog w) A (eval (.Subscript value slice pos) env) Q E s:=by
  refine Subscript_ (wpAny_mono h (fun o s₁ h₁ => wpAny_mono h₁ (fun i s₂ h₂ => ?_) fun _ _ x => x) fun _ _ x => x)
  obtain ⟨hT,h₂⟩:=h₂
  unfold subscriptTail
  refine wpAny_bind ?_
  rw [getitemInPython_of_ne hT.not_modules]
  refine wpAny_bind (wpAny_specialOf hT hl ?_)
  have fin : wpAny (model prog w) A (subscripted slice false o i) (fun r s₃ => wpAny (model prog w) A (letTemporaryGo value o r >>= fun _ => pure r) Q E s₃) E s₂:=by
    rw [hs o i]
    exact wpAny_operating (wpAny_mono h₂ (fun r s₃ h₃ => wpAny_bind (wpAny_letTemporaryGo (wpAny_pure h₃))) fun _ _ x => x)
  first
    | exact wpAny_pure (wpAny_bind fin)
    | exact wpAny_bind (wpAny_pure (wpAny_bind fin))
    | exact wpAny_bind fin
theorem dict_typeIs {X : Cx} {pins : List (Addr × Obj)} {σ : St} {H : Hp} {s : Shared} {a : Addr} {y : V} {o : Option V} (I : Inv X pins σ H s) (g : DGet H a y o) : s.TypeIs (.ref a) "dict" := by
  rcases g with ⟨kvs,k,e,_,_⟩ | ⟨kvs,k,b,e,_,_,_⟩
  · obtain ⟨_,_,vs,_,dd⟩:=dk_rd I.hok e
    exact dd.typeIs
  · obtain ⟨_,_,xs,_,dd⟩:=dt_rd I.hok e
    exact dd.typeIs
noncomputable def tDGet (td ty : TE) : TE:=fun σ H Q => td σ H fun x H1 => ty σ H1 fun y H2 => ∃ a v,x=.ref a∧DGet H2 a y (some v)∧Q v H2
noncomputable def sDPut (td ty tv : TE) : TS:=fun D σ H => tv σ H fun v H1 => td σ H1 fun x H2 => ty σ H2 fun y H3 => ∃ a H4,x=.ref a∧DPut H3 a y v H4∧D.nx σ H4
section
variable {X : Cx} {o i e value : Expr} {pos pos' tpos : Pos} {td ty tv : TE}
theorem pe_dget (hu : X.A.units+1 < cLine) (ho : PE X o td) (hi : PE X i ty) (hs : NoSl i) : PE X (.Subscript o i pos) (tDGet td ty):=by
  intro pins s σ H Q I h
  refine subD_of PySem.F.slot_dict_getitem.lookup hs (thn (ho pins s σ H _ I h) fun u s1 ⟨x,H1,I1,rx,q1⟩ => thn (hi pins s1 σ H1 _ I1 q1) fun iv s2 ⟨y,H2,I2,ry,a,v,ex,g,q2⟩ => ?_)
  subst ex
  obtain rfl : u=Value.ref a:=rx
  exact ⟨dict_typeIs I2 g,d_getItem hu I2 g ry fun w' s3 I3 rw' => ⟨v,H2,I3,rw',q2⟩⟩
theorem ps_dput (hu : X.A.units+1 < cLine) (ho : PE X o td) (hi : PE X i ty) (hv : PE X value tv) (hs : swapsWith value (some (.Subscript o i pos')) pos.line X.env=pure false) :
    PS X (.Assign [.Subscript o i pos'] value pos) (sDPut td ty tv):=by
  intro pins s σ H D I h
  refine wpAny_Assign_Subscript (thn (hv pins s σ H _ I h) fun r s1 ⟨v,H1,I1,rv,q1⟩ => thn (ho pins s1 σ H1 _ I1 q1) fun u s2 ⟨x,H2,I2,rx,q2⟩ => thn (hi pins s2 σ H2 _ I2 q2) fun iv s3 ⟨y,H3,I3,ry,a,H4,ex,g,q3⟩ => ?_) hs
  subst ex
  obtain rfl : u=Value.ref a:=rx
  exact d_setItem hu I3 g ry rv fun s4 I4 => ⟨σ,H4,I4,q3⟩
end
theorem dt_empty {P : Program} {w : World} {H : Hp} (h : Heap) (hb : sysModules < h.objs.size) : ObjOk P w H (h.push { cls := .type "dict", data := .dict #[] }) h.objs.size (.dT []) :=
  ⟨Nat.zero_le _,beq_eq_false_iff_ne.mpr (Ne.symm (Nat.ne_of_lt hb)),[],.nil,_,#[],0,Heap.get?_push_size _ rfl,⟨rfl,rfl,rfl⟩,rfl,rfl,List.nodup_nil⟩
noncomputable def tDNewT : TE:=fun _ H Q => ∀ p,H p=none→Q (.ref p) (upd H p (.dT []))
section
variable {X : Cx} {pos : Pos}
theorem pe_dnewT : PE X (.Dict [] [] pos) tDNewT:=fun pins s σ H Q I h =>
  wpAny_Dict_empty ⟨.ref s.heap.objs.size,_,I.laid (a:=s.heap.objs.size) (o:=.dT []) (t':=s.toks) (fun _ _ q => Heap.get?_push_of_some _ q) (Nat.le_refl _) (dt_empty s.heap I.big),rfl,h _ (I.hok.fresh (Nat.le_refl _))⟩
end
noncomputable def tPairs : List (TE×TE)→St→Hp→(List (V×V)→Hp→Prop)→Prop
  | [],_,H,Q => Q [] H
  | (tk,tv) :: r,σ,H,Q => tk σ H fun x H1 => tv σ H1 fun y H2 => tPairs r σ H2 fun ps H3 => Q ((x,y) :: ps) H3
noncomputable abbrev VV : List (V×V)→List (Value×Value)→Prop:=Paired fun p q => RelV p.1 q.1∧RelV p.2 q.2
noncomputable def PPs (X : Cx) (pos : Pos) (keys : List (Option Expr)) (values : List Expr) (trs : List (TE×TE)) : Prop :=
  ∀ (pins : List (Addr×Obj)) (s : Shared) (σ : St) (H : Hp) (Q : List (V×V)→Hp→Prop),Inv X pins σ H s→tPairs trs σ H Q →
    wpAny (model X.prog X.w) X.A (evalPairs (pairTrees keys values X.env pos)) (fun vs s' => ∃ ps H',Inv X pins σ H' s'∧VV ps vs∧Q ps H') X.xe s
theorem pps_nil {X : Cx} {pos : Pos} : PPs X pos [] [] []:=fun pins s σ H Q I h => pairTrees_nil_walk ⟨[],H,I,.nil,h⟩
theorem pps_cons {X : Cx} {pos : Pos} {k v : Expr} {ks : List (Option Expr)} {vs : List Expr} {tk tv : TE} {trs : List (TE×TE)} (hk : PE X k tk) (hv : PE X v tv) (hr : PPs X pos ks vs trs) :
    PPs X pos (some k :: ks) (v :: vs) ((tk,tv) :: trs):=fun pins s σ H Q I h =>
  pairTrees_cons_walk (thn (hk pins s σ H _ I h) fun u s1 ⟨x,H1,I1,rx,q1⟩ => thn (hv pins s1 σ H1 _ I1 q1) fun w2 s2 ⟨y,H2,I2,ry,q2⟩ =>
    thn (hr pins s2 σ H2 _ I2 q2) fun ws s3 ⟨ps,H3,I3,rel,q3⟩ => ⟨(x,y) :: ps,H3,I3,.cons ⟨rx,ry⟩ rel,q3⟩)
structure M1 (X : Cx) (o : Expr) (m : Str) (apos : Pos) (e : Expr) (cpos : Pos) : Prop where
  base : attributeBase o m X.env (eval o X.env)=eval o X.env
  few : ((backTo cpos (starEach [e] X.env)).all (fun x => !x.1) && (backToKw cpos (keywordEach [] X.env)).all (fun x => x.1.isSome)
    && decide (([e] : List Expr).length+([] : List Keyword).length+(if ([] : List Keyword).isEmpty then 0 else 1) < 30))=true
  line : (apos.endLine == cpos.line)=true
  trees : backTo cpos (starEach [e] X.env)=[(false,eval e X.env)]
structure M2 (X : Cx) (o : Expr) (m : Str) (apos : Pos) (e f : Expr) (cpos : Pos) : Prop where
  base : attributeBase o m X.env (eval o X.env)=eval o X.env
  few : ((backTo cpos (starEach [e,f] X.env)).all (fun x => !x.1) && (backToKw cpos (keywordEach [] X.env)).all (fun x => x.1.isSome)
    && decide (([e,f] : List Expr).length+([] : List Keyword).length+(if ([] : List Keyword).isEmpty then 0 else 1) < 30))=true
  line : (apos.endLine == cpos.line)=true
  trees : backTo cpos (starEach [e,f] X.env)=[(false,eval e X.env),(false,eval f X.env)]
section
variable {X : Cx} {pins : List (Addr×Obj)} {σ : St} {H : Hp} {s : Shared} {a : Addr} {y d : V} {u r : Value} {o : Option V} {A : Around} {E : Value→Shared→Prop}
end
section
variable {X : Cx} {o e f : Expr} {apos cpos : Pos} {td ty tx : TE}
end
section
variable {X : Cx} {pins : List (Addr×Obj)} {σ : St} {H : Hp} {s : Shared} {a : Addr} {kvs : List (Key×V)} {A : Around} {E : Value→Shared→Prop}
end
section
variable {X : Cx} {pins : List (Addr×Obj)} {σ : St} {H : Hp} {s : Shared} {a : Addr} {y : V} {u : Value} {A : Around} {E : Value→Shared→Prop}
end
end L2
namespace Att
open PySem PySem.W PySem.Calls PyProof.Rows
theorem ints_of_wellAll {P : Params} {h : Heap} : ∀ (ns : List Int) (vs : List Value),WellAll P h vs (ns.map WData.int)→IntsAre vs ns:=by
  intro ns
  induction ns with
  | nil =>
    intro vs w
    rw [List.map_nil] at w
    cases w
    exact .nil
  | cons n ns ih =>
    intro vs w
    rw [List.map_cons] at w
    cases w with
    | cons a b =>
      cases a
      exact .cons _ _ (ih _ b)
theorem script_of {l : OpenLaw} {n : Nat} (hn : l.most=some n) {P : Params} {h : Heap} {args : List WData} {vals : List Value}
    (hpre : l.row.toRowW.claim.pre args=true) (hwl : WellAll P h vals args) :
    ∃ a vs ns, vals = [Value.ref a] ∧ args = [WData.list (ns.map WData.int)] ∧ h.get? a = some { cls := .type "list", data := .seq vs.toArray } ∧ IntsAre vs ns ∧ ns.length ≤ n := by
  have hsh : WShape.hasAll [] args [.list .int]=true:=(pre_splitW hpre).1
  have hc : l.pre.holds [] { args:=args }=true:=(pre_splitW hpre).2
  obtain ⟨d,r,rfl,h1,h2⟩:=hasAllW_cons hsh
  obtain rfl:=hasAllW_nil h2
  obtain ⟨xs,rfl,h3⟩:=hasW_list h1
  obtain ⟨ns,rfl⟩:=items_int h3
  have hlen : ns.length≤n:=by
    unfold OpenLaw.pre at hc
    have h4 : (WTm.not (.lt (.lit (.int (n : Int))) (.len (.arg 0)))).holds [] { args:=[.list (ns.map .int)] }=true:=by
      have h4:=(holds_andW hc).1
      rw [hn] at h4
      exact h4
    have h5:=condW_of h4 (w_not (w_lt w_lit (w_len_list (w_arg rfl))))
    rw [List.length_map] at h5
    refine Nat.le_of_not_lt fun q => ?_
    have q' : (n : Int) < ((ns.length : Nat) : Int):=by omega
    first
      | (rw [decide_eq_true q'] at h5; exact absurd h5 (by decide))
      | (simp at h5; omega)
  cases hwl with
  | cons w1 w2 =>
    cases w2
    cases w1 with
    | list ho hall => exact ⟨_,_,ns,rfl,rfl,ho,ints_of_wellAll ns _ hall,hlen⟩
theorem post_true (l : OpenLaw) (args : List WData) : l.row.toRowW.claim.post args (.bool true) args=true :=
  postW_of (r:=l.row.toRowW) (X:=(true == true))
    (show WShape.has [] (.bool true) .bool=true by first | rfl | decide | simp [WShape.has,WShape.arms,WShape.armsAll])
    (show (WTm.eq .res (.lit (.bool true))).value [] { args:=args,res:=some (.bool true),after:=args }=some (.bool (true == true)) from w_eq_bool (w_res rfl) w_lit) rfl
theorem attach_call {l : OpenLaw} {n : Nat} {q : Program} {loose : List Str} {XP : (Str→Option Value)→Heap→Prop} {YP : World→Heap→Prop} {d : DefRec}
    (hn : l.most=some n) (hdf : d.params.defaults=[])
    (call : ∀ (w : World) (s₀ s₁ : Shared) (mg mb : Str→Option Value) (fa : Addr) (o : Obj) (pm cd doc : Value) (a : Addr) (vs : List Value) (ns : List Int),
      Ground q loose [] XP w s₀ mg mb s₁.heap→YP w s₁.heap →
      s₁.heap.get? fa=some o→o.data=.func (docDef d.name d.params d.body d.scope pm cd doc)→s₁.heap.CodeRec cd d.name→mg d.name=some (.ref fa) →
      s₁.heap.get? a = some { cls := .type "list", data := .seq vs.toArray } → IntsAre vs ns → ns.length ≤ n → s₁.gens = #[] →
      codeAny (model l.prog w) callerA (.call (.ref fa) ⟨[.ref a],[]⟩) (fun r s' => r=.ok (.ret (.bool true))∧OldK s₁.heap s'.heap∧s'.os=s₁.os∧AllBare s'.gens) s₁) :
    WalkO q loose XP YP l.row.toRowW d [] (fun f vs => PySem.call f vs):=by
  intro w s₀ s₁ mg mb G Y fa o pm cd doc dV kV ho hd hcd hD hmg hg args vals as hpre hlay hrd hwl hlo
  obtain rfl : dV=.none:=Dflts.none hD hdf
  obtain rfl : kV=.none:=Dflts.noKw hD
  obtain ⟨a,vs,ns,rfl,rfl,hobj,hints,hlen⟩:=script_of hn hpre hwl
  refine enter_call (codeAny_mono (call w s₀ s₁ mg mb fa o pm cd doc a vs ns G Y ho (fd_plain hd) hcd hmg hobj hints hlen hg) fun r s' hq => ?_)
  obtain ⟨rfl,h2,h3,h4⟩:=hq
  exact ⟨.inl ⟨.bool true,.bool true,[],rfl,fun _ => rfl,.bool true,post_true l _,fun _ => ⟨List.Pairwise.nil,fun _ hm => (nomatch hm)⟩⟩,h2,h3,h4⟩
section
variable {prog : Program} {w : World} {A : Around} {E : Value→Shared→Prop} {s : Shared} {K : Frag}
end
end Att
namespace L2
open PySem PySem.Spec PyProof.Rows
theorem vals_ints : ∀ {vs : List Value} {ns : List Int},IntsAre vs ns→Vals (ns.map V.int) vs
  | _,_,.nil => .nil
  | _,_,.cons n t h => .cons ⟨t,rfl⟩ (vals_ints h)
noncomputable def Only (H : Hp) : Prop:=∀ b,H b=none∨∃ o xs,H b=some (.frz o (.lst xs))
theorem law_call {P : Program} {w : World} {K : PySem.W.Frag} {mg mb : Str→Option Value} {CX : CXT} {k : Nat} {fa a : Addr} {fd : FuncData} {x : Str} {sp : Sp} {s₁ : Shared} {vs : List Value} {ns : List Int}
    (KX : K.In s₁.heap) (hns : s₁.heap.Ns mainGlobals mg) (hb : s₁.heap.Ns builtinsNs mb) (hbb : ∀ x : Str, x ≠ "__name__" → mb x = bootBuiltins x) (hlim : s₁.heap.NoLimit) (hg : s₁.gens = #[])
    (ha : s₁.heap.get? a = some { cls := .type "list", data := .seq vs.toArray }) (hi : IntsAre vs ns) (hl : ns.length ≤ sizeLine) (hr : Room k callerA)
    (F : ∀ base : Heap,K.In base→base.Ns mainGlobals mg→FnOk P w K mg base CX k fa fd [x] sp) (hbind : ∀ (s : Shared) (u : Value),BindsTo s fd ⟨[u],[]⟩ [(x,u)])
    (hsp : ∀ H : Hp,Only H→SqL K H a (ns.map V.int)→sp [.ref a] H (fun v _ => v=.bl true) fun _ _ _ => False)
    (hCX : ∀ H e s',CX [] H s₁ (fun _ _ _ => False) e s'→False) :
    codeAny (model P w) callerA (.call (.ref fa) ⟨[.ref a],[]⟩) (fun r s' => r=.ok (.ret (.bool true))∧OldK s₁.heap s'.heap∧s'.os=s₁.os∧AllBare s'.gens) s₁:=by
  have rv:=vals_ints hi
  have lenV:=hi.length
  have core : ∀ H : Hp,Only H→SqL K H a (ns.map V.int)→HOk P w H s₁.heap→(∀ b,H b≠none→b=a)→(H a≠none→K.lookup a=none) →
      codeAny (model P w) callerA (.call (.ref fa) ⟨[.ref a],[]⟩) (fun r s' => r=.ok (.ret (.bool true))∧OldK s₁.heap s'.heap∧s'.os=s₁.os∧AllBare s'.gens) s₁:=by
    intro H hO hS hok hA hK
    have base_of : ∀ {b : Addr} {o : Obj},s₁.heap.get? b=some o→H b=none→(hidT s₁.heap H).get? b=some o:=fun e n => hidT_get e n
    have noA : ∀ {b : Addr} {o : Obj} {es : Array DictEntry} {ep : Nat},s₁.heap.get? b=some o→o.data=.dict es ep→H b=none:=fun {b o es ep} e d => by
      cases q : H b with
      | none => rfl
      | some u =>
        have e' : b=a:=hA b (by rw [q]; simp)
        subst e'
        rw [ha] at e; cases e
        have d' : Data.seq vs.toArray _=Data.dict es ep:=d
        cases d'
    have nsK : ∀ {b : Addr} {m : Str→Option Value},s₁.heap.Ns b m→(hidT s₁.heap H).Ns b m:=fun {b m} ⟨o,es,ep,e,d,r⟩ => ⟨o,es,ep,base_of e (noA e d),d,r⟩
    have hKb : K.In (hidT s₁.heap H):=fun b o e => base_of (KX b o e) (by
      cases q : H b with
      | none => rfl
      | some u =>
        have e' : b=a:=hA b (by rw [q]; simp)
        subst e'
        rw [hK (by rw [q]; simp)] at e; cases e)
    have hM : Mod K mg (hidT s₁.heap H):=⟨hKb,nsK hns,⟨mb,nsK hb,hbb⟩,let ⟨mc,h1,h2⟩:=hlim; ⟨mc,nsK h1,h2⟩⟩
    have e0 : Env0 P w K mg (hidT s₁.heap H) callerA [] s₁ H:=⟨rfl,hM,fun b o e => of_hidT e,Nat.le_of_eq (hidT_size _ _),trivial,fun b hb => absurd (show b∈([] : List Addr) from hb) (by simp),hok,.of_eq hg⟩
    refine codeAny_mono ((F _ hKb (nsK hns)).run callerA [] s₁ H ⟨[.ref a],[]⟩ [.ref a] [.ref a] _ _ hr e0 (hbind s₁ (.ref a)) (.cons rfl .nil) (hsp H hO hS)) fun r s' h => ?_
    cases r with
    | error e => exact (hCX H e s' h).elim
    | ok fl =>
      cases fl with
      | next => exact False.elim h
      | brk => exact False.elim h
      | cont => exact False.elim h
      | ret u =>
        obtain ⟨v,H',os,bare,un,hok',r',q⟩:=h
        have q' : v=.bl true:=q
        subst q'
        obtain rfl : u=Value.bool true:=r'
        refine ⟨rfl,OldK.of_keep fun b o e => ?_,os,bare⟩
        cases q : H b with
        | none => exact un.keep b o e q (by intro z; exact absurd (show b∈([] : List Addr) from z) (by simp)) (by simp)
        | some u =>
          rcases hO b with z | ⟨ob,xs,z⟩
          · rw [q] at z; cases z
          · have z2:=un.frzs b ob _ z
            obtain ⟨e1,_⟩:=hok b _ z
            obtain ⟨e2,_⟩:=hok' b _ z2
            rw [e] at e1; cases e1
            exact e2
  cases hk : K.lookup a with
  | some o =>
    have e:=KX a o hk
    rw [ha] at e
    cases e
    refine core (fun _ => none) (fun _ => .inl rfl) (.inr ⟨_,vs.toArray,_,hk,rfl,rfl,rfl,by rw [List.size_toArray,lenV]; exact hl,by simpa using rv⟩) (fun b u z => by have z' : (none : Option HO)=some u:=z; cases z') (fun b z => absurd rfl z) fun z => absurd rfl z
  | none =>
    refine core (fun b => if b = a then some (.frz { cls := .type "list", data := .seq vs.toArray } (.lst (ns.map V.int))) else none) (fun b => ?_) (.inl (.inr ⟨{ cls := .type "list", data := .seq vs.toArray }, if_pos rfl⟩)) (fun b u z => ?_) (fun b z => ?_) fun _ => hk
    · by_cases hb : b=a
      · exact .inr ⟨_,_,if_pos hb⟩
      · exact .inl (if_neg hb)
    · by_cases hb : b=a
      · have z':=(if_pos hb).symm.trans z
        cases z'
        subst hb
        exact ⟨ha,by rw [List.length_map]; exact hl,vs,_,rv,ha⟩
      · have z':=(if_neg hb).symm.trans z
        cases z'
    · by_cases hb : b=a
      · exact hb
      · exact absurd (if_neg hb) z
end L2
namespace L2
open PySem PySem.Spec PyProof.Rows
theorem walk_of {l : PySem.W.OpenLaw} {n k : Nat} {q : Program} {loose : List Str} {XP : (Str→Option Value)→Heap→Prop} {YP : World→Heap→Prop} {d : DefRec} {K : Params→PySem.W.Frag} {CX : World→CXT} {sp : World→Sp} {x : Str}
    (hn : l.most=some n) (hn2 : n≤sizeLine) (hdf : d.params.defaults=[]) (hr : Room k callerA)
    (hY : ∀ (w : World) (h : Heap),YP w h→(K w.params).In h)
    (F : ∀ (w : World) (mg : Str→Option Value) (fa : Addr) (h : Heap),(K w.params).In h→h.Ns mainGlobals mg→mg d.name=some (.ref fa) →
      ∃ fd : FuncData,(∀ (s : Shared) (u : Value),BindsTo s fd ⟨[u],[]⟩ [(x,u)]) ∧
        ∀ base : Heap,(K w.params).In base→base.Ns mainGlobals mg→FnOk l.prog w (K w.params) mg base (CX w) k fa fd [x] (sp w))
    (hsp : ∀ (w : World) (H : Hp) (a : Addr) (ns : List Int),ns.length≤n→Only H→SqL (K w.params) H a (ns.map V.int)→sp w [.ref a] H (fun v _ => v=.bl true) fun _ _ _ => False)
    (hCX : ∀ (w : World) (H : Hp) (s : Shared) (e : Value) (s' : Shared),CX w [] H s (fun _ _ _ => False) e s'→False) :
    PySem.W.WalkO q loose XP YP l.row.toRowW d [] (fun f vs => PySem.call f vs):=by
  refine Att.attach_call hn hdf fun w s₀ s₁ mg mb fa o pm cd doc a vs ns G Y ho hd hcd hmg hobj hints hlen hg => ?_
  have KX:=hY w _ Y
  obtain ⟨fd,hb,hF⟩:=F w mg fa _ KX G.T.g hmg
  exact law_call KX G.T.g G.T.b G.T.builtins G.T.nolimit hg hobj hints (Nat.le_trans hlen hn2) hr hF hb (fun H hO hS => hsp w H a ns hlen hO hS) fun H e s' => hCX w H s₁ e s'
end L2
namespace L2
open PySem PySem.Spec PyProof.Rows
noncomputable def defArgs (s : Stmt) : Arguments:=match s with
  | .FunctionDef _ a _ _ _ _ _ _ _ _ => a
  | _ => { posonlyargs:=[],args:=[],vararg:=none,kwonlyargs:=[],kw_defaults:=[],kwarg:=none,defaults:=[] }
noncomputable def defBody (s : Stmt) : List Stmt:=match s with
  | .FunctionDef _ _ b _ _ _ _ _ _ _ => b
  | _ => []
noncomputable def defScope (s : Stmt) : Scope:=match s with
  | .FunctionDef _ _ _ _ _ _ sc _ _ _ => sc
  | _ => { kind:=.function,names:=[],isGenerator:=false,isCoroutine:=false }
noncomputable abbrev CX0 : CXT:=fun _ _ _ _ _ _ => False
noncomputable abbrev E0 : XK:=fun _ _ _ => False
theorem pass0 {X : Cx} : Passes CX0 X E0:=fun _ _ _ _ _ _ _ h => h.elim
structure Fun (K : PySem.W.Frag) (x qual : Str) (st : Stmt) (f : Addr) (fd : FuncData) : Prop where
  ex : ∃ (oc : Value) (od : Option Addr) (kV doc pm : Value) (an : Option Addr) (cdv ct : Value) (osl : Array (Option Value)),
    fd=PySem.W.fnOf x qual (defArgs st) (defBody st) (defScope st) .none kV doc pm an cdv ct∧K.lookup f=some ⟨oc,od,.func fd,osl⟩∧PySem.W.codeIn K cdv qual=true
  kp : PySem.W.keepIn K (.ref f)=true
section
variable {P : Program} {w : World} {K : PySem.W.Frag} {mg : Str→Option Value} {base : Heap}
theorem Fun.ok {x qual : Str} {st : Stmt} {f : Addr} {fd : FuncData} {N ps : List Str} {k : Nat} {sp : Sp} (F : Fun K x qual st f fd) (S : FnScope N ps (defScope st)) (len : ∀ vs H Q E,sp vs H Q E→vs.length=ps.length)
    (hbody : ∀ (cdv : Value) (A : Around) (outer : List Env) (s : Shared) (H : Hp) (vs : List V) (Q : VK) (E : XK),Room k (A.deeper (envOfC qual (defScope st) s.heap.objs.size f cdv))→sp vs H Q E →
      ∃ t,PSs (cxOf CX0 P w K mg base N qual (defScope st) f cdv A outer s H E).nox (defBody st) t∧t { nx:=fun _ H' => Q .non H',rt:=Q } (start N vs) H) : FnOk P w K mg base CX0 (k+1) f fd ps sp:=by
  obtain ⟨oc,od,kV,doc,pm,an,cdv,ct,osl,rfl,lk,hcd⟩:=F.ex
  refine fn_of lk hcd S len fun A outer s H vs Q E hr hsp => ?_
  obtain ⟨t,h,q⟩:=hbody cdv A outer s H vs Q E hr hsp
  exact ⟨t,h.nox,q⟩
theorem Fun.binds {x qual : Str} {st : Stmt} {f : Addr} {fd : FuncData} {ps : List Str} (F : Fun K x qual st f fd)
    (h : ∀ (kV doc pm : Value) (an : Option Addr) (cdv ct : Value) (us : List Value),us.length=ps.length→bindArgs (PySem.W.fnOf x qual (defArgs st) (defBody st) (defScope st) .none kV doc pm an cdv ct) ⟨us,[]⟩=pure (ps.zip us)) : Binds K fd ps []:=by
  obtain ⟨oc,od,kV,doc,pm,an,cdv,ct,osl,rfl,lk,hcd⟩:=F.ex
  exact .all (h kV doc pm an cdv ct)
theorem fun_mk {x qual : Str} {st : Stmt} {f : Addr} {oc : Value} {od an : Option Addr} {osl : Array (Option Value)} {kV doc pm cdv ct : Value} (l : K.lookup f=some ⟨oc,od,.func (PySem.W.fnOf x qual (defArgs st) (defBody st) (defScope st) .none kV doc pm an cdv ct),osl⟩)
    (c : PySem.W.codeIn K cdv qual=true) (k : PySem.W.keepIn K (.ref f)=true) : Fun K x qual st f (PySem.W.fnOf x qual (defArgs st) (defBody st) (defScope st) .none kV doc pm an cdv ct):=⟨⟨oc,od,kV,doc,pm,an,cdv,ct,osl,rfl,l,c⟩,k⟩
end
section
variable {X : Cx}
theorem pv (i : Nat) {x : Str} {pos : Pos} (hN : X.N[i]? = some x := by rfl) (hv : Vis X.env.scope x := by first | exact Or.inl rfl | exact Or.inr (Or.inl rfl) | exact Or.inr (Or.inr rfl)) (hd : (x == ("__debug__" : Str)) = false := by decide)
    (hcd : (x == ("__classdict__" : Str)) = false := by decide) : PE X (.Name x pos) (tVar i) := pe_var hN hv hd hcd
end
noncomputable def Same (H H' : Hp) : Prop:=∀ b o,H b=some o→H' b=some o
theorem Same.refl (H : Hp) : Same H H:=fun _ _ h => h
end L2
namespace L2
open PySem PySem.Spec PyProof.Rows
section
variable {X : Cx}
end
section
variable {κ : Type} [DecidableEq κ]
end
end L2
set_option maxHeartbeats 4000000
namespace L2
open PySem PySem.Spec PyProof.Rows
mutual
noncomputable def Dp (K : PySem.W.Frag) (H : Hp) : PyData→V→Prop
  | .none,v => v=.non
  | .bool b,v => v=.bl b
  | .int i,v => v=.int i
  | .str x,v => v=.str x
  | .list ds,v => ∃ a xs,v=.ref a∧SqL K H a xs∧DpAll K H ds xs
  | .tuple ds,v => ∃ a xs,v=.ref a∧SqT K H a xs∧DpAll K H ds xs
  | .dict _,_ => False
noncomputable def DpAll (K : PySem.W.Frag) (H : Hp) : List PyData→List V→Prop
  | [],xs => xs=[]
  | d :: ds,xs => ∃ x r,xs=x :: r∧Dp K H d x∧DpAll K H ds r
end
section
variable {X : Cx} {pins : List (Addr×Obj)} {σ : St} {H : Hp} {s : Shared}
mutual
theorem Dp.reads (I : Inv X pins σ H s) : ∀ (d : PyData) (v : V) (u : Value),Dp X.K H d v→RelV v u→∃ as,Reads s.heap u d as
  | .none,v,u,h,r => by
    simp only [Dp] at h; subst h; cases r; exact ⟨_,.none⟩
  | .bool b,v,u,h,r => by
    simp only [Dp] at h; subst h; cases r; exact ⟨_,.bool b⟩
  | .int i,v,u,h,r => by
    simp only [Dp] at h; subst h; obtain ⟨t,rfl⟩:=r; exact ⟨_,.int i t⟩
  | .str x,v,u,h,r => by
    simp only [Dp] at h; subst h; obtain ⟨t,rfl⟩:=r; exact ⟨_,.str x t⟩
  | .list ds,v,u,h,r => by
    simp only [Dp] at h
    obtain ⟨a,xs,rfl,hs,hd⟩:=h
    cases r
    obtain ⟨its,rv,⟨o,n,e,c,_,dd⟩,_⟩:=I.list hs
    obtain ⟨as,ra⟩:=DpAll.reads I ds xs its hd rv
    exact ⟨_,.list e c dd (by simpa using ra)⟩
  | .tuple ds,v,u,h,r => by
    simp only [Dp] at h
    obtain ⟨a,xs,rfl,hs,hd⟩:=h
    cases r
    obtain ⟨its,rv,⟨o,e,c,n,dd⟩,_⟩:=I.tuple hs
    obtain ⟨as,ra⟩:=DpAll.reads I ds xs its hd rv
    exact ⟨_,.tuple e c dd (by simpa using ra)⟩
  | .dict _,v,u,h,r => by
    simp only [Dp] at h
theorem DpAll.reads (I : Inv X pins σ H s) : ∀ (ds : List PyData) (vs : List V) (us : List Value),DpAll X.K H ds vs→Vals vs us→∃ as,ReadsAll s.heap us ds as
  | [],vs,us,h,r => by
    simp only [DpAll] at h; subst h
    cases r
    exact ⟨_,.nil⟩
  | d :: ds,vs,us,h,r => by
    simp only [DpAll] at h
    obtain ⟨x,q,rfl,h1,h2⟩:=h
    cases r with
    | cons r1 r2 =>
      obtain ⟨as,ra⟩:=Dp.reads I d _ _ h1 r1
      obtain ⟨bs,rb⟩:=DpAll.reads I ds _ _ h2 r2
      exact ⟨_,.cons ra rb⟩
end
noncomputable def rEqD (K : PySem.W.Frag) (neg : Bool) : R2:=fun x y H Q => ∃ d e,Dp K H d x∧Dp K H e y∧d.canLay0=true∧e.canLay0=true∧min d.depth e.depth≤60 ∧
  Q (.bl (if neg then !PyData.eqv d e else PyData.eqv d e)) H
theorem op_eqD (hu : X.A.units+64 < cLine) : OpR X (compareOp .Eq) (rEqD X.K false):=by
  intro pins s σ H x y v u Q I rx ry h
  obtain ⟨d,e,hx,hy,c1,c2,hd,q⟩:=h
  obtain ⟨as,ra⟩:=hx.reads I _ _ _ rx
  obtain ⟨bs,rb⟩:=hy.reads I _ _ _ ry
  exact SeqAt.compareEq_reads ra rb c1 c2 (by omega) ⟨.bl _,H,I,rfl,q⟩
theorem op_neD (hu : X.A.units+64 < cLine) : OpR X (compareOp .NotEq) (rEqD X.K true):=by
  intro pins s σ H x y v u Q I rx ry h
  obtain ⟨d,e,hx,hy,c1,c2,hd,q⟩:=h
  obtain ⟨as,ra⟩:=hx.reads I _ _ _ rx
  obtain ⟨bs,rb⟩:=hy.reads I _ _ _ ry
  exact SeqAt.compareNe_reads ra rb c1 c2 (by omega) ⟨.bl _,H,I,rfl,q⟩
noncomputable def isiV (K : PySem.W.Frag) (H : Hp) (T : String) (r : Bool) : V→Prop
  | .non => r=false
  | .bl _ => r = (T == "int" || T == "bool")
  | .int _ => r = (T == "int")
  | .str _ => r = (T == "str")
  | .ref a => (∃ xs, SqT K H a xs ∧ r = (T == "tuple")) ∨ (∃ xs, SqL K H a xs ∧ r = (T == "list"))
  | _ => False
noncomputable def rIsi (K : PySem.W.Frag) : List V → Hp → VK → Prop := fun xs H Q => ∃ x T r, xs = [x, .ty T] ∧ (T = "int" ∨ T = "bool" ∨ T = "tuple" ∨ T = "list" ∨ T = "str") ∧ isiV K H T r x ∧ Q (.bl r) H
theorem call_isi : CallR X (.builtin "isinstance") (rIsi X.K) := by
  intro pins s σ H xs us Q I r h
  obtain ⟨x,T,b,rfl,hT,hx,q⟩:=h
  obtain ⟨u,u',rfl,ru,ru'⟩:=vals2 r
  cases ru'
  have fin : ∀ t,EP X pins σ Q (.bool b) { s with toks:=t }:=fun t => ⟨.bl b,H,I.tok t,rfl,q⟩
  have fin0 : EP X pins σ Q (.bool b) s:=⟨.bl b,H,I,rfl,q⟩
  cases x with
  | non =>
    cases ru
    have hx : b=false:=hx
    subst hx
    rcases hT with rfl | rfl | rfl | rfl | rfl
    · exact IsiPair.NoneType_int (fin _)
    · exact IsiPair.NoneType_bool (fin _)
    · exact IsiPair.NoneType_tuple (fin _)
    · exact IsiPair.NoneType_list (fin _)
    · exact IsiPair.NoneType_str (fin _)
  | bl k =>
    cases ru
    rcases hT with rfl | rfl | rfl | rfl | rfl
    · have hx : b=true:=hx
      subst hx; exact IsiPair.bool_int fin0
    · have hx : b=true:=hx
      subst hx; exact IsiPair.bool_bool fin0
    · have hx : b=false:=hx
      subst hx; exact IsiPair.bool_tuple (fin _)
    · have hx : b=false:=hx
      subst hx; exact IsiPair.bool_list (fin _)
    · have hx : b=false:=hx
      subst hx; exact IsiPair.bool_str (fin _)
  | int k =>
    obtain ⟨t,rfl⟩:=ru
    rcases hT with rfl | rfl | rfl | rfl | rfl
    · have hx : b=true:=hx
      subst hx; exact IsiPair.int_int fin0
    · have hx : b=false:=hx
      subst hx; exact IsiPair.int_bool (fin _)
    · have hx : b=false:=hx
      subst hx; exact IsiPair.int_tuple (fin _)
    · have hx : b=false:=hx
      subst hx; exact IsiPair.int_list (fin _)
    · have hx : b=false:=hx
      subst hx; exact IsiPair.int_str (fin _)
  | str k =>
    obtain ⟨t,rfl⟩:=ru
    rcases hT with rfl | rfl | rfl | rfl | rfl
    · have hx : b=false:=hx
      subst hx; exact IsiPair.str_int (fin _)
    · have hx : b=false:=hx
      subst hx; exact IsiPair.str_bool (fin _)
    · have hx : b=false:=hx
      subst hx; exact IsiPair.str_tuple (fin _)
    · have hx : b=false:=hx
      subst hx; exact IsiPair.str_list (fin _)
    · have hx : b=true:=hx
      subst hx; exact IsiPair.str_str fin0
  | ref a =>
    cases ru
    rcases hx with ⟨ys,hs,hb⟩ | ⟨ys,hs,hb⟩
    · obtain ⟨its,rv,⟨o,e,c,n,dd⟩,_⟩:=I.tuple hs
      rcases hT with rfl | rfl | rfl | rfl | rfl
      · have hx : b=false:=hb
        subst hx; exact IsiPair.tuple_int e c (fin _)
      · have hx : b=false:=hb
        subst hx; exact IsiPair.tuple_bool e c (fin _)
      · have hx : b=true:=hb
        subst hx; exact IsiPair.tuple_tuple e c fin0
      · have hx : b=false:=hb
        subst hx; exact IsiPair.tuple_list e c (fin _)
      · have hx : b=false:=hb
        subst hx; exact IsiPair.tuple_str e c (fin _)
    · obtain ⟨its,rv,⟨o,n,e,c,_,dd⟩,_⟩:=I.list hs
      rcases hT with rfl | rfl | rfl | rfl | rfl
      · have hx : b=false:=hb
        subst hx; exact IsiPair.list_int e c (fin _)
      · have hx : b=false:=hb
        subst hx; exact IsiPair.list_bool e c (fin _)
      · have hx : b=false:=hb
        subst hx; exact IsiPair.list_tuple e c (fin _)
      · have hx : b=true:=hb
        subst hx; exact IsiPair.list_list e c fin0
      · have hx : b=false:=hb
        subst hx; exact IsiPair.list_str e c (fin _)
  | byt _ => exact hx.elim
  | flt _ => exact hx.elim
  | ty _ => exact hx.elim
theorem boolsAre_of : ∀ {bs : List Bool} {us : List Value},Vals (bs.map V.bl) us→LSm.BoolsAre us bs
  | [],_,.nil => .nil
  | b :: bs,_,.cons r t => by
    cases r
    exact .cons b (boolsAre_of t)
theorem call_allB (hc : X.A.handled = none) : CallR X (.builtin "all") (fun xs H Q => ∃ (p : Addr) (bs : List Bool), xs = [.ref p] ∧ SqL X.K H p (bs.map V.bl) ∧ Q (.bl (bs.all id)) H) := by
  intro pins s σ H xs us Q I r h
  obtain ⟨p,bs,rfl,hs,q⟩:=h
  obtain ⟨u,rfl,ru⟩:=vals1 r
  cases ru
  obtain ⟨its,rv,pl,_⟩:=I.list hs
  have hb:=boolsAre_of rv
  have hl:=pl.isList
  have hlt : p < s.heap.objs.size:=by obtain ⟨_,e,_⟩:=hl; exact Heap.lt_size e
  refine call_all_walk (wpAny_pyIter_list hl ?_)
  refine ⟨s.heap.objs.size,[s.heap.objs.size,p],[s.heap.objs.size],its.toArray.size,_,_,fun i => (bs[i]?).getD true,rfl,Walks.list (A:=X.A.in1) hc _ p (Nat.ne_of_lt hlt) its.toArray,
    ⟨⟨_,Heap.get?_push_size _ rfl,rfl,rfl⟩,hl.push _⟩,fun i v s' Q' E' hP hQ => ?_,fun h' tk hk => ?_⟩
  · obtain ⟨b,e,rfl⟩:=hb.get i v (by simpa using hP)
    simp only [e,Option.getD_some] at hQ
    exact wpAny_truthy_bool hQ
  · have e : ((List.range its.toArray.size).all fun i => (bs[i]?).getD true)=bs.all id:=by
      rw [List.size_toArray,hb.length]; exact LSm.range_all bs
    rw [e]
    exact ⟨.bl _,H,I.kept (LSm.kept_iter hk),rfl,q⟩
theorem call_anyB (hc : X.A.handled = none) : CallR X (.builtin "any") (fun xs H Q => ∃ (p : Addr) (bs : List Bool), xs = [.ref p] ∧ SqL X.K H p (bs.map V.bl) ∧ Q (.bl (bs.any id)) H) := by
  intro pins s σ H xs us Q I r h
  obtain ⟨p,bs,rfl,hs,q⟩:=h
  obtain ⟨u,rfl,ru⟩:=vals1 r
  cases ru
  obtain ⟨its,rv,pl,_⟩:=I.list hs
  have hb:=boolsAre_of rv
  have hl:=pl.isList
  have hlt : p < s.heap.objs.size:=by obtain ⟨_,e,_⟩:=hl; exact Heap.lt_size e
  refine call_any_walk (wpAny_pyIter_list hl ?_)
  refine ⟨s.heap.objs.size,[s.heap.objs.size,p],[s.heap.objs.size],its.toArray.size,_,_,fun i => (bs[i]?).getD false,rfl,Walks.list (A:=X.A.in1) hc _ p (Nat.ne_of_lt hlt) its.toArray,
    ⟨⟨_,Heap.get?_push_size _ rfl,rfl,rfl⟩,hl.push _⟩,fun i v s' Q' E' hP hQ => ?_,fun h' tk hk => ?_⟩
  · obtain ⟨b,e,rfl⟩:=hb.get i v (by simpa using hP)
    simp only [e,Option.getD_some] at hQ
    exact wpAny_truthy_bool hQ
  · have e : ((List.range its.toArray.size).any fun i => (bs[i]?).getD false)=bs.any id:=by
      rw [List.size_toArray,hb.length]; exact LSm.range_any bs
    rw [e]
    exact ⟨.bl _,H,I.kept (LSm.kept_iter hk),rfl,q⟩
end
end L2
namespace HT
open PySem PyProof.Rows
section
variable {prog : Program} {w : World} {A : Around} {E : Value→Shared→Prop} {s : Shared}
theorem getItem_tuple_whole {t sl : Addr} {items : Array Value} {vl vu : Value} {lo hi : Option Int} {Q : Value→Shared→Prop} (ht : IsTup s.heap t items) (hs : s.heap.IsSliceOf sl vl vu .none) (pl : IsPart vl lo) (pu : IsPart vu hi)
    (hw : sIx items.size 0 lo=0∧sIx items.size items.size hi=items.size) (h : Q (.ref t) s) : wpAny (model prog w) A (getItem (.ref t) (.ref sl)) Q E s:=by
  obtain ⟨os,hos,hcs,hds⟩:=id hs
  have hTs : s.TypeIs (.ref sl) "slice" := ⟨os, hos, hcs⟩
  unfold getItem
  try with_reducible refine wpAny_holding ?_
  first | refine wpAny_bind (wpAny_pure ?_) | skip
  refine wpAny_bind (wpAny_sequenceKey ht.typeIs (by decide) ?_)
  refine wpAny_bind (wpAny_callSpecial?_slot (name := Str.ofString "__getitem__") ht.typeIs PyProof.Rows.slot_tuple_getitem
    (wpAny_call_entry PyProof.Rows.slot_tuple_getitem ht.typeIs entry_tuple_getitem ?_ (args_tuple_getitem _ _)))
  show wpAny _ _ (Builtin.Tuple.tupleItemsOf (.ref t) >>= _) _ _ s
  refine wpAny_bind (tupleItemsOf_ ht ?_)
  refine wpAny_bind (wpAny_typeOf hTs ?_)
  rw [if_pos (by decide)]
  refine wpAny_bind (sliceApplied_gen hs pl pu ?_)
  have hyes : ((((sIx items.size 0 lo : Nat) : Int) == 0 && (1 : Int) == 1 && (sIx items.size items.size hi - sIx items.size 0 lo) == items.size)=true):=by
    rw [hw.1,hw.2]
    simp
  show wpAny _ _ (if (((sIx items.size 0 lo : Nat) : Int) == 0 && (1 : Int) == 1 && (sIx items.size items.size hi - sIx items.size 0 lo) == items.size)=true then _ else _) _ _ s
  rw [if_pos hyes]
  obtain ⟨o,ho,hc,n,hd⟩:=id ht
  have ex : Builtin.Tuple.tupleIsExact (.ref t) = (typeOf (.ref t) >>= fun T => pure (T == .type "tuple")) := rfl
  refine wpAny_bind (m:=Builtin.Tuple.tupleIsExact (.ref t)) ?_
  rw [ex]
  refine wpAny_bind (wpAny_typeOf ht.typeIs (wpAny_pure ?_))
  rw [if_pos (by decide)]
  exact wpAny_bind (wpAny_rule (wpAny_pure ⟨_,rfl,wpAny_pure h⟩))
end
end HT
namespace L2
open PySem PySem.Spec PyProof.Rows
section
variable {X : Cx}
theorem cutV_whole {xs : List V} {lo hi : Option Int} (h : HT.sIx xs.length 0 lo=0∧HT.sIx xs.length xs.length hi=xs.length) : cutV xs lo hi=xs:=by
  unfold cutV
  rw [h.1,h.2]
  simp
noncomputable def rExtN (K : PySem.W.Frag) : V→List V→Hp→VK→Prop:=fun x vs H Q => ∃ l b xs zs,x=.ref l∧vs=[.ref b]∧H l=some (.lst xs)∧(SqT K H b zs∨SqL K H b zs)∧xs.length+zs.length≤sizeLine∧Q .non (upd H l (.lst (xs++zs)))
theorem list_extW (l : Addr) (items : Array Value) (n : Nat) (b : Addr) (items2 : Array Value) (n2 : Nat) (dd2 : Option Addr) (sl2 : Array (Option Value)) (hs0 : ¬(!items.isEmpty && Builtin.List.listTooLong (items.size+items2.size))=true) (hs1 : items.size≤sizeLine) (hs2 : items.size+items2.size≤sizeLine+1) :
    Meets (Builtin.«list.extend» ⟨[.ref l, .ref b], []⟩) (fun _ R s => s.heap.get? l = some { cls := .type "list", dict := none, data := .seq items n, slots := #[] } ∧ s.heap.get? b = some { cls := .type "tuple", dict := dd2, data := .seq items2 n2, slots := sl2 } ∧ R (.ok (.ret Value.none)) { s with heap := s.heap.update l (Obj.mapSeq fun x => x ++ items2), toks := s.toks }) :=
  .of_wp fun prog w A R s h => by
    obtain ⟨hp,g,d,tk,os⟩:=s; obtain ⟨hl,hb,h⟩:=h; have f1:=AutoSeq1.idx_int; have f2:=AutoSeq1.sub_tuple_tuple; have f3:=AutoSeq1.sub_list_list; have f4:=AutoSeq1.sub_tuple_list; have f5:=AutoSeq1.sub_list_tuple
    have hz' : (items++items2).size≤sizeLine+1:=by rw [Array.size_append]; exact hs2
    wp_walk using (wpAny_updateSeq hl rfl (hz:=hs1) (_hz':=hz')),AutoSeq1.wpAny_loadPart' hl,AutoSeq1.wpAny_loadPart' hb; exact ⟨_,rfl,h⟩
theorem list_extL (l : Addr) (items : Array Value) (n : Nat) (b : Addr) (items2 : Array Value) (n2 : Nat) (dd2 : Option Addr) (sl2 : Array (Option Value)) (hs0 : ¬(!items.isEmpty && Builtin.List.listTooLong (items.size+items2.size))=true) (hs1 : items.size≤sizeLine) (hs2 : items.size+items2.size≤sizeLine+1) :
    Meets (Builtin.«list.extend» ⟨[.ref l, .ref b], []⟩) (fun _ R s => s.heap.get? l = some { cls := .type "list", dict := none, data := .seq items n, slots := #[] } ∧ s.heap.get? b = some { cls := .type "list", dict := dd2, data := .seq items2 n2, slots := sl2 } ∧ R (.ok (.ret Value.none)) { s with heap := s.heap.update l (Obj.mapSeq fun x => x ++ items2), toks := s.toks }) :=
  .of_wp fun prog w A R s h => by
    obtain ⟨hp,g,d,tk,os⟩:=s; obtain ⟨hl,hb,h⟩:=h; have f1:=AutoSeq1.idx_int; have f2:=AutoSeq1.sub_tuple_tuple; have f3:=AutoSeq1.sub_list_list; have f4:=AutoSeq1.sub_tuple_list; have f5:=AutoSeq1.sub_list_tuple
    have hz' : (items++items2).size≤sizeLine+1:=by rw [Array.size_append]; exact hs2
    wp_walk using (wpAny_updateSeq hl rfl (hz:=hs1) (_hz':=hz')),AutoSeq1.wpAny_loadPart' hl,AutoSeq1.wpAny_loadPart' hb; exact ⟨_,rfl,h⟩
theorem mt_extN : MtM X "list.extend" (rExtN X.K) := by
  intro pins s σ H x vs v us Q I rx rv h
  obtain ⟨l,b,xs,zs,rfl,rfl,hH,hB,hz,q⟩:=h
  cases rx
  obtain ⟨u,rfl,ru⟩:=rv.one
  cases ru
  obtain ⟨z,its,n,r,hl,e⟩:=I.lstM hH
  have key : ∃ its2 : List Value, Vals zs its2 ∧ ((∃ dd2 n2 sl2, s.heap.get? b = some { cls := .type "tuple", dict := dd2, data := .seq its2.toArray n2, slots := sl2 }) ∨ (∃ dd2 n2 sl2, s.heap.get? b = some { cls := .type "list", dict := dd2, data := .seq its2.toArray n2, slots := sl2 })) := by
    rcases hB with hB | hB
    · obtain ⟨its2,r2,⟨⟨cls,dd,data,sl⟩,e2,c,n2,d2⟩,_⟩:=I.tuple hB
      simp only at c d2
      subst c d2
      exact ⟨its2,r2,.inl ⟨_,_,_,e2⟩⟩
    · obtain ⟨its2,r2,⟨⟨cls,dd,data,sl⟩,n2,e2,c,_,d2⟩,_⟩:=I.list hB
      simp only at c d2
      subst c d2
      exact ⟨its2,r2,.inr ⟨_,_,_,e2⟩⟩
  obtain ⟨its2,r2,k⟩:=key
  have hl2:=r2.length
  have hsz : its.toArray.size+its2.toArray.size≤sizeLine:=by rw [List.size_toArray,List.size_toArray]; omega
  have hlong : ¬ (!its.toArray.isEmpty && Builtin.List.listTooLong (its.toArray.size+its2.toArray.size))=true:=by
    rw [notLongL hsz,Bool.and_false]
    exact Bool.false_ne_true
  have fin : EP X pins σ Q .none { s with heap:=s.heap.update l (Obj.mapSeq fun x => x++its2.toArray),toks:=s.toks }:=by
    refine ⟨.non,_,I.lset (its':=its++its2) hH e (by simp) (r.append r2) ?_,rfl,q⟩
    rw [List.length_append]
    omega
  rcases k with ⟨dd2,n2,sl2,e2⟩ | ⟨dd2,n2,sl2,e2⟩
  · exact call_meets F.slot_list_extend ⟨_,e,rfl⟩ F.entry_list_extend (F.args_list_extend_2 _ _) (list_extW l its.toArray n b its2.toArray n2 dd2 sl2 hlong (by rw [List.size_toArray]; omega) (by omega)) ⟨e,e2,fin⟩
  · exact call_meets F.slot_list_extend ⟨_,e,rfl⟩ F.entry_list_extend (F.args_list_extend_2 _ _) (list_extL l its.toArray n b its2.toArray n2 dd2 sl2 hlong (by rw [List.size_toArray]; omega) (by omega)) ⟨e,e2,fin⟩
end
end L2
namespace L2
open PySem PySem.Spec PyProof.Rows
noncomputable def closL (env : Env) : List (Str×NameKind)→List (Str×Addr)→List (Str×Addr)
  | [],cs => cs
  | (n,k) :: r,cs => closL env r (if k == .free then (match env.cells.lookup n with | some a => (n,a) :: cs | none => cs) else cs)
theorem closL_eq {env : Env} : ∀ (names : List (Str×NameKind)) (cs : List (Str×Addr)),(∀ y∈names,y.2=.free→∃ a,env.cells.lookup y.1=some a) →
    (forIn names cs fun (x : Str×NameKind) (r : List (Str×Addr)) => if (x.2 == NameKind.free)=true then cellOf env x.1 >>= fun a => pure (ForInStep.yield ((x.1,a) :: r)) else pure (ForInStep.yield r))=(pure (closL env names cs) : Sem _)
  | [],cs,_ => rfl
  | (n,k) :: r,cs,h => by
    have ih:=fun cs => closL_eq (env:=env) r cs fun y hy => h y (List.mem_cons_of_mem _ hy)
    rw [List.forIn_cons]
    show ((if (k == NameKind.free)=true then cellOf env n >>= fun a => pure (ForInStep.yield ((n,a) :: cs)) else pure (ForInStep.yield cs)) >>= _)=pure (closL env r (if k == .free then (match env.cells.lookup n with | some a => (n,a) :: cs | none => cs) else cs))
    by_cases hk : (k == NameKind.free)=true
    · obtain ⟨a,e⟩:=h (n,k) List.mem_cons_self (by simpa using hk)
      have e : env.cells.lookup n=some a:=e
      rw [if_pos hk,if_pos hk,e]
      have e2 : cellOf env n=pure a:=by unfold cellOf; rw [e]
      rw [e2]
      exact ih _
    · rw [if_neg hk,if_neg hk]
      exact ih _
theorem closureFor_eq {env : Env} {scope : Scope} (h : ∀ y∈scope.names,y.2=.free→∃ a,env.cells.lookup y.1=some a) : closureFor scope env=pure (closL env scope.names []):=by
  have e:=closL_eq (env:=env) scope.names [] h
  exact congrArg (fun (m : Sem (List (Str×Addr))) => m >>= fun cs => pure cs) e
theorem closL_of {env : Env} {x : Str} {c : Addr} : ∀ (names : List (Str×NameKind)) (cs : List (Str×Addr)),(closL env names cs).lookup x=some c →
    cs.lookup x=some c∨(env.cells.lookup x=some c∧(x,NameKind.free)∈names)
  | [],cs,h => .inl h
  | (n,k) :: r,cs,h => by
    rcases closL_of r _ h with q | ⟨q,m⟩
    · by_cases hk : (k == NameKind.free)=true
      · rw [if_pos hk] at q
        cases e : env.cells.lookup n with
        | none => rw [e] at q; exact .inl q
        | some a =>
          rw [e] at q
          have q : ((n,a) :: cs).lookup x=some c:=q
          rw [List.lookup_cons] at q
          by_cases hx : (x == n)=true
          · rw [hx] at q
            have q : some a=some c:=q
            cases q
            have hx : x=n:=eq_of_beq hx
            subst hx
            have hk : k=.free:=eq_of_beq hk
            subst hk
            exact .inr ⟨e,List.mem_cons_self⟩
          · have hx : (x == n)=false:=by simpa using hx
            rw [hx] at q
            exact .inl q
      · rw [if_neg hk] at q
        exact .inl q
    · exact .inr ⟨q,List.mem_cons_of_mem _ m⟩
theorem closL_has {env : Env} {x : Str} : ∀ (names : List (Str×NameKind)) (cs : List (Str×Addr)),(((∃ c,cs.lookup x=some c))∨((x,NameKind.free)∈names∧∃ c,env.cells.lookup x=some c)) →
    ∃ c,(closL env names cs).lookup x=some c
  | [],cs,h => by
    rcases h with h | ⟨m,_⟩
    · exact h
    · cases m
  | (n,k) :: r,cs,h => by
    refine closL_has r _ ?_
    rcases h with ⟨c,hc⟩ | ⟨m,c,hc⟩
    · left
      by_cases hk : (k == NameKind.free)=true
      · rw [if_pos hk]
        cases e : env.cells.lookup n with
        | none => exact ⟨c,hc⟩
        | some a =>
          by_cases hx : (x == n)=true
          · exact ⟨a,by show ((n,a) :: cs).lookup x=some a; rw [List.lookup_cons,hx]⟩
          · have hx : (x == n)=false:=by simpa using hx
            exact ⟨c,by show ((n,a) :: cs).lookup x=some c; rw [List.lookup_cons,hx]; exact hc⟩
      · rw [if_neg hk]
        exact ⟨c,hc⟩
    · rcases List.mem_cons.mp m with e | m
      · left
        cases e
        rw [if_pos (by decide),hc]
        exact ⟨c,by show ((x,c) :: cs).lookup x=some c; rw [List.lookup_cons,beq_self_eq_true]⟩
      · exact .inr ⟨m,c,hc⟩
theorem lookup_relabel_free {env : Env} : ∀ {names : List (Str×NameKind)} {x : Str},names.lookup x=some .free →
    (names.map fun (n,k) => if (k == NameKind.free && env.scope.kind == .function && env.kindOf n == some .cell) then (n,NameKind.cell) else (n,k)).lookup x=some .cell ∨
    (names.map fun (n,k) => if (k == NameKind.free && env.scope.kind == .function && env.kindOf n == some .cell) then (n,NameKind.cell) else (n,k)).lookup x=some .free
  | [],_,h => by simp at h
  | (n,k) :: r,x,h => by
    have ih:=@lookup_relabel_free env r x
    rw [List.map_cons]
    show List.lookup x ((if (k == NameKind.free && env.scope.kind == .function && env.kindOf n == some .cell)=true then (n,NameKind.cell) else (n,k)) :: _)=_∨List.lookup x ((if (k == NameKind.free && env.scope.kind == .function && env.kindOf n == some .cell)=true then (n,NameKind.cell) else (n,k)) :: _)=_
    cases hx : x == n with
    | true =>
      simp only [List.lookup_cons,hx] at h
      cases h
      by_cases hc : (NameKind.free == NameKind.free && env.scope.kind == .function && env.kindOf n == some .cell)=true
      · rw [if_pos hc]; left; simp only [List.lookup_cons,hx]
      · rw [if_neg hc]; right; simp only [List.lookup_cons,hx]
    | false =>
      simp only [List.lookup_cons,hx] at h
      by_cases hc : (k == NameKind.free && env.scope.kind == .function && env.kindOf n == some .cell)=true
      · rw [if_pos hc]; simp only [List.lookup_cons,hx]; exact ih h
      · rw [if_neg hc]; simp only [List.lookup_cons,hx]; exact ih h
theorem of_lookup_relabel {env : Env} : ∀ {names : List (Str×NameKind)} {x : Str},((names.map fun (n,k) => if (k == NameKind.free && env.scope.kind == .function && env.kindOf n == some .cell) then (n,NameKind.cell) else (n,k)).lookup x=some .cell ∨
    (names.map fun (n,k) => if (k == NameKind.free && env.scope.kind == .function && env.kindOf n == some .cell) then (n,NameKind.cell) else (n,k)).lookup x=some .free)→names.lookup x=some .free∨names.lookup x=some .cell
  | [],_,h => by simp at h
  | (n,k) :: r,x,h => by
    have ih:=@of_lookup_relabel env r x
    rw [List.map_cons] at h
    have h : List.lookup x ((if (k == NameKind.free && env.scope.kind == .function && env.kindOf n == some .cell)=true then (n,NameKind.cell) else (n,k)) :: _)=_∨List.lookup x ((if (k == NameKind.free && env.scope.kind == .function && env.kindOf n == some .cell)=true then (n,NameKind.cell) else (n,k)) :: _)=_:=h
    cases hx : x == n with
    | true =>
      simp only [List.lookup_cons,hx]
      by_cases hc : (k == NameKind.free && env.scope.kind == .function && env.kindOf n == some .cell)=true
      · have : k=.free:=by
          simp only [Bool.and_eq_true,beq_iff_eq] at hc
          exact hc.1.1
        subst this
        exact .inl rfl
      · rw [if_neg hc] at h
        simp only [List.lookup_cons,hx] at h
        exact h.symm
    | false =>
      simp only [List.lookup_cons,hx]
      refine ih ?_
      by_cases hc : (k == NameKind.free && env.scope.kind == .function && env.kindOf n == some .cell)=true
      · rw [if_pos hc] at h; simp only [List.lookup_cons,hx] at h; exact h
      · rw [if_neg hc] at h; simp only [List.lookup_cons,hx] at h; exact h
structure CompScope (osc sc : Scope) (own frees N : List Str) (ix : List Nat) : Prop where
  kind : sc.kind=.function
  nocell : ∀ y∈sc.names,y.2≠.cell
  names : ∀ y∈sc.names,y.2=.local→sc.names.lookup y.1=some .local
  fr : ∀ y∈sc.names,y.2=.free→osc.names.lookup y.1=some .cell∨osc.names.lookup y.1=some .free
  nd : (own++frees).Nodup
  frl : ∀ x∈frees,sc.names.lookup x=some .free
  ixs : ix.map (fun i => N[i]?)=frees.map some
noncomputable def compCx (X : Cx) (scope : Scope) (own frees : List Str) (cl : List (Str×Addr)) (C : Addr) (s₀ : Shared) (H₀ : Hp) (fp : List Addr) (pn : List (Addr×Obj)) : Cx :=
  { X with N:=own++frees,s₀:=s₀,H₀:=H₀,env:=compEnvC scope cl C X.env,outer:=X.stack,stack:=X.stack,ex:=fp,fn:=fun _ => false,pn:=pn,xe:=fun _ _ => False }
noncomputable def compSt (k : Nat) (ix : List Nat) (σ : St) : St:=List.replicate k none++ix.map fun i => (σ[i]?).getD none
section
variable {X : Cx} {tg iter elt : Expr} {pos : Pos} {scope : Scope} {own frees : List Str} {ix : List Nat} {wi : TI} {g : TG} {te : TE}
theorem compSt_len (k : Nat) (ix : List Nat) (σ : St) : (compSt k ix σ).length=k+ix.length:=by
  unfold compSt
  simp
theorem comp_start {pins : List (Addr×Obj)} {σ : St} {H : Hp} {s s1 : Shared} {fp : List Addr} (S : CompScope X.env.scope scope own frees X.N ix) (I : Inv X pins σ H s) (hf : ∀ b∈fp,FpOk X pins H b) (hb : ∀ b∈fp,b < s.heap.objs.size)
    (ho : s1.os=s.os) (hg : s1.gens=s.gens) (hk : ∀ b o,s.heap.get? b=some o→s1.heap.get? b=some o) (hn : s1.heap.Ns s.heap.objs.size (fun _ => none)) :
    Inv (compCx X scope own frees (closL X.env scope.names []) s.heap.objs.size s H fp (X.pn++pins)) [] (compSt own.length ix σ) H s1:=by
  have clos : ∀ x c,(closL X.env scope.names []).lookup x=some c→X.env.cells.lookup x=some c∧(x,NameKind.free)∈scope.names:=fun x c h => by
    rcases closL_of _ _ h with q | q
    · exact nomatch q
    · exact q
  have hlen : ix.length=frees.length:=by
    have:=congrArg List.length S.ixs
    simpa using this
  have cne : ∀ x c,X.env.cells.lookup x=some c→c < s.heap.objs.size:=fun x c e => by
    obtain ⟨v,o,q,_⟩:=I.cell x c e
    exact Heap.lt_size q
  refine ⟨⟨I.ok.mod,S.kind,I.ok.glob,I.ok.blt,Nat.le_refl _,fun x y c h1 h2 => I.ok.inj x y c (clos x c h1).1 (clos y c h2).1,fun x hx => ?_,fun x c z => Bool.noConfusion z,I.ok.hd,I.ok.frames,.inl rfl,fun b z => ⟨Nat.ne_of_lt (hb b z),fun x c e => (hf b z).2.2.2.2.1 x c (clos x c e).1⟩,I.bs,
      Nat.le_trans I.ok.bsz I.sz,fun b o e z => ?_,fun b z => ?_,I.stack,I.stkFree⟩,ho,?_,Un.kept hk,⟨_,hn,fun i x v h1 h2 h3 => ?_⟩,fun x c e => ?_,I.fresh,fun x c e => I.freeC x c (clos x c e).1,fun p hp => ?_,I.hok.kept hk,?_⟩
  · have hx : (relabel scope X.env).names.lookup x=some .cell∨(relabel scope X.env).names.lookup x=some .free:=hx
    rcases of_lookup_relabel hx with q | q
    · have m : (x,NameKind.free)∈scope.names:=PySem.mem_of_lookup q
      obtain ⟨c,hc⟩:=I.ok.has x (S.fr _ m rfl)
      exact closL_has _ _ (.inr ⟨m,c,hc⟩)
    · exact absurd rfl (S.nocell _ (PySem.mem_of_lookup q))
  · rcases (hf b z).2.2.2.1 with q | q
    · exact I.ok.noex b o e q
    · exact absurd (Heap.lt_size (I.ok.bs b o e).1) (Nat.not_lt.mpr q)
  · intro q
    rcases List.mem_cons.mp (I.stkSub b q) with r | r
    · exact (hf b z).2.1 r
    · exact (hf b z).2.2.1 r
  · rw [hg]; exact I.bare
  · have h2 : (compSt own.length ix σ)[i]?=some (some v):=h2
    have h1 : (own++frees)[i]?=some x:=h1
    unfold compSt at h2
    by_cases hi : i < own.length
    · rw [List.getElem?_append_left (by simpa using hi),List.getElem?_replicate] at h2
      rw [if_pos hi] at h2
      cases h2
    · have hi : own.length≤i:=Nat.not_lt.mp hi
      rw [List.getElem?_append_right (by simpa using hi),List.length_replicate,List.getElem?_map] at h2
      rw [List.getElem?_append_right hi] at h1
      cases e : ix[i - own.length]? with
      | none => rw [e] at h2; cases h2
      | some j =>
        rw [e] at h2
        have h2 : some ((σ[j]?).getD none)=some (some v):=h2
        have hσ : σ[j]?=some (some v):=by
          cases q : σ[j]? with
          | none => rw [q] at h2; cases h2
          | some z => rw [q] at h2; exact h2
        have hN : X.N[j]?=some x:=by
          have:=congrArg (fun l : List (Option Str) => l[i - own.length]?) S.ixs
          simp only [List.getElem?_map,e,h1,Option.map_some] at this
          exact Option.some.inj this
        have mf : x∈frees:=List.mem_of_getElem? h1
        have lf:=S.frl x mf
        have m : (x,NameKind.free)∈scope.names:=PySem.mem_of_lookup lf
        have hos:=S.fr _ m rfl
        obtain ⟨mm,hns,hl⟩:=I.loc
        obtain ⟨u,ru,look⟩:=hl j x v hN hσ (hos.elim (fun q => .inr (.inl q)) fun q => .inr (.inr q))
        refine ⟨u,ru,?_⟩
        rcases look with ⟨kk,_⟩ | ⟨kk,c,hc,ic⟩
        · have kk : X.env.scope.names.lookup x=some .local:=kk
          have hos : X.env.scope.names.lookup x=some .cell∨X.env.scope.names.lookup x=some .free:=hos
          rw [kk] at hos
          rcases hos with q | q <;> cases q
        · obtain ⟨c',hc'⟩:=closL_has (env:=X.env) scope.names [] (.inr ⟨m,c,hc⟩)
          have e2:=(clos x c' hc').1
          rw [hc] at e2
          cases e2
          refine .inr ⟨lookup_relabel_free lf,c,hc',?_⟩
          obtain ⟨o,q1,q2⟩:=ic
          exact ⟨o,hk _ _ q1,q2⟩
  · obtain ⟨v,o,q1,q2⟩:=I.cell x c (clos x c e).1
    exact ⟨v,o,hk _ _ q1,q2⟩
  · have hp : p∈(X.pn++pins)++[]:=hp
    rw [List.append_nil] at hp
    obtain ⟨e,n,ne,nf,d⟩:=I.pin p hp
    refine ⟨hk _ _ e,n,Nat.ne_of_lt (Heap.lt_size e),fun q => ?_,d⟩
    rcases List.mem_cons.mp (I.stkSub p.1 q) with r | r
    · exact ne r
    · exact nf r
  · show (compSt own.length ix σ).length=(own++frees).length
    rw [compSt_len,hlen,List.length_append]
theorem comp_end {pins pins' : List (Addr×Obj)} {σ σ' : St} {H H' : Hp} {s s' : Shared} {h' : Heap} {fp : List Addr} {cl : List (Str×Addr)} {C : Addr} (I : Inv X pins σ H s) (hf : ∀ b∈fp,FpOk X pins H b) (hC : s.heap.objs.size≤C)
    (J : Inv (compCx X scope own frees cl C s H fp (X.pn++pins)) pins' σ' H' s') (hs : Heap.SameBut C s'.heap h') : Inv X pins σ H' { s' with heap:=h' }:=by
  have nC : ∀ b,b < s.heap.objs.size→b≠C:=fun b q e => by subst e; exact absurd q (Nat.not_lt.mpr hC)
  refine I.call' (ch:=fp) J.os ⟨fun b o e n hb hx => ?_,fun b o e n hb hx => ?_,J.base.free,fun b o e hx => ?_,J.base.tups,J.base.frzs,J.base.tbls⟩ ?_ J.bare fun b z => ⟨(hf b z).2.2.2.1,(hf b z).2.1,(hf b z).2.2.2.2.1,(hf b z).2.2.2.2.2⟩
  · exact (hs.2 b (nC b (Heap.lt_size e))).trans (J.base.keep b o e n hb hx)
  · obtain ⟨sl,q⟩:=J.base.slot b o e n hb hx
    exact ⟨sl,(hs.2 b (nC b (Heap.lt_size e))).trans q⟩
  · obtain ⟨o',q⟩:=J.base.there b o e hx
    exact ⟨o',(hs.2 b (nC b (Heap.lt_size e))).trans q⟩
  · intro a o e
    refine (J.hok a o e).stay (fun b u hbu q => ?_) (fun _ q => q) fun _ _ q => q
    refine (hs.2 b ?_).trans q
    intro eb
    subst eb
    have hfree : H' b=none:=J.free
    rcases hbu with rfl | z
    · rw [e] at hfree; cases hfree
    · rw [z] at hfree; cases hfree
end
end L2
namespace PySem
section
variable {prog : Program} {w : World} {A : Around} {E : Value→Shared→Prop} {s : Shared}
theorem raw_pyIter_dict {d : Addr} {o : Obj} {es : Array DictEntry} {ep : Nat} {Q : Value→Shared→Prop} (hd : (d == sysModules)=false) (ho : s.heap.get? d=some o) (hc : o.ExactDict) (hdat : o.data=.dict es ep)
    (hQ : Q (.ref s.heap.objs.size) { s with heap := s.heap.push { cls := .type "dict_keyiterator", data := .fields #[.ref d, .int 0 0, .int es.size 0, .int ep 0] } }) :
    wpAny (model prog w) A (pyIter (.ref d)) Q E s:=by
  have hT : s.TypeIs (.ref d) "dict" := ⟨o, ho, hc.1⟩
  refine wpAny_pyIter_slot hT F.slot_dict_iter (wpAny_call_entry F.slot_dict_iter hT F.entry_dict_iter ?_ (F.args_dict_iter_1 _))
  unfold Builtin.«dict.__iter__»
  refine wpAny_bind ?_
  unfold Builtin.Dict.dictSlotNone
  refine wpAny_bind (wpAny_notOrdered_dict hT ?_)
  show wpAny _ _ (pure (Value.ref d)) _ _ s
  refine wpAny_pure ?_
  show wpAny _ _ (Builtin.Dict.showsAll d >>= _) _ _ s
  unfold Builtin.Dict.showsAll
  rw [if_neg (by rw [hd]; exact Bool.false_ne_true)]
  refine wpAny_bind (wpAny_pure ?_)
  refine wpAny_bind (wpAny_dictEntries ho hdat ?_)
  refine wpAny_bind (wpAny_dictEpoch ho hdat ?_)
  refine wpAny_bind (wpAny_newObj_type (wpAny_pure ⟨_, rfl, "dict_keyiterator", _, ⟨_, Heap.get?_push_size _ rfl, rfl⟩, F.slot_dict_keyiterator_next.lookup, ?_⟩))
  simpa [rawInt] using hQ
theorem raw_pyNext_item {it d : Addr} {i ep : Nat} {od : Obj} {es : Array DictEntry} {en : DictEntry} {Q : Option Value→Shared→Prop} (hit : s.heap.IsKeyIter it d i es.size ep)
    (hod : s.heap.get? d=some od) (hdd : od.data=.dict es ep) (hx : es[i]?=some en)
    (hQ : ∀ h',h'.IsKeyIter it d (i+1) es.size ep→Heap.SameBut it s.heap h'→Q (some en.key) { s with heap:=h' }) :
    wpAny (model prog w) A (pyNext (.ref it)) Q E s:=by
  obtain ⟨o,ho,hc,hd⟩:=id hit
  unfold pyNext
  refine wpAny_bind (wpAny_attempt (wpAny_callSpecial?_slot (name := Str.ofString "__next__") hit.typeIs F.slot_dict_keyiterator_next
    (wpAny_call_entry F.slot_dict_keyiterator_next hit.typeIs F.entry_dict_keyiterator_next ?_ (F.args_dict_keyiterator_next_1 _))))
  refine wpAny_bind (wpAny_pure ?_)
  refine wpAny_bind ?_
  refine wpAny_bind ?_
  first | refine wpAny_bind (wpAny_typeNameOfWhole_keyiter hit.typeIs (wpAny_pure ?_)) | refine wpAny_bind (wpAny_typeNameOf_keyiter hit.typeIs (wpAny_pure ?_))
  refine wpAny_bind (wpAny_fieldsOf ho hd ?_)
  have hown : Builtin.Dict_items.ownsTuple "dict_keyiterator" = false := by decide
  simp only [hown,Bool.false_eq_true,if_false]
  show wpAny _ _ (if (Value.ref d == Value.none)=true then _ else _) _ _ s
  rw [if_neg (show ¬ ((Value.ref d == Value.none)=true) from Bool.false_ne_true)]
  refine wpAny_bind (wpAny_pure ?_)
  refine wpAny_bind (wpAny_dictEntries hod hdd ?_)
  rw [if_neg (by simp)]
  refine wpAny_bind (wpAny_pure ?_)
  refine wpAny_bind (wpAny_dictEpoch hod hdd ?_)
  rw [if_neg (by simp)]
  refine wpAny_pure ?_
  have hlt' : i < es.size:=by
    rcases Nat.lt_or_ge i es.size with h | h
    · exact h
    · simp [Array.getElem?_eq_none h] at hx
  have hkey : es[i]=en:=by
    rw [Array.getElem?_eq_getElem hlt'] at hx
    exact Option.some.inj hx
  simp only [show ¬ ((i : Int) < 0) from by omega,if_false,Int.toNat_natCast,Array.getElem?_eq_getElem hlt']
  refine wpAny_bind ?_
  first | refine wpAny_bind (wpAny_typeNameOfWhole_keyiter hit.typeIs (wpAny_pure ?_)) | refine wpAny_bind (wpAny_typeNameOf_keyiter hit.typeIs (wpAny_pure ?_))
  refine wpAny_bind (wpAny_isOneOf_keyiter hit.typeIs ?_)
  show wpAny _ _ (setField (.ref it) 1 (rawInt ((i : Int)+1)) >>= _) _ _ s
  refine wpAny_bind (wpAny_setField ho hd (by simp) ?_)
  have hit' : (s.heap.update it (Obj.mapFields (·.setIfInBounds 1 (rawInt ((i : Int)+1))))).IsKeyIter it d (i+1) es.size ep :=
    ⟨_,Heap.get?_update_self _ ho (Obj.isFreed_of_fields (Obj.data_mapFields hd _)),(Obj.cls_mapFields ..).trans hc,by rw [Obj.data_mapFields hd]; simp [rawInt]⟩
  refine wpAny_bind (wpAny_holding ?_)
  refine wpAny_bind (wpAny_isOneOf_keyiter (s:={ s with heap:=s.heap.update it (Obj.mapFields (·.setIfInBounds 1 (rawInt ((i : Int)+1)))) }) hit'.typeIs ?_)
  show wpAny _ _ (pure es[i].key) _ _ _
  rw [hkey]
  exact wpAny_pure (wpAny_pure ⟨_,rfl,wpAny_pure (hQ _ hit' (Heap.SameBut.update ..))⟩)
theorem raw_pyNext_end {it d : Addr} {i ep : Nat} {od : Obj} {es : Array DictEntry} {Q : Option Value→Shared→Prop} (hh : A.handled=none) (hit : s.heap.IsKeyIter it d i es.size ep)
    (hod : s.heap.get? d=some od) (hdd : od.data=.dict es ep) (hge : es.size≤i)
    (hQ : ∀ h',Heap.ExtBut it s.heap h'→Q none { s with heap:=h' }) : wpAny (model prog w) A (pyNext (.ref it)) Q E s:=by
  obtain ⟨o,ho,hc,hd⟩:=id hit
  unfold pyNext
  refine wpAny_bind (wpAny_attempt (wpAny_callSpecial?_slot (name := Str.ofString "__next__") hit.typeIs F.slot_dict_keyiterator_next
    (wpAny_call_entry F.slot_dict_keyiterator_next hit.typeIs F.entry_dict_keyiterator_next ?_ (F.args_dict_keyiterator_next_1 _))))
  refine wpAny_bind (wpAny_pure ?_)
  refine wpAny_bind ?_
  refine wpAny_bind ?_
  first | refine wpAny_bind (wpAny_typeNameOfWhole_keyiter hit.typeIs (wpAny_pure ?_)) | refine wpAny_bind (wpAny_typeNameOf_keyiter hit.typeIs (wpAny_pure ?_))
  refine wpAny_bind (wpAny_fieldsOf ho hd ?_)
  have hown : Builtin.Dict_items.ownsTuple "dict_keyiterator" = false := by decide
  simp only [hown,Bool.false_eq_true,if_false]
  show wpAny _ _ (if (Value.ref d == Value.none)=true then _ else _) _ _ s
  rw [if_neg (show ¬ ((Value.ref d == Value.none)=true) from Bool.false_ne_true)]
  refine wpAny_bind (wpAny_pure ?_)
  refine wpAny_bind (wpAny_dictEntries hod hdd ?_)
  rw [if_neg (by simp)]
  refine wpAny_bind (wpAny_pure ?_)
  refine wpAny_bind (wpAny_dictEpoch hod hdd ?_)
  rw [if_neg (by simp)]
  refine wpAny_pure ?_
  simp only [show ¬ ((i : Int) < 0) from by omega,if_false,Int.toNat_natCast,Array.getElem?_eq_none hge]
  refine wpAny_bind ?_
  first | refine wpAny_bind (wpAny_typeNameOfWhole_keyiter hit.typeIs (wpAny_pure ?_)) | refine wpAny_bind (wpAny_typeNameOf_keyiter hit.typeIs (wpAny_pure ?_))
  show wpAny _ _ (setField (.ref it) 0 .none >>= _) _ _ s
  refine wpAny_bind (wpAny_setField ho hd (by simp) ?_)
  show wpAny _ _ (newExc (.type "StopIteration") [] >>= _) _ _ _
  refine wpAny_bind ?_
  simp only [newExc,newTuple]
  refine wpAny_bind (wpAny_newObj_type ?_ (by size_fits))
  refine wpAny_bind (m:=firstArgMember _ _) (wpAny_of_eq (a:=Value.none) (by first | rfl | (simp only [firstArgMember]; rfl)) ?_)
  refine wpAny_newObj_type ?_ (by size_fits)
  simp only [raiseNew]
  refine wpAny_bind (wpAny_handled ?_)
  rw [show A.in1.handled=none from hh]
  refine wpAny_bind (wpAny_pure (wpAny_throw ?_))
  refine wpAny_bind (wpAny_isInstance (T := "StopIteration") (b := true) ⟨_, Heap.get?_push_size _ rfl, rfl⟩ isSubtype_stop ?_)
  exact wpAny_pure (hQ _ (((Heap.SameBut.update ..).extBut.push _).push _))
end
end PySem
namespace L2
open PySem PySem.Spec PyProof.Rows
noncomputable def ItD (a : Addr) (o : Obj) (kvs : List (List Key×V)) : It :=
  ⟨fun i H => i < kvs.length∧H a=some (.frz o (.dT kvs)),fun i H x H' => H'=H∧∃ b k v,x=.ref b∧kvs[i]?=some (k,v)∧H b=some (.tup (k.map kV)),fun i H => kvs.length≤i∧H a=some (.frz o (.dT kvs))⟩
theorem dt_raw {P : Program} {w : World} {H : Hp} {h : Heap} {a : Addr} {o : Obj} {kvs : List (List Key×V)} (ok : HOk P w H h) (e : H a=some (.frz o (.dT kvs))) :
    h.get? a=some o∧(a == sysModules)=false∧o.ExactDict∧∃ es ep,o.data=.dict es ep∧es.size=kvs.length ∧
      ∀ (i : Nat) (k : List Key) (v : V),kvs[i]?=some (k,v)→∃ en b,es[i]?=some en∧en.key=.ref b∧H b=some (.tup (k.map kV)):=by
  obtain ⟨ho,z,y,xs,r,o',es,ep,e',c,d,l,nd⟩:=ok a _ e
  rw [ho] at e'
  cases e'
  have hl : kvs.length=xs.length:=Paired.length r
  have hs : es.size=xs.length:=size_of_entries l
  refine ⟨ho,y,c,es,ep,d,by omega,fun i k v q => ?_⟩
  have key : ∀ {kvs : List (List Key×V)} {xs : List (List Key×Addr×Value)},Paired (fun (p : List Key×V) (q : List Key×Addr×Value) => p.1=q.1∧H q.2.1=some (.tup (p.1.map kV))∧RelV p.2 q.2.2) kvs xs →
      ∀ (i : Nat),kvs[i]?=some (k,v)→∃ b u,xs[i]?=some (k,b,u)∧H b=some (.tup (k.map kV)):=by
    intro kvs xs r
    induction r with
    | nil => intro i q; simp at q
    | @cons p x l1 l2 h1 h2 ih =>
      intro i q
      cases i with
      | zero =>
        simp only [List.getElem?_cons_zero,Option.some.injEq] at q
        subst q
        obtain ⟨e1,e2,_⟩:=h1
        obtain ⟨x1,x2,x3⟩:=x
        have e1 : k=x1:=e1
        subst e1
        exact ⟨x2,x3,rfl,e2⟩
      | succ j =>
        simp only [List.getElem?_cons_succ] at q
        obtain ⟨b,u,q1,q2⟩:=ih j q
        exact ⟨b,u,by simpa using q1,q2⟩
  obtain ⟨b,u,q1,q2⟩:=key r i q
  have hi:=entry_at l i
  rw [q1] at hi
  exact ⟨_,b,hi,rfl,q2⟩
theorem turn_dict {P : Program} {w : World} {K : PySem.W.Frag} {tg : Expr} (a it : Addr) (o : Obj) (es : Array DictEntry) (ep : Nat) (hd : o.data=.dict es ep) (kvs : List (List Key×V)) :
    Turn P w K tg (ItD a o kvs) [it] it (fun i h => h.IsKeyIter it a i es.size ep) where
  mem:=by simp
  obj:=fun i h st b hb => by
    have e : b=it:=by simpa using hb
    subst e
    obtain ⟨o,e,c,d⟩:=st
    exact ⟨o,e,fun v z => by rw [d] at z; cases z⟩
  keep:=fun i h h' st k => st.at fun o e => k it (by simp) o e
  item:=by
    intro X hP hw hK hc i pins s σ H E I hf st hg
    subst hP hw hK
    obtain ⟨hi,hq⟩:=hg
    obtain ⟨ho,_,_,es',ep',hd',hsz,hat⟩:=dt_raw I.hok hq
    rw [hd] at hd'
    cases hd'
    obtain ⟨f0,f1,f2,f3,f4,f5⟩:=hf it (by simp)
    obtain ⟨⟨k,v⟩,hk⟩ : ∃ p,kvs[i]?=some p:=⟨kvs[i],by simp [hi]⟩
    obtain ⟨en,b,he,hb,hB⟩:=hat i k v hk
    refine raw_pyNext_item st ho hd he fun h' st' sb => ?_
    have I1 : Inv X pins σ H { s with heap:=h' }:=I.turned (t':=s.toks) (fun b o hb e => (sb.2 b hb).trans e) f0 f1 f3 f4 f5
    obtain ⟨o2,e2,c2,d2⟩:=id st'
    exact ⟨_,rfl,go_of (s:={ s with heap:=h' }) e2 c2 d2 (by decide) ⟨.ref b,H,I1,hb,⟨rfl,b,k,v,rfl,hk,hB⟩,st',fun b hb => (hf b hb).1⟩⟩
  done:=by
    intro X hP hw hK hc i pins s σ H E I hf st hg
    subst hP hw hK
    obtain ⟨hi,hq⟩:=hg
    obtain ⟨ho,_,_,es',ep',hd',hsz,hat⟩:=dt_raw I.hok hq
    rw [hd] at hd'
    cases hd'
    obtain ⟨f0,f1,f2,f3,f4,f5⟩:=hf it (by simp)
    exact raw_pyNext_end (I.ok.hd hc) st ho hd (by omega) fun h' eb => ⟨rfl,I.turned (t':=s.toks) (fun b o hb e => eb b o hb e) f0 f1 f3 f4 f5⟩
  self:=fun _ _ _ _ _ st h => wpAny_pyIter_keyiter st h
section
variable {X : Cx} {tg : Expr}
theorem Inv.freeze {pins : List (Addr×Obj)} {σ : St} {H : Hp} {s : Shared} {a : Addr} {kvs : List (List Key×V)} (I : Inv X pins σ H s) (h : H a=some (.dT kvs)) :
    ∃ o es ep,s.heap.get? a=some o∧o.ExactDict∧o.data=.dict es ep∧(a == sysModules)=false∧es.size=kvs.length∧Inv X pins σ (upd H a (.frz o (.dT kvs))) s:=by
  obtain ⟨z,y,xs,r,o,es,ep,e,c,d,l,nd⟩:=I.hok a _ h
  have hs : es.size=xs.length:=size_of_entries l
  have hl : kvs.length=xs.length:=Paired.length r
  refine ⟨o,es,ep,e,c,d,y,by omega,?_⟩
  have tn : ∀ b xs,H b=some (.tup xs)→(upd H a (.frz o (.dT kvs))) b=some (.tup xs):=fun b xs q => by
    rw [upd_ne (ne_of q h (by intro z; cases z))]; exact q
  have hw:=I.write (x:=a) (e:=a) (o:=.frz o (.dT kvs)) (h':=s.heap) (t':=s.toks) (by rw [h]; trivial) (.inl rfl) (fun b u _ q => q) ⟨o,e⟩
    ⟨e,z,y,xs,Paired.mapP r fun p q z => ⟨z.1,tn _ _ z.2.1,z.2.2⟩,o,es,ep,e,c,d,l,nd⟩
  exact hw
noncomputable def iDict (td : TE) : TI:=fun σ H R => td σ H fun x H1 => ∃ a kvs,x=.ref a∧H1 a=some (.dT kvs)∧∀ o,R (ItD a o kvs) (upd H1 a (.frz o (.dT kvs)))
theorem pi_dict {l : Expr} {tl : TE} (hl : PE X l tl) : PI X tg l (iDict tl):=by
  intro pins s σ H R I h
  refine thn (hl pins s σ H _ I h) fun v s1 ⟨x,H1,I1,r1,a,kvs,e,ha,q⟩ => ?_
  subst e
  cases r1
  obtain ⟨o,es,ep,ho,hc,hd,hy,hsz,I2⟩:=I1.freeze ha
  refine raw_pyIter_dict hy ho hc hd ?_
  have I3 : Inv X pins σ (upd H1 a (.frz o (.dT kvs))) { s1 with heap := s1.heap.push { cls := .type "dict_keyiterator", data := .fields #[.ref a, .int 0 0, .int es.size 0, .int ep 0] } } :=
    I2.kept (t':=s1.toks) fun b u q => Heap.get?_push_of_some _ q
  refine ⟨s1.heap.objs.size,[s1.heap.objs.size],_,ItD a o kvs,_,rfl,I3,turn_dict a _ o es ep hd kvs,⟨_,Heap.get?_push_size _ rfl,rfl,rfl⟩,fun b hb => ?_,q o⟩
  have e : b=s1.heap.objs.size:=by simpa using hb
  subst e
  exact I2.fpOk (Nat.le_refl _) I2.fresh
end
end L2
namespace L2
open PySem PySem.Spec PyProof.Rows
section
variable {X : Cx}
end
noncomputable def compOk (osc sc : Scope) (own frees N : List Str) (ix : List Nat) : Bool :=
  decide (sc.kind=.function) && sc.names.all (fun y => decide (y.2≠.cell)) && sc.names.all (fun y => decide (y.2=.local→sc.names.lookup y.1=some .local)) &&
    sc.names.all (fun y => decide (y.2=.free→osc.names.lookup y.1=some .cell∨osc.names.lookup y.1=some .free)) && decide (own++frees).Nodup && frees.all (fun x => decide (sc.names.lookup x=some .free)) &&
    decide (ix.map (fun i => N[i]?)=frees.map some)
theorem compOk.sc {osc sc : Scope} {own frees N : List Str} {ix : List Nat} (h : compOk osc sc own frees N ix=true) : CompScope osc sc own frees N ix:=by
  unfold compOk at h
  simp only [Bool.and_eq_true,List.all_eq_true,decide_eq_true_eq] at h
  obtain ⟨⟨⟨⟨⟨⟨h1,h2⟩,h3⟩,h4⟩,h5⟩,h6⟩,h7⟩:=h
  exact ⟨h1,h2,h3,h4,h5,h6,h7⟩
theorem Same.new {H : Hp} {p : Addr} (o : HO) (h : H p=none) : Same H (upd H p o):=fun x u e => by rw [upd_ne (ne_of_none e h)]; exact e
end L2
namespace L2
open PySem PySem.Spec PyProof.Rows
section
variable {X : Cx} {st : Stmt} {rest : List Stmt} {t u : TS}
end
end L2
namespace L2
open PySem PySem.Spec PyProof.Rows
theorem canLayAll_ints : ∀ ns : List Int,PyData.canLayAll0 (ns.map PyData.int)=true
  | [] => by simp only [List.map_nil,PyData.canLayAll0]
  | n :: ns => by simp only [List.map_cons,PyData.canLayAll0,PyData.canLay0,canLayAll_ints ns,Bool.and_self]
theorem depthAll_ints : ∀ ns : List Int,PyData.depthAll (ns.map PyData.int)≤1
  | [] => by simp [PyData.depthAll]
  | n :: ns => by
    have:=depthAll_ints ns
    simp only [List.map_cons,PyData.depthAll,PyData.depth]
    omega
theorem eqvAll_ints : ∀ ns ms : List Int,PyData.eqvAll (ns.map PyData.int) (ms.map PyData.int)=decide (ns=ms)
  | [],[] => by simp only [List.map_nil,PyData.eqvAll,decide_true]
  | [],m :: ms => by simp [PyData.eqvAll]
  | n :: ns,[] => by simp [PyData.eqvAll]
  | n :: ns,m :: ms => by
    simp only [List.map_cons,PyData.eqvAll,PyData.eqv,eqvAll_ints ns ms]
    by_cases h : n=m
    · subst h; by_cases h2 : ns=ms <;> simp [h2]
    · simp [h]
noncomputable def dT (ns : List Int) : PyData:=.tuple (ns.map PyData.int)
theorem lay_dT (ns : List Int) : (dT ns).canLay0=true:=by simp only [dT,PyData.canLay0,canLayAll_ints]
theorem dep_dT (ns : List Int) : (dT ns).depth≤2:=by
  have:=depthAll_ints ns
  simp only [dT,PyData.depth]; omega
theorem eqv_dT (ns ms : List Int) : PyData.eqv (dT ns) (dT ms)=decide (ns=ms):=by simp only [dT,PyData.eqv,eqvAll_ints]
theorem map_take {α β : Type} (f : α→β) (xs : List α) (k : Nat) : (xs.map f).take k=(xs.take k).map f:=by rw [List.map_take]
theorem map_drop {α β : Type} (f : α→β) (xs : List α) (k : Nat) : (xs.map f).drop k=(xs.drop k).map f:=by rw [List.map_drop]
theorem Paired.snoc {α β : Type} {F : α→β→Prop} : ∀ {l₁ : List α} {l₂ : List β} {a : α} {b : β},Paired F l₁ l₂→F a b→Paired F (l₁++[a]) (l₂++[b])
  | _,_,_,_,.nil,h => .cons h .nil
  | _,_,_,_,.cons r t,h => .cons r (Paired.snoc t h)
section
variable {κ : Type} [DecidableEq κ]
end
end L2
namespace L2
open PySem PySem.Spec PyProof.Rows
section
variable {X : Cx} {e st : Expr} {te : TE} {p2 pos : Pos}
end
end L2
namespace L2
open PySem PySem.Spec PyProof.Rows
noncomputable def NewX (K : PySem.W.Frag) (H : Hp) (xs : List V) (Q : VK) : Prop:=∀ p H',(H'=H∧H p=some (.tup xs))∨(H p=none∧H'=upd H p (.tup xs))→Q (.ref p) H'
theorem NewX.intro {K : PySem.W.Frag} {H : Hp} {xs : List V} {Q : VK} (h : ∀ p H',H' p=some (.tup xs)→Same H H'→Q (.ref p) H') : NewX K H xs Q:=by
  intro p H' e
  rcases e with ⟨rfl,s⟩ | ⟨n,rfl⟩
  · exact h p H' s (Same.refl _)
  · exact h p _ upd_same (Same.new _ n)
section
variable {X : Cx}
noncomputable def rSlX (K : PySem.W.Frag) : V→Option Int→Option Int→Hp→VK→Prop:=fun x lo hi H Q => ∃ a xs,x=.ref a∧H a=some (.tup xs)∧NewX K H (cutV xs lo hi) Q
theorem sl_tupX : SlR X (rSlX X.K):=by
  intro pins s σ H x v vl vu lo hi sl Q I rx hs pl pu h
  obtain ⟨a,xs,rfl,hx0,q⟩:=h
  have hx : SqT X.K H a xs:=SqT.of hx0
  by_cases hw : HT.sIx xs.length 0 lo=0∧HT.sIx xs.length xs.length hi=xs.length
  · cases rx
    obtain ⟨its,r,ht,hz⟩:=I.tuple hx
    have hlen : its.toArray.size=xs.length:=by rw [List.size_toArray]; exact r.length.symm
    refine ⟨"tuple", _, PyProof.Rows.slot_tuple_getitem.lookup, ht.typeIs, ?_⟩
    refine HT.getItem_tuple_whole ht hs pl pu (by rw [hlen]; exact hw) ⟨.ref a,H,I,rfl,q a H (.inl ⟨rfl,?_⟩)⟩
    rw [cutV_whole hw]
    exact hx0
  · exact sl_tup pins s σ H _ v vl vu lo hi sl Q I rx hs pl pu ⟨a,xs,rfl,hx,hw,fun p hp => q p _ (.inr ⟨hp,rfl⟩)⟩
noncomputable def rCatX (K : PySem.W.Frag) : R2:=fun x y H Q => ∃ a b xs ys,x=.ref a∧y=.ref b∧H a=some (.tup xs)∧H b=some (.tup ys)∧xs.length+ys.length≤sizeLine∧NewX K H (xs++ys) Q
theorem op_catX : OpR X (binaryOp .Add) (rCatX X.K):=by
  intro pins s σ H x y v u Q I rx ry h
  obtain ⟨a,b,xs,ys,rfl,rfl,ha0,hb0,hz,q⟩:=h
  have ha : SqT X.K H a xs:=SqT.of ha0
  have hb : SqT X.K H b ys:=SqT.of hb0
  by_cases hx : xs=[]
  · subst hx
    cases rx
    cases ry
    obtain ⟨its,r1,p1,_⟩:=I.tuple ha
    obtain ⟨its2,r2,p2,_⟩:=I.tuple hb
    have e0 : its=[]:=(Vals.nil_iff r1).mpr rfl
    subst e0
    obtain ⟨⟨cls,dd,data,sl⟩,ho,hc,n,hd⟩:=id p1
    obtain ⟨⟨cls2,dd2,data2,sl2⟩,ho2,hc2,n2,hd2⟩:=id p2
    simp only at hc hd hc2 hd2
    subst hc hd hc2 hd2
    exact concat_meets ⟨_,ho,rfl⟩ ⟨_,ho2,rfl⟩ noFill_tuple_add seq_tuple_add PySem.F.slot_tuple_add PySem.F.entry_tuple_add (PySem.F.args_tuple_add_2 _ _)
      (tuple_addW0 a b _ _ n n2 dd dd2 sl sl2 (by simp)) ⟨ho,ho2,.ref b,H,I,rfl,q b H (.inl ⟨rfl,hb0⟩)⟩
  · refine op_catT pins s σ H _ _ v u Q I rx ry ⟨a,b,xs,ys,rfl,rfl,ha,hb,hx,hz,fun e => ?_,fun _ p hp => q p _ (.inr ⟨hp,rfl⟩)⟩
    refine q a H (.inl ⟨rfl,?_⟩)
    rw [e,List.append_nil]
    exact ha0
theorem call_tupX : CallR X (.type "tuple") (fun xs H Q => ∃ (p : Addr) (ys : List V), xs = [.ref p] ∧ (SqL X.K H p ys ∨ H p = some (.tup ys)) ∧ NewX X.K H ys Q) := by
  intro pins s σ H xs us Q I r h
  obtain ⟨p,ys,rfl,hs,q⟩:=h
  refine call_tuple_of pins s σ H _ us Q I r ⟨p,ys,rfl,?_⟩
  rcases hs with hs | hs
  · exact .inl ⟨hs,fun l hl => q l _ (.inr ⟨hl,rfl⟩)⟩
  · exact .inr ⟨SqT.of hs,q p H (.inl ⟨rfl,hs⟩)⟩
end
end L2
namespace L2
open PySem PySem.Spec PyProof.Rows
theorem noFill_tuple_mul : fillsNumberSlot (.type "tuple") "mul" = pure false :=
  PySem.fillsNumberSlot_seq (id := "tuple.__mul__") (r := some (.builtin "tuple.__rmul__")) F.slot_tuple_mul.lookup (by decide +kernel) F.slot_tuple_rmul.lookup (by decide +kernel)
theorem repeat_tuple : seqRepeat? (.type "tuple") = pure (some (.builtin "tuple.__mul__")) := by
  unfold seqRepeat?
  rw [PySem.seqSlot_of (T := "tuple") (name := "__mul__") (id := "tuple.__mul__") F.slot_tuple_mul.lookup (by decide +kernel), PySem.seqSlot_of (T := "tuple") (name := "__rmul__") (id := "tuple.__rmul__") F.slot_tuple_rmul.lookup (by decide +kernel)]
  rfl
theorem int_rmul_tuple (a : Int) (t : Tok) (l : Addr) (items : Array Value) (n : Nat) (dd : Option Addr) (sl : Array (Option Value)) :
    Meets (Builtin.«int.__rmul__» ⟨[.int a t, .ref l], []⟩) (fun _ R s => s.heap.get? l = some { cls := .type "tuple", dict := dd, data := .seq items n, slots := sl } ∧ R (.ok (.ret Value.notImplemented)) s) :=
  .of_wp fun prog w A R s h => by obtain ⟨hp,g,d,tk,os⟩:=s; obtain ⟨hl,h⟩:=h; wp_walk; exact ⟨_,rfl,h⟩
theorem tuple_mulW (l : Addr) (items : Array Value) (n : Nat) (dd : Option Addr) (sl : Array (Option Value)) (x : Int) (u : Tok) (hc0 : ¬(decide (x < -(2 ^ 63)) || decide (x ≥ 2 ^ 63))=true) (hc1 : ¬(items.isEmpty || x == 1)=true) (hc2 : ¬(decide (x≤0) || items.isEmpty)=true) (hc3 : ¬ ((items.size : Int) * x > (2 ^ 63 - 1) / 8)) (hc4 : ¬ Builtin.Tuple.tupleTooMany ((items.size : Int) * x)=true) (hsz : (List.foldl (fun x1 x2 => x1++x2) #[] (List.replicate x.toNat items)).size≤sizeLine) :
    Meets (Builtin.«tuple.__mul__» ⟨[.ref l, .int x u], []⟩) (fun _ R s => s.heap.get? l = some { cls := .type "tuple", dict := dd, data := .seq items n, slots := sl } ∧ R (.ok (.ret (Value.ref s.heap.objs.size))) { s with heap := s.heap.push { cls := Value.type "tuple", data := Data.seq (List.foldl (fun x1 x2 => x1 ++ x2) #[] (List.replicate x.toNat items)) }, toks := s.toks }) :=
  .of_wp fun prog w A R s h => by
    obtain ⟨hp,g,d,tk,os⟩:=s; obtain ⟨hl,h⟩:=h
    have f1:=AutoSeq1.idx_int; have f2:=AutoSeq1.sub_tuple_tuple
    wp_walk using AutoSeq1.wpAny_loadPart' hl
    rw [if_neg hc0]
    wp_walk using AutoSeq1.wpAny_loadPart' hl
    rw [if_neg hc3]
    wp_walk using AutoSeq1.wpAny_loadPart' hl
    exact ⟨_,rfl,h⟩
section
variable {X : Cx}
noncomputable def rRepT (K : PySem.W.Frag) : R2:=fun x y H Q => ∃ a k xs,x=.ref a∧y=.int k∧SqT K H a xs∧0 < xs.length∧2≤k∧k < 2 ^ 63∧xs.length * k.toNat≤sizeLine ∧
  ∀ p,H p=none→Q (.ref p) (upd H p (.tup (List.replicate k.toNat xs).flatten))
theorem op_repT : OpR X (binaryOp .Mult) (rRepT X.K):=by
  intro pins s σ H x y v u Q I rx ry h
  obtain ⟨a,k,xs,rfl,rfl,ha,h0,h1,h2,hz,q⟩:=h
  cases rx
  obtain ⟨t,rfl⟩:=ry
  obtain ⟨its,r,p1,_⟩:=I.tuple ha
  obtain ⟨⟨cls,dd,data,sl⟩,e,hc,n,hd⟩:=id p1
  simp only at hc hd
  subst hc hd
  have hlen : its.length=xs.length:=r.length.symm
  have hne : its.toArray.isEmpty=false:=by
    cases its with
    | nil => simp at hlen; omega
    | cons a r => simp
  have hnew : List.foldl (fun x1 x2 => x1++x2) #[] (List.replicate k.toNat its.toArray)=(List.replicate k.toNat its).flatten.toArray:=by
    have:=foldl_rep its k.toNat []
    rw [List.nil_append] at this
    exact this
  have hl2 : ((its.toArray.size : Nat) : Int) * k=((xs.length * k.toNat : Nat) : Int):=by
    rw [List.size_toArray,hlen,Int.natCast_mul,Int.toNat_of_nonneg (by omega)]
  have hs : (sizeLine : Nat)=16777216:=rfl
  refine wpAny_binaryOp_repeat_ref (T := "tuple") (U := "int") (by decide) ⟨_, e, rfl⟩ (fun s' => typeIs_int s' k t) noFill_tuple_mul F.fills_int_mul F.slot_int_rmul repeat_tuple F.slot_int_index.lookup
    (call_meets F.slot_int_rmul (typeIs_int s k t) F.entry_int_rmul (F.args_int_rmul_2 _ _) (int_rmul_tuple k t a its.toArray n dd sl)
      ⟨e,rfl,⟨_,e,rfl⟩,call_meets F.slot_tuple_mul ⟨_,e,rfl⟩ F.entry_tuple_mul (F.args_tuple_mul_2 _ _) (tuple_mulW a its.toArray n dd sl k t (by simp; omega) (by rw [hne]; simp; omega) (by rw [hne]; simp; omega) (by rw [hl2]; clear hl2; generalize xs.length * k.toNat=m at hz ⊢; omega) (by rw [hl2]; clear hl2; generalize xs.length * k.toNat=m at hz ⊢; unfold Builtin.Tuple.tupleTooMany; rw [decide_eq_true_eq]; omega) (by rw [hnew,List.size_toArray,len_rep,hlen,Nat.mul_comm]; exact hz)) ⟨e,?_⟩⟩)
  rw [hnew]
  refine ⟨.ref s.heap.objs.size,_,I.laid (t':=s.toks) (o:=.tup (List.replicate k.toNat xs).flatten) (fun b ob q => Heap.get?_push_of_some _ q) (Nat.le_refl _) ?_,rfl,q _ (I.hok.fresh (Nat.le_refl _))⟩
  exact ⟨by rw [len_rep,Nat.mul_comm]; exact hz,_,r.rep k.toNat,IsTup.new _ _⟩
end
end L2
namespace Mi
open PySem L2
inductive D where
  | non | bool (b : Bool) | int (i : Int) | str (x : Str)
  | tup (ds : List D) | ro (ds : List D) | lst (l : Nat) (ds : List D)
  | dct (l : Nat) (ks vs : List D) | obj (l : Nat) (c : Str) (ns : List Str) (vs : List D)
  | exc (c : Str) | fn (c : Str) | fdc (ks vs : List D)
deriving Inhabited
mutual
noncomputable def labs : D→List Nat
  | .tup ds => labsL ds
  | .ro ds => labsL ds
  | .fdc _ vs => labsL vs
  | .lst l ds => l :: labsL ds
  | .dct l ks vs => l :: (labsL ks++labsL vs)
  | .obj l _ _ vs => l :: labsL vs
  | .non => [] | .bool _ => [] | .int _ => [] | .str _ => [] | .exc _ => [] | .fn _ => []
noncomputable def labsL : List D→List Nat
  | [] => []
  | d :: ds => labs d++labsL ds
end
noncomputable def labsO : List (Option D)→List Nat
  | [] => []
  | none :: r => labsO r
  | some d :: r => labs d++labsO r
structure Gx where
  K : PySem.W.Frag
  cl : Str→Option Addr
  ci : ∀ c c' a,cl c=some a→cl c'=some a→c=c'
  ck : ∀ c a,cl c=some a→∃ o,K.lookup a=some o∧∀ its n,o.data≠.seq its n
noncomputable def keyD : Key→D
  | .inl i => .int i
  | .inr x => .str x
noncomputable def dkD (ks : List Key) : D:=.tup (ks.map keyD)
noncomputable def RoL (K : PySem.W.Frag) (H : Hp) (a : Addr) (xs : List V) : Prop :=
  (∃ o, H a = some (.frz o (.lst xs))) ∨ ∃ (o : Obj) (its : Array Value) (n : Nat), K.lookup a = some o ∧ o.cls = .type "list" ∧ o.dict = none ∧ o.data = .seq its n ∧ its.size ≤ sizeLine ∧ Vals xs its.toList
theorem RoL.sq {K : PySem.W.Frag} {H : Hp} {a : Addr} {xs : List V} (h : RoL K H a xs) : SqL K H a xs:=by
  rcases h with ⟨o,h⟩ | h
  · exact .inl (.inr ⟨o,h⟩)
  · exact .inr h
mutual
noncomputable def RD (G : Gx) (ρ : Nat→Addr) (H : Hp) : D→V→Prop
  | .non,v => v=.non
  | .bool b,v => v=.bl b
  | .int i,v => v=.int i
  | .str x,v => v=.str x
  | .exc c,v => ∃ a o C,v=.ref a∧G.cl c=some C∧o.cls=.ref C∧(∃ vs,o.data=.fields vs)∧H a=some (.frz o (.ext fun _ => True))
  | .fn c,v => ∃ a,v=.ref a∧G.cl c=some a
  | .tup ds,v => ∃ a xs,v=.ref a∧H a=some (.tup xs)∧RDs G ρ H ds xs
  | .ro ds,v => ∃ a xs,v=.ref a∧RoL G.K H a xs∧RDs G ρ H ds xs
  | .fdc ks vs,v => ∃ (a : Addr) (o : Obj) (kvs : List (List Key×V)),v=.ref a∧H a=some (.frz o (.dT kvs))∧ks=kvs.map (fun p => dkD p.1)∧RDs G ρ H vs (kvs.map (·.2))
  | .lst l ds,v => v=.ref (ρ l)∧∃ xs,H (ρ l)=some (.lst xs)∧RDs G ρ H ds xs
  | .dct l ks vs,v => v=.ref (ρ l)∧((∃ kvs : List (Key×V),H (ρ l)=some (.dK kvs)∧ks=D.non :: kvs.map (fun p => keyD p.1)∧RDs G ρ H vs (kvs.map (·.2))) ∨
      (∃ kvs : List (List Key×V),H (ρ l)=some (.dT kvs)∧ks=kvs.map (fun p => dkD p.1)∧RDs G ρ H vs (kvs.map (·.2))))
  | .obj l c ns vs,v => v=.ref (ρ l)∧∃ C dx fs,G.cl c=some C∧H (ρ l)=some (.ins C dx fs)∧ns=fs.map (·.1)∧RDs G ρ H vs (fs.map (·.2))
noncomputable def RDs (G : Gx) (ρ : Nat→Addr) (H : Hp) : List D→List V→Prop
  | [],xs => xs=[]
  | d :: ds,xs => ∃ x r,xs=x :: r∧RD G ρ H d x∧RDs G ρ H ds r
end
structure Stays (H H' : Hp) : Prop where
  t : ∀ b xs,H b=some (.tup xs)→H' b=some (.tup xs)
  f : ∀ b o u,H b=some (.frz o u)→H' b=some (.frz o u)
theorem Stays.refl (H : Hp) : Stays H H:=⟨fun _ _ h => h,fun _ _ _ h => h⟩
theorem Stays.of {H H' : Hp} (h : Same H H') : Stays H H':=⟨fun _ _ e => h _ _ e,fun _ _ _ e => h _ _ e⟩
theorem Stays.ro {K : PySem.W.Frag} {H H' : Hp} (t : Stays H H') {a : Addr} {xs : List V} (h : RoL K H a xs) : RoL K H' a xs:=by
  rcases h with ⟨o,h⟩ | h
  · exact .inl ⟨o,t.f _ _ _ h⟩
  · exact .inr h
section
variable {G : Gx} {ρ ρ' : Nat→Addr} {H H' : Hp}
mutual
theorem RD.stay (ts : Stays H H') : ∀ (t : D) (v : V),RD G ρ H t v→(∀ l∈labs t,ρ' l=ρ l∧∀ o,H (ρ l)=some o→H' (ρ l)=some o)→RD G ρ' H' t v
  | .non,v,h,_ => by simp only [RD] at h ⊢; exact h
  | .bool b,v,h,_ => by simp only [RD] at h ⊢; exact h
  | .int b,v,h,_ => by simp only [RD] at h ⊢; exact h
  | .str b,v,h,_ => by simp only [RD] at h ⊢; exact h
  | .exc b,v,h,_ => by
    simp only [RD] at h ⊢
    obtain ⟨a,o,C,e,h1,h2,h3,h5⟩:=h
    exact ⟨a,o,C,e,h1,h2,h3,ts.f _ _ _ h5⟩
  | .fn b,v,h,_ => by simp only [RD] at h ⊢; exact h
  | .tup ds,v,h,hl => by
    simp only [RD,labs] at h hl ⊢
    obtain ⟨a,xs,e,s,r⟩:=h
    exact ⟨a,xs,e,ts.t _ _ s,RDs.stay ts ds xs r hl⟩
  | .ro ds,v,h,hl => by
    simp only [RD,labs] at h hl ⊢
    obtain ⟨a,xs,e,s,r⟩:=h
    exact ⟨a,xs,e,ts.ro s,RDs.stay ts ds xs r hl⟩
  | .fdc ks vs,v,h,hl => by
    simp only [RD,labs] at h hl ⊢
    obtain ⟨a,o,kvs,e,s,s2,r⟩:=h
    exact ⟨a,o,kvs,e,ts.f _ _ _ s,s2,RDs.stay ts vs _ r hl⟩
  | .lst l ds,v,h,hl => by
    simp only [RD,labs] at h hl ⊢
    obtain ⟨e,xs,s,r⟩:=h
    obtain ⟨e1,e2⟩:=hl l (List.mem_cons_self ..)
    rw [e1]
    exact ⟨e,xs,e2 _ s,RDs.stay ts ds xs r fun k hk => hl k (List.mem_cons_of_mem _ hk)⟩
  | .dct l ks vs,v,h,hl => by
    simp only [RD,labs] at h hl ⊢
    obtain ⟨e,s⟩:=h
    obtain ⟨e1,e2⟩:=hl l (List.mem_cons_self ..)
    rw [e1]
    refine ⟨e,?_⟩
    rcases s with ⟨kvs,s,s2,r⟩ | ⟨kvs,s,s2,r⟩
    · exact .inl ⟨kvs,e2 _ s,s2,RDs.stay ts vs _ r fun k hk => hl k (List.mem_cons_of_mem _ (List.mem_append_right _ hk))⟩
    · exact .inr ⟨kvs,e2 _ s,s2,RDs.stay ts vs _ r fun k hk => hl k (List.mem_cons_of_mem _ (List.mem_append_right _ hk))⟩
  | .obj l c ns vs,v,h,hl => by
    simp only [RD,labs] at h hl ⊢
    obtain ⟨e,C,dx,fs,hC,s,s2,r⟩:=h
    obtain ⟨e1,e2⟩:=hl l (List.mem_cons_self ..)
    rw [e1]
    exact ⟨e,C,dx,fs,hC,e2 _ s,s2,RDs.stay ts vs _ r fun k hk => hl k (List.mem_cons_of_mem _ hk)⟩
theorem RDs.stay (ts : Stays H H') : ∀ (t : List D) (v : List V),RDs G ρ H t v→(∀ l∈labsL t,ρ' l=ρ l∧∀ o,H (ρ l)=some o→H' (ρ l)=some o)→RDs G ρ' H' t v
  | [],v,h,_ => by simp only [RDs] at h ⊢; exact h
  | d :: ds,v,h,hl => by
    simp only [RDs,labsL] at h hl ⊢
    obtain ⟨x,r,e,h1,h2⟩:=h
    exact ⟨x,r,e,RD.stay ts d x h1 fun l hk => hl l (List.mem_append_left _ hk),RDs.stay ts ds r h2 fun l hk => hl l (List.mem_append_right _ hk)⟩
end
end
mutual
noncomputable def rp (f : Nat→Option D) : D→D
  | .tup ds => .tup (rpL f ds)
  | .ro ds => .ro (rpL f ds)
  | .fdc ks vs => .fdc ks (rpL f vs)
  | .lst l ds => match f l with | some d => d | none => .lst l (rpL f ds)
  | .dct l ks vs => match f l with | some d => d | none => .dct l ks (rpL f vs)
  | .obj l c ns vs => match f l with | some d => d | none => .obj l c ns (rpL f vs)
  | .non => .non | .bool b => .bool b | .int i => .int i | .str x => .str x | .exc x => .exc x | .fn x => .fn x
noncomputable def rpL (f : Nat→Option D) : List D→List D
  | [] => []
  | d :: ds => rp f d :: rpL f ds
end
noncomputable def rpO (f : Nat→Option D) : List (Option D)→List (Option D)
  | [] => []
  | none :: r => none :: rpO f r
  | some d :: r => some (rp f d) :: rpO f r
section
variable {f : Nat→Option D}
mutual
theorem rp_id : ∀ t : D,(∀ l∈labs t,f l=none)→rp f t=t
  | .non,_ => rfl
  | .bool b,_ => rfl
  | .int b,_ => rfl
  | .str b,_ => rfl
  | .exc b,_ => rfl
  | .fn b,_ => rfl
  | .tup ds,h => by simp only [rp,labs] at h ⊢; rw [rpL_id ds h]
  | .ro ds,h => by simp only [rp,labs] at h ⊢; rw [rpL_id ds h]
  | .fdc ks vs,h => by simp only [rp,labs] at h ⊢; rw [rpL_id vs h]
  | .lst l ds,h => by
    simp only [rp,labs] at h ⊢
    rw [h l (List.mem_cons_self ..),rpL_id ds fun k hk => h k (List.mem_cons_of_mem _ hk)]
  | .dct l ks vs,h => by
    simp only [rp,labs] at h ⊢
    rw [h l (List.mem_cons_self ..),rpL_id vs fun k hk => h k (List.mem_cons_of_mem _ (List.mem_append_right _ hk))]
  | .obj l c ns vs,h => by
    simp only [rp,labs] at h ⊢
    rw [h l (List.mem_cons_self ..),rpL_id vs fun k hk => h k (List.mem_cons_of_mem _ hk)]
theorem rpL_id : ∀ t : List D,(∀ l∈labsL t,f l=none)→rpL f t=t
  | [],_ => rfl
  | d :: ds,h => by
    simp only [rpL,labsL] at h ⊢
    rw [rp_id d fun l hk => h l (List.mem_append_left _ hk),rpL_id ds fun l hk => h l (List.mem_append_right _ hk)]
end
theorem rpO_id : ∀ t : List (Option D),(∀ l∈labsO t,f l=none)→rpO f t=t
  | [],_ => rfl
  | none :: r,h => by simp only [rpO,labsO] at h ⊢; rw [rpO_id r h]
  | some d :: r,h => by
    simp only [rpO,labsO] at h ⊢
    rw [rp_id d fun l hk => h l (List.mem_append_left _ hk),rpO_id r fun l hk => h l (List.mem_append_right _ hk)]
end
section
variable {G : Gx} {ρ ρ' : Nat→Addr} {H H' : Hp} {f : Nat→Option D}
mutual
theorem RD.rp (ts : Stays H H') : ∀ (t : D) (v : V),RD G ρ H t v→(∀ l∈labs t,ρ' l=ρ l∧(match f l with | some d => RD G ρ' H' d (.ref (ρ l)) | none => ∀ o,H (ρ l)=some o→H' (ρ l)=some o))→RD G ρ' H' (rp f t) v
  | .non,v,h,_ => by simp only [Mi.rp,RD] at h ⊢; exact h
  | .bool b,v,h,_ => by simp only [Mi.rp,RD] at h ⊢; exact h
  | .int b,v,h,_ => by simp only [Mi.rp,RD] at h ⊢; exact h
  | .str b,v,h,_ => by simp only [Mi.rp,RD] at h ⊢; exact h
  | .exc b,v,h,_ => by
    simp only [Mi.rp,RD] at h ⊢
    obtain ⟨a,o,C,e,h1,h2,h3,h5⟩:=h
    exact ⟨a,o,C,e,h1,h2,h3,ts.f _ _ _ h5⟩
  | .fn b,v,h,_ => by simp only [Mi.rp,RD] at h ⊢; exact h
  | .tup ds,v,h,hl => by
    simp only [Mi.rp,RD,labs] at h hl ⊢
    obtain ⟨a,xs,e,s,r⟩:=h
    exact ⟨a,xs,e,ts.t _ _ s,RDs.rp ts ds xs r hl⟩
  | .ro ds,v,h,hl => by
    simp only [Mi.rp,RD,labs] at h hl ⊢
    obtain ⟨a,xs,e,s,r⟩:=h
    exact ⟨a,xs,e,ts.ro s,RDs.rp ts ds xs r hl⟩
  | .fdc ks vs,v,h,hl => by
    simp only [Mi.rp,RD,labs] at h hl ⊢
    obtain ⟨a,o,kvs,e,s,s2,r⟩:=h
    exact ⟨a,o,kvs,e,ts.f _ _ _ s,s2,RDs.rp ts vs _ r hl⟩
  | .lst l ds,v,h,hl => by
    simp only [Mi.rp,RD,labs] at h hl ⊢
    obtain ⟨e,xs,s,r⟩:=h
    obtain ⟨e1,e2⟩:=hl l (List.mem_cons_self ..)
    cases ef : f l with
    | some d => rw [ef] at e2; subst e; exact e2
    | none =>
      rw [ef] at e2
      simp only [RD]
      rw [e1]
      exact ⟨e,xs,e2 _ s,RDs.rp ts ds xs r fun k hk => hl k (List.mem_cons_of_mem _ hk)⟩
  | .dct l ks vs,v,h,hl => by
    simp only [Mi.rp,RD,labs] at h hl ⊢
    obtain ⟨e,s⟩:=h
    obtain ⟨e1,e2⟩:=hl l (List.mem_cons_self ..)
    cases ef : f l with
    | some d => rw [ef] at e2; subst e; exact e2
    | none =>
      rw [ef] at e2
      simp only [RD]
      rw [e1]
      refine ⟨e,?_⟩
      rcases s with ⟨kvs,s,s2,r⟩ | ⟨kvs,s,s2,r⟩
      · exact .inl ⟨kvs,e2 _ s,s2,RDs.rp ts vs _ r fun k hk => hl k (List.mem_cons_of_mem _ (List.mem_append_right _ hk))⟩
      · exact .inr ⟨kvs,e2 _ s,s2,RDs.rp ts vs _ r fun k hk => hl k (List.mem_cons_of_mem _ (List.mem_append_right _ hk))⟩
  | .obj l c ns vs,v,h,hl => by
    simp only [Mi.rp,RD,labs] at h hl ⊢
    obtain ⟨e,C,dx,fs,hC,s,s2,r⟩:=h
    obtain ⟨e1,e2⟩:=hl l (List.mem_cons_self ..)
    cases ef : f l with
    | some d => rw [ef] at e2; subst e; exact e2
    | none =>
      rw [ef] at e2
      simp only [RD]
      rw [e1]
      exact ⟨e,C,dx,fs,hC,e2 _ s,s2,RDs.rp ts vs _ r fun k hk => hl k (List.mem_cons_of_mem _ hk)⟩
theorem RDs.rp (ts : Stays H H') : ∀ (t : List D) (v : List V),RDs G ρ H t v→(∀ l∈labsL t,ρ' l=ρ l∧(match f l with | some d => RD G ρ' H' d (.ref (ρ l)) | none => ∀ o,H (ρ l)=some o→H' (ρ l)=some o))→RDs G ρ' H' (rpL f t) v
  | [],v,h,_ => by simp only [rpL,RDs] at h ⊢; exact h
  | d :: ds,v,h,hl => by
    simp only [rpL,RDs,labsL] at h hl ⊢
    obtain ⟨x,r,e,h1,h2⟩:=h
    exact ⟨x,r,e,RD.rp ts d x h1 fun l hk => hl l (List.mem_append_left _ hk),RDs.rp ts ds r h2 fun l hk => hl l (List.mem_append_right _ hk)⟩
end
end
section
variable {f : Nat→Option D}
mutual
theorem labs_rp (l : Nat) : ∀ t : D,l∈labs (rp f t)→l∈labs t∨∃ k d,k∈labs t∧f k=some d∧l∈labs d
  | .non,h => by simp only [rp,labs] at h; cases h
  | .bool b,h => by simp only [rp,labs] at h; cases h
  | .int b,h => by simp only [rp,labs] at h; cases h
  | .str b,h => by simp only [rp,labs] at h; cases h
  | .exc b,h => by simp only [rp,labs] at h; cases h
  | .fn b,h => by simp only [rp,labs] at h; cases h
  | .tup ds,h => by
    simp only [rp,labs] at h ⊢
    exact labsL_rp l ds h
  | .ro ds,h => by
    simp only [rp,labs] at h ⊢
    exact labsL_rp l ds h
  | .fdc ks vs,h => by
    simp only [rp,labs] at h ⊢
    exact labsL_rp l vs h
  | .lst k ds,h => by
    simp only [rp] at h
    cases e : f k with
    | some d => rw [e] at h; exact .inr ⟨k,d,by simp only [labs]; exact List.mem_cons_self ..,e,h⟩
    | none =>
      rw [e] at h
      simp only [labs] at h ⊢
      rcases List.mem_cons.mp h with h | h
      · exact .inl (List.mem_cons.mpr (.inl h))
      · rcases labsL_rp l ds h with q | ⟨k',d,q1,q2,q3⟩
        · exact .inl (List.mem_cons_of_mem _ q)
        · exact .inr ⟨k',d,List.mem_cons_of_mem _ q1,q2,q3⟩
  | .dct k ks vs,h => by
    simp only [rp] at h
    cases e : f k with
    | some d => rw [e] at h; exact .inr ⟨k,d,by simp only [labs]; exact List.mem_cons_self ..,e,h⟩
    | none =>
      rw [e] at h
      simp only [labs] at h ⊢
      rcases List.mem_cons.mp h with h | h
      · exact .inl (List.mem_cons.mpr (.inl h))
      · rcases List.mem_append.mp h with h | h
        · exact .inl (List.mem_cons_of_mem _ (List.mem_append_left _ h))
        · rcases labsL_rp l vs h with q | ⟨k',d,q1,q2,q3⟩
          · exact .inl (List.mem_cons_of_mem _ (List.mem_append_right _ q))
          · exact .inr ⟨k',d,List.mem_cons_of_mem _ (List.mem_append_right _ q1),q2,q3⟩
  | .obj k c ns vs,h => by
    simp only [rp] at h
    cases e : f k with
    | some d => rw [e] at h; exact .inr ⟨k,d,by simp only [labs]; exact List.mem_cons_self ..,e,h⟩
    | none =>
      rw [e] at h
      simp only [labs] at h ⊢
      rcases List.mem_cons.mp h with h | h
      · exact .inl (List.mem_cons.mpr (.inl h))
      · rcases labsL_rp l vs h with q | ⟨k',d,q1,q2,q3⟩
        · exact .inl (List.mem_cons_of_mem _ q)
        · exact .inr ⟨k',d,List.mem_cons_of_mem _ q1,q2,q3⟩
theorem labsL_rp (l : Nat) : ∀ t : List D,l∈labsL (rpL f t)→l∈labsL t∨∃ k d,k∈labsL t∧f k=some d∧l∈labs d
  | [],h => by simp only [rpL,labsL] at h; cases h
  | d :: ds,h => by
    simp only [rpL,labsL] at h ⊢
    rcases List.mem_append.mp h with h | h
    · rcases labs_rp l d h with q | ⟨k',d,q1,q2,q3⟩
      · exact .inl (List.mem_append_left _ q)
      · exact .inr ⟨k',d,List.mem_append_left _ q1,q2,q3⟩
    · rcases labsL_rp l ds h with q | ⟨k',d,q1,q2,q3⟩
      · exact .inl (List.mem_append_right _ q)
      · exact .inr ⟨k',d,List.mem_append_right _ q1,q2,q3⟩
end
theorem labsO_rp (l : Nat) : ∀ t : List (Option D),l∈labsO (rpO f t)→l∈labsO t∨∃ k d,k∈labsO t∧f k=some d∧l∈labs d
  | [],h => by simp only [rpO,labsO] at h; cases h
  | none :: r,h => by simp only [rpO,labsO] at h ⊢; exact labsO_rp l r h
  | some d :: ds,h => by
    simp only [rpO,labsO] at h ⊢
    rcases List.mem_append.mp h with h | h
    · rcases labs_rp l d h with q | ⟨k',d,q1,q2,q3⟩
      · exact .inl (List.mem_append_left _ q)
      · exact .inr ⟨k',d,List.mem_append_left _ q1,q2,q3⟩
    · rcases labsO_rp l ds h with q | ⟨k',d,q1,q2,q3⟩
      · exact .inl (List.mem_append_right _ q)
      · exact .inr ⟨k',d,List.mem_append_right _ q1,q2,q3⟩
end
end Mi
namespace Mi
open PySem L2
structure Stt where
  σ : List (Option D)
  tm : List (Option D)
  n : Nat
structure Fx where
  A0 : Addr→Prop
  H0 : Hp
  Z : Addr→Prop
  zA : ∀ a,Z a→(∃ o,H0 a=some o)∧¬ A0 a
  aH : ∀ a,A0 a→∃ o,H0 a=some o
  n0 : Nat
  ρ0 : Nat→Addr
noncomputable def KD (K : PySem.W.Frag) (H : Hp) : Prop:=∀ a o,K.lookup a=some o→H a=none
section
variable (G : Gx) (ρ : Nat→Addr) (H : Hp)
noncomputable def Sl : List (Option D)→List (Option V)→Prop
  | [],vs => vs=[]
  | none :: r,vs => ∃ o q,vs=o :: q∧Sl r q
  | some d :: r,vs => ∃ v q,vs=some v :: q∧RD G ρ H d v∧Sl r q
end
noncomputable def labsS (s : Stt) : List Nat:=labsO s.σ++labsO s.tm
structure MR (G : Gx) (F : Fx) (ρ : Nat→Addr) (H : Hp) (σv tv : List (Option V)) (s : Stt) : Prop where
  sl : Sl G ρ H s.σ σv
  tm : Sl G ρ H s.tm tv
  inj : ∀ i j,i < s.n→j < s.n→ρ i=ρ j→i=j
  dom : ∀ l,l < s.n→∃ o,H (ρ l)=some o
  lab : ∀ l∈labsS s,l < s.n
  own : ∀ l∈labsS s,F.A0 (ρ l)∨F.H0 (ρ l)=none
  frm : ∀ a o,F.H0 a=some o→(∃ o',H a=some o')∧(¬ F.A0 a→H a=some o)
  kd : KD G.K H
  frb : ∀ l,l < s.n→¬ F.Z (ρ l)
  bas : F.n0≤s.n∧∀ l,l < F.n0→ρ l=F.ρ0 l
noncomputable def Stt.psh (s : Stt) (t : D) : Stt:={ s with tm:=some t :: s.tm }
noncomputable def Stt.nxt (s : Stt) : Stt:={ s with n:=s.n+1 }
section
variable {G : Gx} {F : Fx} {ρ ρ' : Nat→Addr} {H H' : Hp} {σv tv : List (Option V)} {s : Stt} {t : D} {v : V}
theorem Sl.stay (ts : Stays H H') : ∀ {σ : List (Option D)} {σv : List (Option V)},Sl G ρ H σ σv→(∀ l∈labsO σ,ρ' l=ρ l∧∀ o,H (ρ l)=some o→H' (ρ l)=some o)→Sl G ρ' H' σ σv
  | [],_,h,_ => h
  | none :: r,_,h,hl => by
    simp only [Sl,labsO] at h hl ⊢
    obtain ⟨o,q,e,h⟩:=h
    exact ⟨o,q,e,Sl.stay ts h hl⟩
  | some d :: r,_,h,hl => by
    simp only [Sl,labsO] at h hl ⊢
    obtain ⟨o,q,e,h1,h⟩:=h
    exact ⟨o,q,e,RD.stay ts d o h1 fun l hk => hl l (List.mem_append_left _ hk),Sl.stay ts h fun l hk => hl l (List.mem_append_right _ hk)⟩
theorem Sl.rp {f : Nat→Option D} (ts : Stays H H') : ∀ {σ : List (Option D)} {σv : List (Option V)},Sl G ρ H σ σv →
    (∀ l∈labsO σ,ρ' l=ρ l∧(match f l with | some d => RD G ρ' H' d (.ref (ρ l)) | none => ∀ o,H (ρ l)=some o→H' (ρ l)=some o))→Sl G ρ' H' (rpO f σ) σv
  | [],_,h,_ => h
  | none :: r,_,h,hl => by
    simp only [Sl,labsO,rpO] at h hl ⊢
    obtain ⟨o,q,e,h⟩:=h
    exact ⟨o,q,e,Sl.rp ts h hl⟩
  | some d :: r,_,h,hl => by
    simp only [Sl,labsO,rpO] at h hl ⊢
    obtain ⟨o,q,e,h1,h⟩:=h
    exact ⟨o,q,e,RD.rp ts d o h1 fun l hk => hl l (List.mem_append_left _ hk),Sl.rp ts h fun l hk => hl l (List.mem_append_right _ hk)⟩
theorem Sl.get : ∀ {σ : List (Option D)} {σv : List (Option V)},Sl G ρ H σ σv→∀ (i : Nat) (d : D),σ[i]?=some (some d)→∃ v,σv[i]?=some (some v)∧RD G ρ H d v
  | [],_,_,i,d,e => by simp at e
  | none :: r,_,h,i,d,e => by
    simp only [Sl] at h
    obtain ⟨o,q,rfl,h⟩:=h
    cases i with
    | zero => simp at e
    | succ i => simpa using Sl.get h i d (by simpa using e)
  | some d' :: r,_,h,i,d,e => by
    simp only [Sl] at h
    obtain ⟨v,q,rfl,h1,h⟩:=h
    cases i with
    | zero => simp at e; subst e; exact ⟨v,rfl,h1⟩
    | succ i => simpa using Sl.get h i d (by simpa using e)
theorem Sl.length : ∀ {σ : List (Option D)} {σv : List (Option V)},Sl G ρ H σ σv→σ.length=σv.length
  | [],_,h => by simp only [Sl] at h; subst h; rfl
  | none :: r,_,h => by
    simp only [Sl] at h
    obtain ⟨o,q,rfl,h⟩:=h
    simp [Sl.length h]
  | some d' :: r,_,h => by
    simp only [Sl] at h
    obtain ⟨v,q,rfl,h1,h⟩:=h
    simp [Sl.length h]
theorem Sl.set : ∀ {σ : List (Option D)} {σv : List (Option V)} (i : Nat),Sl G ρ H σ σv→RD G ρ H t v→Sl G ρ H (σ.set i (some t)) (σv.set i (some v))
  | [],_,i,h,_ => by simp only [Sl] at h; subst h; simp [Sl]
  | none :: r,_,i,h,ht => by
    simp only [Sl] at h
    obtain ⟨o,q,rfl,h⟩:=h
    cases i with
    | zero => simp only [List.set_cons_zero,Sl]; exact ⟨_,_,rfl,ht,h⟩
    | succ i => simp only [List.set_cons_succ,Sl]; exact ⟨_,_,rfl,Sl.set i h ht⟩
  | some d' :: r,_,i,h,ht => by
    simp only [Sl] at h
    obtain ⟨v',q,rfl,h1,h⟩:=h
    cases i with
    | zero => simp only [List.set_cons_zero,Sl]; exact ⟨_,_,rfl,ht,h⟩
    | succ i => simp only [List.set_cons_succ,Sl]; exact ⟨_,_,rfl,h1,Sl.set i h ht⟩
theorem Sl.append : ∀ {σ σ' : List (Option D)} {σv σv' : List (Option V)},Sl G ρ H σ σv→Sl G ρ H σ' σv'→Sl G ρ H (σ++σ') (σv++σv')
  | [],_,_,_,h,h' => by simp only [Sl] at h; subst h; exact h'
  | none :: r,_,_,_,h,h' => by
    simp only [Sl] at h
    obtain ⟨o,q,rfl,h⟩:=h
    simp only [List.cons_append,Sl]; exact ⟨_,_,rfl,Sl.append h h'⟩
  | some d' :: r,_,_,_,h,h' => by
    simp only [Sl] at h
    obtain ⟨v,q,rfl,h1,h⟩:=h
    simp only [List.cons_append,Sl]; exact ⟨_,_,rfl,h1,Sl.append h h'⟩
theorem Sl.split : ∀ (σv : List (Option V)) {σ : List (Option D)} {tv : List (Option V)},Sl G ρ H σ (σv++tv)→Sl G ρ H (σ.take σv.length) σv∧Sl G ρ H (σ.drop σv.length) tv
  | [],σ,tv,h => ⟨by simp [Sl],by simpa using h⟩
  | o :: σv,[],tv,h => by simp [Sl] at h
  | o :: σv,none :: r,tv,h => by
    simp only [List.cons_append,Sl] at h
    obtain ⟨o',q,e,h⟩:=h
    cases e
    obtain ⟨h1,h2⟩:=Sl.split σv h
    simp only [List.length_cons,List.take_succ_cons,List.drop_succ_cons,Sl]
    exact ⟨⟨_,_,rfl,h1⟩,h2⟩
  | o :: σv,some d :: r,tv,h => by
    simp only [List.cons_append,Sl] at h
    obtain ⟨o',q,e,h0,h⟩:=h
    cases e
    obtain ⟨h1,h2⟩:=Sl.split σv h
    simp only [List.length_cons,List.take_succ_cons,List.drop_succ_cons,Sl]
    exact ⟨⟨_,_,rfl,h0,h1⟩,h2⟩
theorem labsO_get : ∀ {σ : List (Option D)} {i : Nat} {d : D},σ[i]?=some (some d)→∀ l∈labs d,l∈labsO σ
  | [],i,d,e,l,h => by simp at e
  | none :: r,i,d,e,l,h => by
    simp only [labsO]
    cases i with
    | zero => simp at e
    | succ i => exact labsO_get (i:=i) (by simpa using e) l h
  | some d' :: r,i,d,e,l,h => by
    simp only [labsO]
    cases i with
    | zero => simp at e; subst e; exact List.mem_append_left _ h
    | succ i => exact List.mem_append_right _ (labsO_get (i:=i) (by simpa using e) l h)
theorem labsO_set : ∀ {σ : List (Option D)} {i : Nat} {d : D} (l : Nat),l∈labsO (σ.set i (some d))→l∈labsO σ∨l∈labs d
  | [],i,d,l,h => by simp [labsO] at h
  | none :: r,i,d,l,h => by
    cases i with
    | zero =>
      simp only [List.set_cons_zero,labsO] at h ⊢
      rcases List.mem_append.mp h with h | h
      · exact .inr h
      · exact .inl h
    | succ i =>
      simp only [List.set_cons_succ,labsO] at h ⊢
      exact labsO_set l h
  | some d' :: r,i,d,l,h => by
    cases i with
    | zero =>
      simp only [List.set_cons_zero,labsO] at h ⊢
      rcases List.mem_append.mp h with h | h
      · exact .inr h
      · exact .inl (List.mem_append_right _ h)
    | succ i =>
      simp only [List.set_cons_succ,labsO] at h ⊢
      rcases List.mem_append.mp h with h | h
      · exact .inl (List.mem_append_left _ h)
      · rcases labsO_set l h with q | q
        · exact .inl (List.mem_append_right _ q)
        · exact .inr q
theorem labsO_append : ∀ (σ σ' : List (Option D)),labsO (σ++σ')=labsO σ++labsO σ'
  | [],_ => rfl
  | none :: r,σ' => by simp only [List.cons_append,labsO,labsO_append r σ']
  | some d :: r,σ' => by simp only [List.cons_append,labsO,labsO_append r σ',List.append_assoc]
theorem labsL_append : ∀ (σ σ' : List D),labsL (σ++σ')=labsL σ++labsL σ'
  | [],_ => rfl
  | d :: r,σ' => by simp only [List.cons_append,labsL,labsL_append r σ',List.append_assoc]
theorem labsL_mem : ∀ {ds : List D} {d : D},d∈ds→∀ l∈labs d,l∈labsL ds
  | _ :: ds,d,h,l,hl => by
    simp only [labsL]
    rcases List.mem_cons.mp h with rfl | h
    · exact List.mem_append_left _ hl
    · exact List.mem_append_right _ (labsL_mem h l hl)
theorem of_labsL : ∀ {ds : List D} {l : Nat},l∈labsL ds→∃ d∈ds,l∈labs d
  | d :: ds,l,h => by
    simp only [labsL] at h
    rcases List.mem_append.mp h with h | h
    · exact ⟨d,List.mem_cons_self ..,h⟩
    · obtain ⟨x,h1,h2⟩:=of_labsL h
      exact ⟨x,List.mem_cons_of_mem _ h1,h2⟩
theorem RDs.get : ∀ {ds : List D} {xs : List V},RDs G ρ H ds xs→∀ (i : Nat) (d : D),ds[i]?=some d→∃ x,xs[i]?=some x∧RD G ρ H d x
  | [],_,_,i,d,e => by simp at e
  | d' :: r,_,h,i,d,e => by
    simp only [RDs] at h
    obtain ⟨x,q,rfl,h1,h2⟩:=h
    cases i with
    | zero => simp at e; subst e; exact ⟨x,rfl,h1⟩
    | succ i => simpa using RDs.get h2 i d (by simpa using e)
theorem RDs.length : ∀ {ds : List D} {xs : List V},RDs G ρ H ds xs→ds.length=xs.length
  | [],_,h => by simp only [RDs] at h; subst h; rfl
  | d' :: r,_,h => by
    simp only [RDs] at h
    obtain ⟨x,q,rfl,h1,h2⟩:=h
    simp [RDs.length h2]
theorem RDs.append : ∀ {ds es : List D} {xs ys : List V},RDs G ρ H ds xs→RDs G ρ H es ys→RDs G ρ H (ds++es) (xs++ys)
  | [],_,_,_,h,h' => by simp only [RDs] at h; subst h; exact h'
  | d' :: r,_,_,_,h,h' => by
    simp only [RDs] at h
    obtain ⟨x,q,rfl,h1,h2⟩:=h
    simp only [List.cons_append,RDs]
    exact ⟨_,_,rfl,h1,RDs.append h2 h'⟩
theorem RDs.one {d : D} {x : V} (h : RD G ρ H d x) : RDs G ρ H [d] [x]:=by simp only [RDs]; exact ⟨_,_,rfl,h,rfl⟩
theorem RDs.take : ∀ {ds : List D} {xs : List V} (k : Nat),RDs G ρ H ds xs→RDs G ρ H (ds.take k) (xs.take k)
  | _,_,0,_ => by simp [RDs]
  | [],_,k+1,h => by simp only [RDs] at h; subst h; simp [RDs]
  | d' :: r,_,k+1,h => by
    simp only [RDs] at h
    obtain ⟨x,q,rfl,h1,h2⟩:=h
    simp only [List.take_succ_cons,RDs]
    exact ⟨_,_,rfl,h1,RDs.take k h2⟩
theorem RDs.drop : ∀ {ds : List D} {xs : List V} (k : Nat),RDs G ρ H ds xs→RDs G ρ H (ds.drop k) (xs.drop k)
  | _,_,0,h => h
  | [],_,k+1,h => by simp only [RDs] at h; subst h; simp [RDs]
  | d' :: r,_,k+1,h => by
    simp only [RDs] at h
    obtain ⟨x,q,rfl,h1,h2⟩:=h
    simp only [List.drop_succ_cons]
    exact RDs.drop k h2
theorem RDs.set : ∀ {ds : List D} {xs : List V} (k : Nat),RDs G ρ H ds xs→RD G ρ H t v→RDs G ρ H (ds.set k t) (xs.set k v)
  | [],_,k,h,_ => by simp only [RDs] at h; subst h; simp [RDs]
  | d' :: r,_,0,h,ht => by
    simp only [RDs] at h
    obtain ⟨x,q,rfl,h1,h2⟩:=h
    simp only [List.set_cons_zero,RDs]; exact ⟨_,_,rfl,ht,h2⟩
  | d' :: r,_,k+1,h,ht => by
    simp only [RDs] at h
    obtain ⟨x,q,rfl,h1,h2⟩:=h
    simp only [List.set_cons_succ,RDs]; exact ⟨_,_,rfl,h1,RDs.set k h2 ht⟩
theorem MR.pop {o : Option V} {r : Option D} (M : MR G F ρ H σv (o :: tv) { s with tm:=r :: s.tm }) : MR G F ρ H σv tv s where
  sl:=M.sl
  tm:=by
    have h:=M.tm
    cases r with
    | none => simp only [Sl] at h; obtain ⟨_,_,e,h⟩:=h; cases e; exact h
    | some t => simp only [Sl] at h; obtain ⟨_,_,e,_,h⟩:=h; cases e; exact h
  inj:=M.inj
  dom:=M.dom
  lab:=fun l h => M.lab l (by
    rcases List.mem_append.mp h with h | h
    · exact List.mem_append_left _ h
    · refine List.mem_append_right _ ?_
      cases r with
      | none => exact h
      | some t => exact List.mem_append_right _ h)
  own:=fun l h => M.own l (by
    rcases List.mem_append.mp h with h | h
    · exact List.mem_append_left _ h
    · refine List.mem_append_right _ ?_
      cases r with
      | none => exact h
      | some t => exact List.mem_append_right _ h)
  frm:=M.frm
  kd:=M.kd
  frb:=M.frb
  bas:=M.bas
theorem MR.top (M : MR G F ρ H σv (some v :: tv) (s.psh t)) : RD G ρ H t v:=by
  have h:=M.tm
  have h : Sl G ρ H (some t :: s.tm) (some v :: tv):=h
  simp only [Sl] at h
  obtain ⟨_,_,e,h,_⟩:=h
  cases e
  exact h
theorem MR.topl (M : MR G F ρ H σv tv (s.psh t)) : ∀ l∈labs t,l < s.n∧(F.A0 (ρ l)∨F.H0 (ρ l)=none):=fun l h =>
  have m : l∈labsS (s.psh t):=List.mem_append_right _ (List.mem_append_left _ h)
  ⟨M.lab l m,M.own l m⟩
theorem MR.same (M : MR G F ρ H σv tv s) (h : Same H H') (k : KD G.K H') : MR G F ρ H' σv tv s where
  sl:=Sl.stay (Stays.of h) M.sl fun l _ => ⟨rfl,fun o e => h _ _ e⟩
  tm:=Sl.stay (Stays.of h) M.tm fun l _ => ⟨rfl,fun o e => h _ _ e⟩
  inj:=M.inj
  dom:=fun l hl => let ⟨o,e⟩:=M.dom l hl; ⟨o,h _ _ e⟩
  lab:=M.lab
  own:=M.own
  frm:=fun a o e => let ⟨⟨o',e1⟩,e2⟩:=M.frm a o e; ⟨⟨o',h _ _ e1⟩,fun n => h _ _ (e2 n)⟩
  kd:=k
  frb:=M.frb
  bas:=M.bas
theorem RDs.same {ts : List D} {vs : List V} (h : Same H H') (r : RDs G ρ H ts vs) : RDs G ρ H' ts vs:=RDs.stay (Stays.of h) ts vs r fun l _ => ⟨rfl,fun o e => h _ _ e⟩
noncomputable def ext (ρ : Nat→Addr) (n : Nat) (p : Addr) : Nat→Addr:=fun l => if l=n then p else ρ l
theorem ext_old {n l : Nat} {p : Addr} (h : l < n) : ext ρ n p l=ρ l:=by unfold ext; rw [if_neg (by omega)]
theorem ext_new {n : Nat} {p : Addr} : ext ρ n p n=p:=by unfold ext; rw [if_pos rfl]
theorem MR.new {p : Addr} {o : HO} (M : MR G F ρ H σv tv s) (hp : H p=none) (k : KD G.K (upd H p o)) : MR G F (ext ρ s.n p) (upd H p o) σv tv s.nxt where
  sl:=Sl.stay (Stays.of (Same.new o hp)) M.sl fun l hl => ⟨ext_old (M.lab l (List.mem_append_left _ hl)),fun o e => Same.new _ hp _ _ e⟩
  tm:=Sl.stay (Stays.of (Same.new o hp)) M.tm fun l hl => ⟨ext_old (M.lab l (List.mem_append_right _ hl)),fun o e => Same.new _ hp _ _ e⟩
  inj:=fun i j hi hj e => by
    have hi : i < s.n+1:=hi
    have hj : j < s.n+1:=hj
    have nn : ∀ i,i < s.n→ρ i≠p:=fun i h e => by
      obtain ⟨o,q⟩:=M.dom i h
      rw [e,hp] at q; cases q
    by_cases h1 : i=s.n
    · by_cases h2 : j=s.n
      · omega
      · rw [h1,ext_new,ext_old (by omega)] at e
        exact absurd e.symm (nn j (by omega))
    · by_cases h2 : j=s.n
      · rw [h2,ext_new,ext_old (by omega)] at e
        exact absurd e (nn i (by omega))
      · rw [ext_old (by omega),ext_old (by omega)] at e
        exact M.inj i j (by omega) (by omega) e
  dom:=fun l hl => by
    have hl : l < s.n+1:=hl
    by_cases h1 : l=s.n
    · subst h1; rw [ext_new]; exact ⟨o,upd_same⟩
    · rw [ext_old (by omega)]
      obtain ⟨o',e⟩:=M.dom l (by omega)
      exact ⟨o',Same.new _ hp _ _ e⟩
  lab:=fun l h => Nat.lt_succ_of_lt (M.lab l h)
  own:=fun l h => by rw [ext_old (M.lab l h)]; exact M.own l h
  frm:=fun a o e => let ⟨⟨o',e1⟩,e2⟩:=M.frm a o e; ⟨⟨o',Same.new _ hp _ _ e1⟩,fun n => Same.new _ hp _ _ (e2 n)⟩
  kd:=k
  frb:=fun l hl => by
    have hl : l < s.n+1:=hl
    by_cases h1 : l=s.n
    · subst h1; rw [ext_new]
      intro z
      obtain ⟨⟨o,e⟩,_⟩:=F.zA p z
      obtain ⟨⟨o',e'⟩,_⟩:=M.frm p o e
      rw [hp] at e'; cases e'
    · rw [ext_old (by omega)]
      exact M.frb l (by omega)
  bas:=⟨Nat.le_succ_of_le M.bas.1,fun l hl => by rw [ext_old (Nat.lt_of_lt_of_le hl M.bas.1)]; exact M.bas.2 l hl⟩
theorem MR.fresh0 {p : Addr} (M : MR G F ρ H σv tv s) (hp : H p=none) : F.H0 p=none:=by
  cases q : F.H0 p with
  | none => rfl
  | some o =>
    obtain ⟨⟨o',e⟩,_⟩:=M.frm p o q
    rw [hp] at e; cases e
noncomputable def Stt.put (s : Stt) (l : Nat) (d : D) : Stt:={ s with σ:=rpO (fun k => if k=l then some d else none) s.σ,tm:=rpO (fun k => if k=l then some d else none) s.tm }
end
end Mi
namespace Mi
open PySem L2
inductive Res (α : Type) where
  | ok (a : α) (s : Stt) | ex (d : D) (s : Stt) | no
noncomputable abbrev M (α : Type):=Stt→Res α
noncomputable def bd {α β : Type} (m : M α) (f : α→M β) : M β:=fun s => match m s with
  | .ok a s' => f a s'
  | .ex d s' => .ex d s'
  | .no => .no
noncomputable def rt {α : Type} (a : α) : M α:=fun s => .ok a s
noncomputable def fl {α : Type} : M α:=fun _ => .no
noncomputable def psh (t : D) : M Unit:=fun s => .ok () (s.psh t)
noncomputable def pop : M D:=fun s => match s.tm with
  | some t :: r => .ok t { s with tm:=r }
  | _ => .no
structure Fy extends Fx where
  tv0 : List (Option V)
  xw : D→Stt→Prop
structure MRL (G : Gx) (F : Fx) (ρ : Nat→Addr) (H : Hp) (σv tv : List (Option V)) (s : Stt) (ts : List D) (vs : List V) : Prop where
  m : MR G F ρ H σv tv s
  rd : RDs G ρ H ts vs
  lb : ∀ l∈labsL ts,l < s.n∧(F.A0 (ρ l)∨F.H0 (ρ l)=none)
section
variable {G : Gx} {F : Fy} {ρ ρ' : Nat→Addr} {H H' : Hp} {σv tv : List (Option V)} {s : Stt} {t t' : D} {v u : V} {ts : List D} {vs : List V} {Q : VK}
theorem MRL.rd1 (M : MRL G F.toFx ρ H σv tv s [t] [v]) : RD G ρ H t v:=by
  have h:=M.rd
  simp only [RDs] at h
  obtain ⟨_,_,e,h,_⟩:=h
  cases e; exact h
theorem MRL.rd2 (M : MRL G F.toFx ρ H σv tv s [t,t'] [v,u]) : RD G ρ H t v∧RD G ρ H t' u:=by
  have h:=M.rd
  simp only [RDs] at h
  obtain ⟨_,_,e,h,_,_,e',h',_⟩:=h
  cases e; cases e'; exact ⟨h,h'⟩
theorem MRL.push (M : MRL G F.toFx ρ H σv tv s [t] [v]) : MR G F.toFx ρ H σv (some v :: tv) (s.psh t):=by
  have hl : ∀ l∈labs t,l < s.n∧(F.A0 (ρ l)∨F.H0 (ρ l)=none):=fun l h => M.lb l (by simp only [labsL,List.append_nil]; exact h)
  refine ⟨M.m.sl,?_,M.m.inj,M.m.dom,fun l h => ?_,fun l h => ?_,M.m.frm,M.m.kd,M.m.frb,M.m.bas⟩
  · show Sl G ρ H (some t :: s.tm) _
    simp only [Sl]
    exact ⟨v,tv,rfl,M.rd1,M.m.tm⟩
  · have h : l∈labsO s.σ++(labs t++labsO s.tm):=h
    rcases List.mem_append.mp h with h | h
    · exact M.m.lab l (List.mem_append_left _ h)
    · rcases List.mem_append.mp h with h | h
      · exact (hl l h).1
      · exact M.m.lab l (List.mem_append_right _ h)
  · have h : l∈labsO s.σ++(labs t++labsO s.tm):=h
    rcases List.mem_append.mp h with h | h
    · exact M.m.own l (List.mem_append_left _ h)
    · rcases List.mem_append.mp h with h | h
      · exact (hl l h).2
      · exact M.m.own l (List.mem_append_right _ h)
theorem MRL.down {s' : Stt} {r : List (Option D)} (M : MRL G F.toFx ρ H σv (some v :: tv) s' ts vs) (e : s'.tm=some t :: r) : MRL G F.toFx ρ H σv tv { s' with tm:=r } (t :: ts) (v :: vs):=by
  obtain ⟨σ,tm,n⟩:=s'
  have e : tm=some t :: r:=e
  subst e
  refine ⟨MR.pop (s:=⟨σ,r,n⟩) M.m,?_,fun l h => ?_⟩
  · simp only [RDs]
    exact ⟨v,vs,rfl,MR.top (s:=⟨σ,r,n⟩) M.m,M.rd⟩
  · simp only [labsL] at h
    rcases List.mem_append.mp h with h | h
    · exact MR.topl (s:=⟨σ,r,n⟩) M.m l h
    · exact M.lb l h
noncomputable def wM (G : Gx) (F : Fy) (σv tv : List (Option V)) (r : Res D) (Q : VK) : Prop:=match r with
  | .ok t s' => ∀ ρ' v H',MRL G F.toFx ρ' H' σv tv s' [t] [v]→Q v H'
  | .ex d s' => F.xw d s'
  | .no => False
noncomputable def wL (G : Gx) (F : Fy) (σv tv : List (Option V)) (r : Res (List D)) (Q : List V→Hp→Prop) : Prop:=match r with
  | .ok ts s' => ∀ ρ' vs H',MRL G F.toFx ρ' H' σv tv s' ts vs→Q vs H'
  | .ex d s' => F.xw d s'
  | .no => False
noncomputable def wB (G : Gx) (F : Fy) (σv tv : List (Option V)) (r : Res Bool) (Q : Bool→Hp→Prop) : Prop:=match r with
  | .ok b s' => ∀ ρ' H',MR G F.toFx ρ' H' σv tv s'→Q b H'
  | .ex d s' => F.xw d s'
  | .no => False
noncomputable def tMv (G : Gx) (F : Fy) (m : M D) (σv tv : List (Option V)) (H : Hp) (Q : VK) : Prop:=F.tv0 <:+ tv∧∃ ρ s,MR G F.toFx ρ H σv tv s∧wM G F σv tv (m s) Q
noncomputable def tLv (G : Gx) (F : Fy) (m : M (List D)) (σv tv : List (Option V)) (H : Hp) (Q : List V→Hp→Prop) : Prop:=F.tv0 <:+ tv∧∃ ρ s,MR G F.toFx ρ H σv tv s∧wL G F σv tv (m s) Q
noncomputable def tBv (G : Gx) (F : Fy) (m : M Bool) (σv tv : List (Option V)) (H : Hp) (Q : Bool→Hp→Prop) : Prop:=F.tv0 <:+ tv∧∃ ρ s,MR G F.toFx ρ H σv tv s∧wB G F σv tv (m s) Q
noncomputable def tM (G : Gx) (F : Fy) (m : M D) : TE:=fun σv H Q => ∃ tv,tMv G F m σv tv H Q
noncomputable def tML (G : Gx) (F : Fy) (m : M (List D)) : TA:=fun σv H Q => ∃ tv,tLv G F m σv tv H Q
noncomputable def tMB (G : Gx) (F : Fy) (m : M Bool) : TT:=fun σv H Q => ∃ tv,tBv G F m σv tv H Q
noncomputable def SE (X : Cx) (G : Gx) (F : Fy) (e : Expr) (m : M D) : Prop:=PE X e (tM G F m)
noncomputable def SA (X : Cx) (G : Gx) (F : Fy) (es : List Expr) (m : M (List D)) : Prop:=PA X es (tML G F m)
noncomputable def SB (X : Cx) (G : Gx) (F : Fy) (e : Expr) (m : M Bool) : Prop:=PT X e (tMB G F m)
theorem suf1 {o : Option V} (h : F.tv0 <:+ tv) : F.tv0 <:+ o :: tv:=h.trans (List.suffix_cons _ _)
theorem tM_bd {m : M D} {f : D→M D} (h : tMv G F (bd m f) σv tv H Q) : tMv G F m σv tv H (fun v H1 => ∃ ρ1 s1 t,MRL G F.toFx ρ1 H1 σv tv s1 [t] [v]∧wM G F σv tv (f t s1) Q):=by
  obtain ⟨hs,ρ,s,M,W⟩:=h
  refine ⟨hs,ρ,s,M,?_⟩
  unfold bd at W
  cases e : m s with
  | ok t s1 => rw [e] at W; exact fun ρ1 v H1 M1 => ⟨ρ1,s1,t,M1,W⟩
  | ex d s1 => rw [e] at W; exact W
  | no => rw [e] at W; exact W
noncomputable def mBin (ma mb : M D) (g : D→D→M D) : M D:=bd ma fun x => bd (psh x) fun _ => bd mb fun y => bd pop fun x' => g x' y
theorem tM_bin {ma mb : M D} {g : D→D→M D} (h : tMv G F (mBin ma mb g) σv tv H Q) :
    tMv G F ma σv tv H (fun v H1 => tMv G F mb σv (some v :: tv) H1 (fun u H2 => ∃ ρ2 s2 t t',MRL G F.toFx ρ2 H2 σv tv s2 [t,t'] [v,u]∧wM G F σv tv (g t t' s2) Q)):=by
  have h':=tM_bd h
  obtain ⟨hs,ρ,s,M,W⟩:=h'
  refine ⟨hs,ρ,s,M,?_⟩
  cases e : ma s with
  | ok t s1 =>
    rw [e] at W
    intro ρ1 v H1 M1
    obtain ⟨ρ1,s1,t,M1,W⟩:=W ρ1 v H1 M1
    refine ⟨suf1 hs,ρ1,s1.psh t,M1.push,?_⟩
    simp only [bd,psh] at W
    cases e2 : mb (s1.psh t) with
    | ok y s2 =>
      rw [e2] at W
      intro ρ2 u H2 M2
      simp only [pop] at W
      cases e3 : s2.tm with
      | nil => rw [e3] at W; exact W.elim
      | cons o r =>
        cases o with
        | none => rw [e3] at W; exact W.elim
        | some t' =>
          rw [e3] at W
          exact ⟨ρ2,{ s2 with tm:=r },t',y,M2.down e3,W⟩
    | ex d s2 => rw [e2] at W; exact W
    | no => rw [e2] at W; exact W
  | ex d s1 => rw [e] at W; exact W
  | no => rw [e] at W; exact W
noncomputable def mArgs : List (M D)→M (List D)
  | [] => rt []
  | m :: ms => bd m fun x => bd (psh x) fun _ => bd (mArgs ms) fun ys => bd pop fun x' => rt (x' :: ys)
end
section
variable {X : Cx} {G : Gx} {F : Fy} {e a b c : Expr} {pos : Pos}
theorem Inv.kd {pins : List (Addr×Obj)} {σ : St} {H : Hp} {s : Shared} (I : Inv X pins σ H s) : KD X.K H:=fun a o e => (I.bs a o (I.ok.mod.kin a o e)).2
theorem PE.imp {t t' : TE} (hk : X.K=G.K) (h : PE X e t) (hi : ∀ σ H Q,t' σ H Q→t σ H (fun v H' => KD G.K H'→Q v H')) : PE X e t':=fun pins s σ H Q I q =>
  thn (h pins s σ H _ I (hi σ H Q q)) fun u s' ⟨v,H',I',r,k⟩ => ⟨v,H',I',r,k (hk ▸ Inv.kd I')⟩
theorem PT.imp {t t' : TT} (hk : X.K=G.K) (h : PT X e t) (hi : ∀ σ H Q,t' σ H Q→t σ H (fun v H' => KD G.K H'→Q v H')) : PT X e t':=fun pins s σ H Q I q =>
  thn (h pins s σ H _ I (hi σ H Q q)) fun u s' ⟨H',I',k⟩ => ⟨H',I',k (hk ▸ Inv.kd I')⟩
theorem PA.imp {es : List Expr} {t t' : TA} (hk : X.K=G.K) (h : PA X es t) (hi : ∀ σ H Q,t' σ H Q→t σ H (fun v H' => KD G.K H'→Q v H')) : PA X es t':=fun pos pins s σ H Q I q =>
  thn (h pos pins s σ H _ I (hi σ H Q q)) fun u s' ⟨v,H',I',r,k⟩ => ⟨v,H',I',r,k (hk ▸ Inv.kd I')⟩
noncomputable def OpOK (G : Gx) (F : Fy) (r : R2) (g : D→D→M D) : Prop:=∀ ρ s t t' v u H σv tv Q,MRL G F.toFx ρ H σv tv s [t,t'] [v,u]→wM G F σv tv (g t t' s) Q→r v u H (fun w H' => KD G.K H'→Q w H')
noncomputable def CmpOK (G : Gx) (F : Fy) (r : R2) (g : D→D→M D) : Prop:=∀ ρ s t t' v u H σv tv Q,MRL G F.toFx ρ H σv tv s [t,t'] [v,u]→wM G F σv tv (g t t' s) Q→r v u H Q
noncomputable def CallOK (G : Gx) (F : Fy) (r : List V→Hp→VK→Prop) (g : List D→M D) : Prop:=∀ ρ s ts vs H σv tv Q,MRL G F.toFx ρ H σv tv s ts vs→wM G F σv tv (g ts s) Q→r vs H (fun w H' => KD G.K H'→Q w H')
theorem se_op {op : Operator} {r : R2} {ma mb : M D} {g : D→D→M D} (hk : X.K=G.K) (ho : OpR X (binaryOp op) r) (hg : OpOK G F r g) (ha : SE X G F a ma) (hb : SE X G F b mb) : SE X G F (.BinOp a op b pos) (mBin ma mb g):=by
  refine PE.imp hk (pe_op ho ha hb) fun σ H Q ⟨tv,h⟩ => ⟨tv,?_⟩
  obtain ⟨hs,ρ,s,M,W⟩:=tM_bin h
  refine ⟨hs,ρ,s,M,?_⟩
  cases e : ma s with
  | ok t s1 =>
    rw [e] at W
    intro ρ1 v H1 M1
    refine ⟨some v :: tv,?_⟩
    obtain ⟨hs2,ρ2,s2,M2,W2⟩:=W ρ1 v H1 M1
    refine ⟨hs2,ρ2,s2,M2,?_⟩
    cases e2 : mb s2 with
    | ok t2 s3 =>
      rw [e2] at W2
      intro ρ3 u H3 M3
      obtain ⟨ρ4,s4,x,y,M4,W4⟩:=W2 ρ3 u H3 M3
      exact hg _ _ _ _ _ _ _ _ _ _ M4 W4
    | ex d s3 => rw [e2] at W2; exact W2
    | no => rw [e2] at W2; exact W2
  | ex d s1 => rw [e] at W; exact W
  | no => rw [e] at W; exact W
theorem wM.mono {σv tv : List (Option V)} {r : Res D} {Q Q' : VK} (h : wM G F σv tv r Q) (k : ∀ v H,Q v H→Q' v H) : wM G F σv tv r Q':=by
  cases r with
  | ok t s => exact fun ρ v H M => k _ _ (h ρ v H M)
  | ex d s => exact h
  | no => exact h
theorem tMv.mono {m : M D} {σv tv : List (Option V)} {H : Hp} {Q Q' : VK} (h : tMv G F m σv tv H Q) (k : ∀ v H,Q v H→Q' v H) : tMv G F m σv tv H Q':=by
  obtain ⟨hs,ρ,s,M,W⟩:=h
  exact ⟨hs,ρ,s,M,W.mono k⟩
theorem bin_imp {ma mb : M D} {g : D→D→M D} {R : V→V→Hp→VK→Prop} {σv : St} {H : Hp} {Q : VK} (hg : OpOK G F R g) (h : tM G F (mBin ma mb g) σv H Q) :
    tM G F ma σv H fun x H1 => tM G F mb σv H1 fun y H2 => R x y H2 fun w H' => KD G.K H'→Q w H':=by
  obtain ⟨tv,h⟩:=h
  exact ⟨tv,(tM_bin h).mono fun v H1 h1 => ⟨_,h1.mono fun u H2 ⟨ρ,s,t,t',M,W⟩ => hg _ _ _ _ _ _ _ _ _ _ M W⟩⟩
theorem bin_imp0 {ma mb : M D} {g : D→D→M D} {R : V→V→Hp→VK→Prop} {σv : St} {H : Hp} {Q : VK} (hg : CmpOK G F R g) (h : tM G F (mBin ma mb g) σv H Q) :
    tM G F ma σv H fun x H1 => tM G F mb σv H1 fun y H2 => R x y H2 Q:=by
  obtain ⟨tv,h⟩:=h
  exact ⟨tv,(tM_bin h).mono fun v H1 h1 => ⟨_,h1.mono fun u H2 ⟨ρ,s,t,t',M,W⟩ => hg _ _ _ _ _ _ _ _ _ _ M W⟩⟩
theorem PE.imp0 {t t' : TE} (h : PE X e t) (hi : ∀ σ H Q,t' σ H Q→t σ H Q) : PE X e t':=fun pins s σ H Q I q => h pins s σ H _ I (hi σ H Q q)
theorem PT.imp0 {t t' : TT} (h : PT X e t) (hi : ∀ σ H Q,t' σ H Q→t σ H Q) : PT X e t':=fun pins s σ H Q I q => h pins s σ H _ I (hi σ H Q q)
theorem se_cmpR {op : CmpOp} {r : R2} {ma mb : M D} {g : D→D→M D} (ho : OpR X (compareOp op) r) (hg : CmpOK G F r g) (ha : SE X G F a ma) (hb : SE X G F b mb) (hm : behindInMarks op b=false) : SE X G F (.Compare a [op] [b] pos) (mBin ma mb g) :=
  PE.imp0 (pe_cmpR ho ha hb hm) fun _ _ _ h => bin_imp0 hg h
theorem se_ix {r : R2} {ma mb : M D} {g : D→D→M D} (hk : X.K=G.K) (ho : IxR X r) (hg : OpOK G F r g) (ha : SE X G F a ma) (hb : SE X G F b mb) (hs : PlainIx b) : SE X G F (.Subscript a b pos) (mBin ma mb g) :=
  PE.imp hk (pe_ix ho ha hb hs) fun _ _ _ h => bin_imp hg h
theorem sa_nil (hk : X.K=G.K) : SA X G F [] (mArgs []):=by
  refine PA.imp hk pa_nil fun σ H Q ⟨tv,hs,ρ,s,M,W⟩ _ => W ρ [] H ⟨M,rfl,fun l h => by simp [labsL] at h⟩
noncomputable def nst : Expr→Bool
  | .Starred _ _ => false
  | _ => true
theorem star_cons {es : List Expr} {env : Env} (h : nst e=true) : starEach (e :: es) env=(false,eval e env) :: starEach es env:=by
  cases e <;> first | rfl | exact Bool.noConfusion h
theorem sa_cons {es : List Expr} {m : M D} {ms : List (M D)} (hk : X.K=G.K) (ha : SE X G F e m) (hr : SA X G F es (mArgs ms)) (hs : nst e=true:=by rfl) : SA X G F (e :: es) (mArgs (m :: ms)):=by
  refine PA.imp hk (pa_cons ha hr (star_cons hs)) fun σ H Q ⟨tv,hs,ρ,s,M,W⟩ => ⟨tv,hs,ρ,s,M,?_⟩
  unfold mArgs at W
  simp only [bd,psh] at W
  cases e : m s with
  | ok t s1 =>
    rw [e] at W
    intro ρ1 v H1 M1
    refine ⟨some v :: tv,suf1 hs,ρ1,s1.psh t,M1.push,?_⟩
    dsimp only at W
    cases e2 : mArgs ms (s1.psh t) with
    | ok ys s2 =>
      rw [e2] at W
      intro ρ2 us H2 M2 _
      simp only [pop,rt] at W
      cases e3 : s2.tm with
      | nil => rw [e3] at W; exact W.elim
      | cons o r =>
        cases o with
        | none => rw [e3] at W; exact W.elim
        | some t' =>
          rw [e3] at W
          exact W ρ2 (v :: us) H2 (M2.down e3)
    | ex d s2 => rw [e2] at W; exact W
    | no => rw [e2] at W; exact W
  | ex d s1 => rw [e] at W; exact W
  | no => rw [e] at W; exact W
noncomputable def mCB (ms : List (M D)) (g : List D→M D) : M D:=bd (mArgs ms) g
theorem call_imp {ma : M (List D)} {g : List D→M D} {R : List V→Hp→VK→Prop} {σv : St} {H : Hp} {Q : VK} (hg : CallOK G F R g) (h : tM G F (bd ma g) σv H Q) :
    tML G F ma σv H fun xs H1 => R xs H1 fun w H' => KD G.K H'→Q w H':=by
  obtain ⟨tv,hs,ρ,s,M,W⟩:=h
  refine ⟨tv,hs,ρ,s,M,?_⟩
  unfold bd at W
  cases e : ma s with
  | ok ts s1 => rw [e] at W; exact fun ρ1 vs H1 M1 => hg _ _ _ _ _ _ _ _ M1 W
  | ex d s1 => rw [e] at W; exact W
  | no => rw [e] at W; exact W
theorem se_callB {x : Str} {p : Pos} {es : List Expr} {ms : List (M D)} {g : List D → M D} {id : String} {r : List V → Hp → VK → Prop} (hk : X.K = G.K) (hc : CallR X (.builtin id) r) (hg : CallOK G F r g) (hgl : Gl X x) (hm : X.mg x = none) (hv : bootBuiltins x = some (.builtin id)) (ha : SA X G F (e :: es) (mArgs ms)) (hn : x ≠ "__name__" := by decide) (hdb : (x == ("__debug__" : Str)) = false := by decide)
    (he : starEach (e :: es) X.env=(false,eval e X.env) :: starEach es X.env:=by rfl) (hpl : (backTo pos (starEach es X.env)).any (·.1)=false:=by rfl) : SE X G F (.Call (.Name x p) (e :: es) [] pos) (mCB ms g) :=
  PE.imp hk (pe_callB hc hgl hm hv ha hn hdb he hpl) fun _ _ _ h => call_imp hg h
theorem se_callTy {x : Str} {p : Pos} {es : List Expr} {ms : List (M D)} {g : List D → M D} {T : String} {r : List V → Hp → VK → Prop} (hk : X.K = G.K) (hc : CallR X (.type T) r) (hg : CallOK G F r g) (hgl : Gl X x) (hm : X.mg x = none) (hv : bootBuiltins x = some (.type T)) (ha : SA X G F (e :: es) (mArgs ms)) (hn : x ≠ "__name__" := by decide) (hdb : (x == ("__debug__" : Str)) = false := by decide)
    (he : starEach (e :: es) X.env=(false,eval e X.env) :: starEach es X.env:=by rfl) (hpl : (backTo pos (starEach es X.env)).any (·.1)=false:=by rfl) : SE X G F (.Call (.Name x p) (e :: es) [] pos) (mCB ms g) :=
  PE.imp hk (pe_callTy hc hgl hm hv ha hn hdb he hpl) fun _ _ _ h => call_imp hg h
noncomputable def mVar (i : Nat) : M D:=fun s => match s.σ[i]? with
  | some (some t) => .ok t s
  | _ => .no
theorem se_var (i : Nat) {x : Str} (hk : X.K=G.K) (h : PE X (.Name x pos) (tVar i)) : SE X G F (.Name x pos) (mVar i):=by
  refine PE.imp hk h fun σ H Q ⟨tv,hs,ρ,s,M,W⟩ => ?_
  unfold mVar at W
  cases e : s.σ[i]? with
  | none => rw [e] at W; exact W.elim
  | some o =>
    cases o with
    | none => rw [e] at W; exact W.elim
    | some t =>
      rw [e] at W
      obtain ⟨v,h1,h2⟩:=M.sl.get i t e
      refine ⟨v,h1,fun _ => W ρ v H ⟨M,RDs.one h2,fun l hl => ?_⟩⟩
      simp only [labsL,List.append_nil] at hl
      have:=labsO_get e l hl
      exact ⟨M.lab l (List.mem_append_left _ this),M.own l (List.mem_append_left _ this)⟩
noncomputable def cV : D→Option V
  | .non => some .non | .bool b => some (.bl b) | .int i => some (.int i) | .str x => some (.str x) | _ => none
theorem cV_rd {d : D} {v : V} {ρ : Nat→Addr} {H : Hp} (h : cV d=some v) : RD G ρ H d v∧labs d=[]:=by
  cases d <;> simp only [cV,Option.some.injEq] at h <;> first | (subst h; exact ⟨by simp only [RD],by simp only [labs]⟩) | cases h
noncomputable def mC (d : D) : M D:=rt d
theorem se_c {d : D} {v : V} (hk : X.K=G.K) (h : PE X e (tC v)) (hd : cV d=some v:=by rfl) : SE X G F e (mC d):=by
  refine PE.imp hk h fun σ H Q ⟨tv,hs,ρ,s,M,W⟩ _ => W ρ v H ⟨M,RDs.one (cV_rd hd).1,fun l hl => ?_⟩
  simp only [labsL,(cV_rd (G:=G) (ρ:=ρ) (H:=H) hd).2] at hl
  cases hl
theorem wM.out {σv tv : List (Option V)} {s : Stt} {t : D} {v : V} {ρ : Nat→Addr} {H : Hp} {Q : VK} (W : wM G F σv tv (.ok t s) Q) (M : MR G F.toFx ρ H σv tv s) (h : RD G ρ H t v) (hl : ∀ l∈labs t,l < s.n∧(F.A0 (ρ l)∨F.H0 (ρ l)=none)) : Q v H :=
  W ρ v H ⟨M,RDs.one h,fun l q => hl l (by simpa only [labsL,List.append_nil] using q)⟩
theorem wM.flat {σv tv : List (Option V)} {s : Stt} {t : D} {v : V} {ρ : Nat→Addr} {H : Hp} {Q : VK} (W : wM G F σv tv (.ok t s) Q) (M : MR G F.toFx ρ H σv tv s) (h : cV t=some v) : Q v H :=
  W.out M (cV_rd h).1 fun l q => by rw [(cV_rd (G:=G) (ρ:=ρ) (H:=H) h).2] at q; cases q
end
end Mi
namespace Mi
open PySem L2
mutual
noncomputable def er : D→PyData
  | .non => .none | .bool b => .bool b | .int i => .int i | .str x => .str x
  | .tup ds => .tuple (erL ds)
  | .ro ds => .list (erL ds)
  | .lst _ ds => .list (erL ds)
  | .dct _ _ _ => .none
  | .obj _ _ _ _ => .none
  | .exc _ => .none | .fn _ => .none | .fdc _ _ => .none
noncomputable def erL : List D→List PyData
  | [] => []
  | d :: ds => er d :: erL ds
end
mutual
noncomputable def plain : D→Bool
  | .non => true | .bool _ => true | .int _ => true | .str _ => true
  | .tup ds => plainL ds
  | .ro ds => plainL ds
  | .lst _ ds => plainL ds
  | .dct _ _ _ => false
  | .obj _ _ _ _ => false
  | .exc _ => false | .fn _ => false | .fdc _ _ => false
noncomputable def plainL : List D→Bool
  | [] => true
  | d :: ds => plain d && plainL ds
end
noncomputable def seqD : D→Option (List D)
  | .tup ds => some ds | .ro ds => some ds | .lst _ ds => some ds | _ => none
noncomputable def lstD : D→Option (List D)
  | .ro ds => some ds | .lst _ ds => some ds | _ => none
section
variable {G : Gx} {F : Fy} {ρ : Nat→Addr} {H H' : Hp} {σv tv : List (Option V)} {s : Stt} {t t' : D} {v u : V} {ts ds : List D} {vs xs : List V} {Q : VK}
mutual
theorem RD.dp : ∀ (t : D) (v : V),RD G ρ H t v→plain t=true→Dp G.K H (er t) v
  | .non,v,h,_ => by simp only [RD,er,Dp] at h ⊢; exact h
  | .bool b,v,h,_ => by simp only [RD,er,Dp] at h ⊢; exact h
  | .int b,v,h,_ => by simp only [RD,er,Dp] at h ⊢; exact h
  | .str b,v,h,_ => by simp only [RD,er,Dp] at h ⊢; exact h
  | .tup ds,v,h,p => by
    simp only [RD,er,Dp,plain] at h p ⊢
    obtain ⟨a,xs,e,s,r⟩:=h
    exact ⟨a,xs,e,SqT.of s,RDs.dp ds xs r p⟩
  | .ro ds,v,h,p => by
    simp only [RD,er,Dp,plain] at h p ⊢
    obtain ⟨a,xs,e,s,r⟩:=h
    exact ⟨a,xs,e,s.sq,RDs.dp ds xs r p⟩
  | .lst l ds,v,h,p => by
    simp only [RD,er,Dp,plain] at h p ⊢
    obtain ⟨e,xs,s,r⟩:=h
    exact ⟨_,xs,e,SqL.of s,RDs.dp ds xs r p⟩
  | .dct l ks vs,v,h,p => by simp only [plain] at p; cases p
  | .fdc ks vs,v,h,p => by simp only [plain] at p; cases p
  | .obj l c ns vs,v,h,p => by simp only [plain] at p; cases p
  | .exc c,v,h,p => by simp only [plain] at p; cases p
  | .fn c,v,h,p => by simp only [plain] at p; cases p
theorem RDs.dp : ∀ (t : List D) (v : List V),RDs G ρ H t v→plainL t=true→DpAll G.K H (erL t) v
  | [],v,h,_ => by simp only [RDs,erL,DpAll] at h ⊢; exact h
  | d :: ds,v,h,p => by
    simp only [RDs,erL,DpAll,plainL,Bool.and_eq_true] at h p ⊢
    obtain ⟨x,r,e,h1,h2⟩:=h
    exact ⟨x,r,e,RD.dp d x h1 p.1,RDs.dp ds r h2 p.2⟩
end
theorem RD.seq (h : RD G ρ H t v) (e : seqD t=some ds) : ∃ a xs,v=.ref a∧(SqL G.K H a xs∨SqT G.K H a xs)∧RDs G ρ H ds xs∧∀ l∈labsL ds,l∈labs t:=by
  cases t <;> simp only [seqD,Option.some.injEq] at e <;> try cases e
  · simp only [RD] at h
    obtain ⟨a,xs,e,s,r⟩:=h
    exact ⟨a,xs,e,.inr (SqT.of s),r,fun l hl => by simp only [labs]; exact hl⟩
  · simp only [RD] at h
    obtain ⟨a,xs,e,s,r⟩:=h
    exact ⟨a,xs,e,.inl s.sq,r,fun l hl => by simp only [labs]; exact hl⟩
  · simp only [RD] at h
    obtain ⟨e,xs,s,r⟩:=h
    exact ⟨_,xs,e,.inl (SqL.of s),r,fun l hl => by simp only [labs]; exact List.mem_cons_of_mem _ hl⟩
theorem RD.lstq (h : RD G ρ H t v) (e : lstD t=some ds) : ∃ a xs,v=.ref a∧SqL G.K H a xs∧RDs G ρ H ds xs∧∀ l∈labsL ds,l∈labs t:=by
  cases t <;> simp only [lstD,Option.some.injEq] at e <;> try cases e
  · simp only [RD] at h
    obtain ⟨a,xs,e,s,r⟩:=h
    exact ⟨a,xs,e,s.sq,r,fun l hl => by simp only [labs]; exact hl⟩
  · simp only [RD] at h
    obtain ⟨e,xs,s,r⟩:=h
    exact ⟨_,xs,e,SqL.of s,r,fun l hl => by simp only [labs]; exact List.mem_cons_of_mem _ hl⟩
theorem RD.tupx (h : RD G ρ H (.tup ds) v) : ∃ a xs,v=.ref a∧H a=some (.tup xs)∧RDs G ρ H ds xs:=by
  simp only [RD] at h; exact h
theorem RD.tupq (h : RD G ρ H (.tup ds) v) : ∃ a xs,v=.ref a∧SqT G.K H a xs∧RDs G ρ H ds xs:=by
  obtain ⟨a,xs,e,s,r⟩:=h.tupx
  exact ⟨a,xs,e,SqT.of s,r⟩
theorem RD.seqx (h : RD G ρ H t v) (e : seqD t=some ds) : ∃ a xs,v=.ref a∧(SqL G.K H a xs∨H a=some (.tup xs))∧RDs G ρ H ds xs∧∀ l∈labsL ds,l∈labs t:=by
  cases t <;> simp only [seqD,Option.some.injEq] at e <;> try cases e
  · simp only [RD] at h
    obtain ⟨a,xs,e,s,r⟩:=h
    exact ⟨a,xs,e,.inr s,r,fun l hl => by simp only [labs]; exact hl⟩
  · simp only [RD] at h
    obtain ⟨a,xs,e,s,r⟩:=h
    exact ⟨a,xs,e,.inl s.sq,r,fun l hl => by simp only [labs]; exact hl⟩
  · simp only [RD] at h
    obtain ⟨e,xs,s,r⟩:=h
    exact ⟨_,xs,e,.inl (SqL.of s),r,fun l hl => by simp only [labs]; exact List.mem_cons_of_mem _ hl⟩
theorem MRL.lb1 (M : MRL G F.toFx ρ H σv tv s [t] [v]) : ∀ l∈labs t,l < s.n∧(F.A0 (ρ l)∨F.H0 (ρ l)=none):=fun l h => M.lb l (by simp only [labsL,List.append_nil]; exact h)
theorem MRL.lb2 (M : MRL G F.toFx ρ H σv tv s [t,t'] [v,u]) : (∀ l∈labs t,l < s.n∧(F.A0 (ρ l)∨F.H0 (ρ l)=none))∧(∀ l∈labs t',l < s.n∧(F.A0 (ρ l)∨F.H0 (ρ l)=none)) :=
  ⟨fun l h => M.lb l (by simp only [labsL,List.append_nil]; exact List.mem_append_left _ h),fun l h => M.lb l (by simp only [labsL,List.append_nil]; exact List.mem_append_right _ h)⟩
noncomputable abbrev LB (F : Fx) (ρ : Nat→Addr) (n : Nat) (ls : List Nat) : Prop:=∀ l∈ls,l < n∧(F.A0 (ρ l)∨F.H0 (ρ l)=none)
theorem out_newT (W : wM G F σv tv (.ok (.tup ds) s) Q) (M : MR G F.toFx ρ H σv tv s) (r : RDs G ρ H ds xs) (lb : LB F.toFx ρ s.n (labsL ds)) : NewX G.K H xs (fun w H' => KD G.K H'→Q w H'):=by
  refine NewX.intro fun p H' sq sm k => ?_
  exact W.out (M.same sm k) (by simp only [RD]; exact ⟨p,xs,rfl,sq,r.same sm⟩) (by simp only [labs]; exact lb)
theorem out_tup {p : Addr} (W : wM G F σv tv (.ok (.tup ds) s) Q) (M : MR G F.toFx ρ H σv tv s) (r : RDs G ρ H ds xs) (lb : LB F.toFx ρ s.n (labsL ds)) (hp : H p=none) (k : KD G.K (upd H p (.tup xs))) : Q (.ref p) (upd H p (.tup xs)):=by
  have sm:=Same.new (.tup xs) hp
  exact W.out (M.same sm k) (by simp only [RD]; exact ⟨p,xs,rfl,upd_same,r.same sm⟩) (by simp only [labs]; exact lb)
theorem RDs.ext {p : Addr} {o : HO} (M : MR G F.toFx ρ H σv tv s) (r : RDs G ρ H ds xs) (lb : LB F.toFx ρ s.n (labsL ds)) (hp : H p=none) : RDs G (ext ρ s.n p) (upd H p o) ds xs :=
  RDs.stay (Stays.of (Same.new o hp)) ds xs r fun l hl => ⟨ext_old (lb l hl).1,fun o e => Same.new _ hp _ _ e⟩
theorem out_lst {p : Addr} (W : wM G F σv tv (.ok (.lst s.n ds) s.nxt) Q) (M : MR G F.toFx ρ H σv tv s) (r : RDs G ρ H ds xs) (lb : LB F.toFx ρ s.n (labsL ds)) (hp : H p=none) (k : KD G.K (upd H p (.lst xs))) : Q (.ref p) (upd H p (.lst xs)):=by
  refine W.out (M.new hp k) ?_ fun l hl => ?_
  · simp only [RD]
    rw [ext_new]
    exact ⟨rfl,xs,upd_same,RDs.ext M r lb hp⟩
  · simp only [labs] at hl
    rcases List.mem_cons.mp hl with q | q
    · rw [q]
      exact ⟨Nat.lt_succ_self _,by rw [ext_new]; exact .inr (M.fresh0 hp)⟩
    · obtain ⟨h1,h2⟩:=lb l q
      exact ⟨Nat.lt_succ_of_lt h1,by rw [ext_old h1]; exact h2⟩
end
noncomputable def newL (ds : List D) : M D:=fun s => .ok (.lst s.n ds) s.nxt
noncomputable def addD : D→D→M D
  | .int i,.int j => rt (.int (i+j))
  | .tup a,.tup b => if a.length+b.length≤sizeLine then rt (.tup (a++b)) else fl
  | .lst _ a,.lst _ b => if a.length+b.length≤sizeLine then newL (a++b) else fl
  | .str a,.str b => if a.length+b.length≤sizeLine then rt (.str (a++b)) else fl
  | _,_ => fl
noncomputable def subD : D→D→M D
  | .int i,.int j => rt (.int (i - j))
  | _,_ => fl
instance (i j : Int) : Decidable (CMul i j):=by unfold CMul; infer_instance
instance (i j : Int) : Decidable (CDiv i j):=by unfold CDiv; infer_instance
instance (i j : Int) : Decidable (CPow i j):=by unfold CPow; infer_instance
noncomputable def mulD : D→D→M D
  | .int i,.int j => if CMul i j then rt (.int (i * j)) else fl
  | .lst _ a,.int k => if -(2 ^ 63)≤k∧k < 2 ^ 63∧a.length * k.toNat≤sizeLine then newL (List.flatten (List.replicate k.toNat a)) else fl
  | .tup a,.int k => if 0 < a.length∧2≤k∧k < 2 ^ 63∧a.length * k.toNat≤sizeLine then rt (.tup (List.flatten (List.replicate k.toNat a))) else fl
  | _,_ => fl
noncomputable def fdivD : D→D→M D
  | .int i,.int j => if CDiv i j then rt (.int (i / j)) else fl
  | _,_ => fl
noncomputable def modD : D→D→M D
  | .int i,.int j => if 0 < j then rt (.int (i % j)) else fl
  | _,_ => fl
noncomputable def powD : D→D→M D
  | .int i,.int j => if CPow i j then rt (.int (i ^ j.toNat)) else fl
  | _,_ => fl
noncomputable def ltD : D→D→M D
  | .int i,.int j => rt (.bool (decide (i < j)))
  | _,_ => fl
noncomputable def leD : D→D→M D
  | .int i,.int j => rt (.bool (decide (i≤j)))
  | _,_ => fl
noncomputable def gtD : D→D→M D
  | .int i,.int j => rt (.bool (decide (j < i)))
  | _,_ => fl
noncomputable def geD : D→D→M D
  | .int i,.int j => rt (.bool (decide (j≤i)))
  | _,_ => fl
noncomputable def eqC (t t' : D) : Bool:=plain t && plain t' && (er t).canLay0 && (er t').canLay0 && decide (min (er t).depth (er t').depth≤60)
noncomputable def eqD (t t' : D) : M D:=if eqC t t'=true then rt (.bool (PyData.eqv (er t) (er t'))) else fl
noncomputable def neD (t t' : D) : M D:=if eqC t t'=true then rt (.bool (!PyData.eqv (er t) (er t'))) else fl
noncomputable def isN : D→D→M D
  | .non,.non => rt (.bool true)
  | _,.non => rt (.bool false)
  | _,_ => fl
noncomputable def notN : D→D→M D
  | .non,.non => rt (.bool false)
  | _,.non => rt (.bool true)
  | _,_ => fl
noncomputable def optM : Option D→M D
  | some d => rt d
  | none => fl
noncomputable def ixG : Option (List D)→D→M D
  | some ds,.int i => optM (atI ds i)
  | _,_ => fl
noncomputable def ixD (t t' : D) : M D:=ixG (seqD t) t'
noncomputable def negD : D→M D
  | .int i => rt (.int (-i))
  | _ => fl
section
variable {G : Gx} {F : Fy}
theorem wfl {σv tv : List (Option V)} {s : Stt} {Q : VK} {A : Prop} (h : wM G F σv tv ((fl : M D) s) Q) : A:=False.elim h
theorem ints2 {ρ : Nat→Addr} {H : Hp} {σv tv : List (Option V)} {s : Stt} {i j : Int} {v u : V} (M : MRL G F.toFx ρ H σv tv s [.int i,.int j] [v,u]) : v=.int i∧u=.int j:=by
  obtain ⟨h1,h2⟩:=M.rd2
  simp only [RD] at h1 h2
  exact ⟨h1,h2⟩
theorem ok_add : OpOK G F (fun x y H Q => rI0 (fun i j => .int (i+j)) x y H Q∨rCatX G.K x y H Q∨rCat x y H Q∨∃ i j,x=.str i∧y=.str j∧i.length+j.length≤sizeLine∧Q (.str (i++j)) H) addD:=by
  intro ρ s t t' v u H σv tv Q M W
  unfold addD at W
  split at W
  · obtain ⟨rfl,rfl⟩:=ints2 M
    exact .inl ⟨_,_,rfl,rfl,fun _ => W.flat M.m rfl⟩
  · split at W
    · rename_i a b hz
      obtain ⟨h1,h2⟩:=M.rd2
      obtain ⟨l1,l2⟩:=M.lb2
      obtain ⟨p,xs,rfl,s1,r1⟩:=h1.tupx
      obtain ⟨q,ys,rfl,s2,r2⟩:=h2.tupx
      refine .inr (.inl ⟨p,q,xs,ys,rfl,rfl,s1,s2,by rw [← r1.length,← r2.length]; exact hz,out_newT W M.m (r1.append r2) ?_⟩)
      rw [labsL_append]
      intro l hl
      rcases List.mem_append.mp hl with q | q
      · exact l1 l (by simpa only [labs] using q)
      · exact l2 l (by simpa only [labs] using q)
    · exact wfl W
  · split at W
    · rename_i la a lb b hz
      obtain ⟨h1,h2⟩:=M.rd2
      obtain ⟨l1,l2⟩:=M.lb2
      simp only [RD] at h1 h2
      obtain ⟨rfl,xs,s1,r1⟩:=h1
      obtain ⟨rfl,ys,s2,r2⟩:=h2
      refine .inr (.inr (.inl ⟨_,_,xs,ys,rfl,rfl,s1,s2,by rw [← r1.length,← r2.length]; exact hz,fun p hp k => out_lst W M.m (r1.append r2) ?_ hp k⟩))
      rw [labsL_append]
      intro l hl
      rcases List.mem_append.mp hl with q | q
      · exact l1 l (by simp only [labs]; exact List.mem_cons_of_mem _ q)
      · exact l2 l (by simp only [labs]; exact List.mem_cons_of_mem _ q)
    · exact wfl W
  · split at W
    · rename_i a b hz
      obtain ⟨h1,h2⟩:=M.rd2
      simp only [RD] at h1 h2
      subst h1 h2
      exact .inr (.inr (.inr ⟨_,_,rfl,rfl,hz,fun _ => W.flat M.m rfl⟩))
    · exact wfl W
  · exact wfl W
theorem ok_fdiv : OpOK G F (rI CDiv fun i j => .int (i / j)) fdivD:=by
  intro ρ s t t' v u H σv tv Q M W
  unfold fdivD at W
  split at W
  · split at W
    · rename_i hc
      obtain ⟨rfl,rfl⟩:=ints2 M
      exact ⟨_,_,rfl,rfl,hc,fun _ => W.flat M.m rfl⟩
    · exact wfl W
  · exact wfl W
theorem ok_mod : OpOK G F (rI (fun _ j => 0 < j) fun i j => .int (i % j)) modD:=by
  intro ρ s t t' v u H σv tv Q M W
  unfold modD at W
  split at W
  · split at W
    · rename_i hc
      obtain ⟨rfl,rfl⟩:=ints2 M
      exact ⟨_,_,rfl,rfl,hc,fun _ => W.flat M.m rfl⟩
    · exact wfl W
  · exact wfl W
theorem ok_pow : OpOK G F (rI CPow fun i j => .int (i ^ j.toNat)) powD:=by
  intro ρ s t t' v u H σv tv Q M W
  unfold powD at W
  split at W
  · split at W
    · rename_i hc
      obtain ⟨rfl,rfl⟩:=ints2 M
      exact ⟨_,_,rfl,rfl,hc,fun _ => W.flat M.m rfl⟩
    · exact wfl W
  · exact wfl W
theorem ok_lt : CmpOK G F (rI0 fun i j => .bl (decide (i < j))) ltD:=by
  intro ρ s t t' v u H σv tv Q M W
  unfold ltD at W
  split at W
  · obtain ⟨rfl,rfl⟩:=ints2 M
    exact ⟨_,_,rfl,rfl,W.flat M.m rfl⟩
  · exact wfl W
theorem ok_gt : CmpOK G F (rI0 fun i j => .bl (decide (j < i))) gtD:=by
  intro ρ s t t' v u H σv tv Q M W
  unfold gtD at W
  split at W
  · obtain ⟨rfl,rfl⟩:=ints2 M
    exact ⟨_,_,rfl,rfl,W.flat M.m rfl⟩
  · exact wfl W
theorem ok_eq : CmpOK G F (rEqD G.K false) eqD:=by
  intro ρ s t t' v u H σv tv Q M W
  unfold eqD at W
  split at W
  · rename_i hc
    simp only [eqC,Bool.and_eq_true,decide_eq_true_eq] at hc
    obtain ⟨⟨⟨⟨c1,c2⟩,c3⟩,c4⟩,c5⟩:=hc
    obtain ⟨h1,h2⟩:=M.rd2
    exact ⟨er t,er t',RD.dp _ _ h1 c1,RD.dp _ _ h2 c2,c3,c4,c5,W.flat M.m rfl⟩
  · exact wfl W
theorem ok_ne : CmpOK G F (rEqD G.K true) neD:=by
  intro ρ s t t' v u H σv tv Q M W
  unfold neD at W
  split at W
  · rename_i hc
    simp only [eqC,Bool.and_eq_true,decide_eq_true_eq] at hc
    obtain ⟨⟨⟨⟨c1,c2⟩,c3⟩,c4⟩,c5⟩:=hc
    obtain ⟨h1,h2⟩:=M.rd2
    exact ⟨er t,er t',RD.dp _ _ h1 c1,RD.dp _ _ h2 c2,c3,c4,c5,W.flat M.m rfl⟩
  · exact wfl W
theorem RD.non_iff {ρ : Nat→Addr} {H : Hp} {t : D} {v : V} (h : RD G ρ H t v) : v=.non↔t=.non:=by
  cases t <;> simp only [RD] at h <;> (try (subst h; simp)) <;> (try (obtain ⟨a,xs,rfl,_⟩:=h; simp)) <;> (try (obtain ⟨rfl,_⟩:=h; simp)) <;> (try (obtain ⟨a,o,C,rfl,_⟩:=h; simp)) <;> (try (obtain ⟨a,rfl,_⟩:=h; simp))
theorem ok_isN : CmpOK G F (fun x y H Q => y=.non∧Q (.bl (decide (x=.non))) H) isN:=by
  intro ρ s t t' v u H σv tv Q M W
  obtain ⟨h1,h2⟩:=M.rd2
  have e1:=h1.non_iff
  unfold isN at W
  split at W
  · simp only [RD] at h2
    exact ⟨h2,by rw [decide_eq_true (e1.mpr rfl)]; exact W.flat M.m rfl⟩
  · rename_i ne
    simp only [RD] at h2
    exact ⟨h2,by rw [decide_eq_false (fun z => ne (e1.mp z))]; exact W.flat M.m rfl⟩
  · exact wfl W
theorem atI_rd {ρ : Nat→Addr} {H : Hp} {ds : List D} {xs : List V} {i : Int} {d : D} (r : RDs G ρ H ds xs) (e : atI ds i=some d) : ∃ x,atI xs i=some x∧RD G ρ H d x:=by
  unfold atI at e ⊢
  rw [← r.length]
  cases e1 : ixN ds.length i with
  | none => rw [e1] at e; cases e
  | some j =>
    rw [e1] at e
    exact r.get j d e
theorem atI_mem {α : Type} {ds : List α} {i : Int} {d : α} (e : atI ds i=some d) : d∈ds:=by
  unfold atI at e
  cases e1 : ixN ds.length i with
  | none => rw [e1] at e; cases e
  | some j =>
    rw [e1] at e
    exact List.mem_of_getElem? e
theorem ok_ix : OpOK G F (fun x y H Q => rIxL G.K x y H Q∨rIxT G.K x y H Q) ixD:=by
  intro ρ s t t' v u H σv tv Q M W
  obtain ⟨h1,h2⟩:=M.rd2
  unfold ixD at W
  cases e : seqD t with
  | none => rw [e] at W; exact False.elim W
  | some ds =>
    rw [e] at W
    cases t' with
    | int i =>
      have W : wM G F σv tv (optM (atI ds i) s) Q:=W
      cases ea : atI ds i with
      | some d =>
        rw [ea] at W
        obtain ⟨a,xs,rfl,sq,r,sub⟩:=h1.seq e
        obtain ⟨x,ex,rx⟩:=atI_rd r ea
        simp only [RD] at h2
        subst h2
        have fin : KD G.K H→Q x H:=fun _ => W.out M.m rx fun l hl => M.lb2.1 l (sub l (labsL_mem (atI_mem ea) l hl))
        rcases sq with sq | sq
        · exact .inl ⟨a,xs,i,x,rfl,rfl,sq,ex,fin⟩
        · exact .inr ⟨a,xs,i,x,rfl,rfl,sq,ex,fin⟩
      | none => rw [ea] at W; exact False.elim W
    | _ => exact False.elim W
end
end Mi
namespace Mi
open PySem L2
section
variable {X : Cx} {G : Gx} {F : Fy} {e a b c : Expr} {pos : Pos}
theorem RDs.flat {ρ : Nat→Addr} {H : Hp} {ds : List D} {xs : List V} (r : RDs G ρ H ds xs) : ∀ k : Nat,RDs G ρ H (List.replicate k ds).flatten (List.replicate k xs).flatten
  | 0 => by simp [RDs]
  | k+1 => by
    rw [List.replicate_succ,List.replicate_succ,List.flatten_cons,List.flatten_cons]
    exact r.append (RDs.flat r k)
theorem labsL_flat {ds : List D} {l : Nat} : ∀ k : Nat,l∈labsL (List.replicate k ds).flatten→l∈labsL ds
  | 0,h => by simp [labsL] at h
  | k+1,h => by
    rw [List.replicate_succ,List.flatten_cons,labsL_append] at h
    rcases List.mem_append.mp h with h | h
    · exact h
    · exact labsL_flat k h
theorem ok_mul : OpOK G F (fun x y H Q => rI CMul (fun i j => .int (i * j)) x y H Q∨(rRep x y H Q∨rRepT G.K x y H Q)) mulD:=by
  intro ρ s t t' v u H σv tv Q M W
  unfold mulD at W
  split at W
  · split at W
    · rename_i hc
      obtain ⟨rfl,rfl⟩:=ints2 M
      exact .inl ⟨_,_,rfl,rfl,hc,fun _ => W.flat M.m rfl⟩
    · exact wfl W
  · split at W
    · rename_i la a k hc
      obtain ⟨h1,h2⟩:=M.rd2
      obtain ⟨l1,l2⟩:=M.lb2
      simp only [RD] at h1 h2
      obtain ⟨rfl,xs,s1,r1⟩:=h1
      subst h2
      refine .inr (.inl ⟨_,k,xs,rfl,rfl,s1,hc.1,hc.2.1,by rw [← r1.length]; exact hc.2.2,fun p hp kd => out_lst W M.m (r1.flat _) (fun l hl => ?_) hp kd⟩)
      exact l1 l (by simp only [labs]; exact List.mem_cons_of_mem _ (labsL_flat _ hl))
    · exact wfl W
  · split at W
    · rename_i a k hc
      obtain ⟨h1,h2⟩:=M.rd2
      obtain ⟨l1,l2⟩:=M.lb2
      simp only [RD] at h1 h2
      obtain ⟨a',xs,rfl,s1,r1⟩:=h1
      subst h2
      refine .inr (.inr ⟨_,k,xs,rfl,rfl,SqT.of s1,by rw [← r1.length]; exact hc.1,hc.2.1,hc.2.2.1,by rw [← r1.length]; exact hc.2.2.2,fun p hp kd => out_tup W M.m (r1.flat _) (fun l hl => ?_) hp kd⟩)
      exact l1 l (by simp only [labs]; exact labsL_flat _ hl)
    · exact wfl W
  · exact wfl W
noncomputable def cutA {α : Type} (xs : List α) (lo hi : Option Int) : List α:=(xs.drop (HT.sIx xs.length 0 lo)).take (HT.sIx xs.length xs.length hi - HT.sIx xs.length 0 lo)
noncomputable def slD : D→Option Int→Option Int→M D
  | .tup ds,lo,hi => rt (.tup (cutA ds lo hi))
  | .lst _ ds,lo,hi => newL (cutA ds lo hi)
  | .ro ds,lo,hi => newL (cutA ds lo hi)
  | _,_,_ => fl
theorem RDs.cut {ρ : Nat→Addr} {H : Hp} {ds : List D} {xs : List V} (r : RDs G ρ H ds xs) (lo hi : Option Int) : RDs G ρ H (cutA ds lo hi) (cutV xs lo hi):=by
  unfold cutA cutV
  rw [r.length]
  exact (r.drop _).take _
theorem labsL_cut {ds : List D} {lo hi : Option Int} {l : Nat} (h : l∈labsL (cutA ds lo hi)) : l∈labsL ds:=by
  obtain ⟨d,h1,h2⟩:=of_labsL h
  exact labsL_mem (List.mem_of_mem_drop (List.mem_of_mem_take h1)) l h2
noncomputable def mInt (d : D) : Option Int:=match d with | .int i => some i | _ => none
noncomputable def mPart : Option (M D)→M (Option Int)
  | none => rt none
  | some m => bd m fun d => match mInt d with | some i => rt (some i) | none => fl
noncomputable def tP (G : Gx) (F : Fy) (m : M (Option Int)) : TO:=fun σv H Q => ∃ tv,F.tv0 <:+ tv∧∃ ρ s,MR G F.toFx ρ H σv tv s∧(match m s with
  | .ok o s' => ∀ ρ' H',MR G F.toFx ρ' H' σv tv s'→Q o H'
  | .ex d s' => F.xw d s'
  | .no => False)
noncomputable def SO (X : Cx) (G : Gx) (F : Fy) (e : Option Expr) (m : Option (M D)) : Prop:=PO X e (tP G F (mPart m))
theorem so_none : SO X G F none none:=by
  intro pins s σ H Q I ⟨tv,hs,ρ,ms,M,W⟩
  exact po_none pins s σ H Q I (W ρ H M)
theorem so_some {m : M D} (h : SE X G F e m) : SO X G F (some e) (some m):=by
  intro pins s σ H Q I ⟨tv,hs,ρ,ms,M,W⟩
  refine po_some h pins s σ H Q I ⟨tv,hs,ρ,ms,M,?_⟩
  simp only [mPart,bd] at W
  cases e1 : m ms with
  | ok d s1 =>
    rw [e1] at W
    intro ρ' v H' M'
    cases d with
    | int i =>
      have h:=M'.rd1
      simp only [RD] at h
      exact ⟨i,h,W ρ' H' M'.m⟩
    | _ => exact False.elim W
  | ex d s1 => rw [e1] at W; exact W
  | no => rw [e1] at W; exact W
noncomputable def mSl (m : M D) (lo hi : Option (M D)) : M D:=bd m fun x => bd (psh x) fun _ => bd (mPart lo) fun l => bd (mPart hi) fun h => bd pop fun x' => slD x' l h
theorem ok_sl {ρ : Nat→Addr} {s : Stt} {t : D} {v : V} {H : Hp} {σv tv : List (Option V)} {lo hi : Option Int} {Q : VK} (M : MRL G F.toFx ρ H σv tv s [t] [v]) (W : wM G F σv tv (slD t lo hi s) Q) :
    rSlX G.K v lo hi H (fun w H' => KD G.K H'→Q w H')∨rSlL G.K v lo hi H (fun w H' => KD G.K H'→Q w H'):=by
  have h:=M.rd1
  cases t with
  | tup ds =>
    obtain ⟨p,xs,rfl,s1,r1⟩:=h.tupx
    exact .inl ⟨p,xs,rfl,s1,out_newT W M.m (r1.cut lo hi) fun l hl => M.lb1 l (by simp only [labs]; exact labsL_cut hl)⟩
  | lst n ds =>
    obtain ⟨p,xs,rfl,s1,r1,_⟩:=h.lstq (ds:=ds) rfl
    exact .inr ⟨p,xs,rfl,s1,fun q hq k => out_lst W M.m (r1.cut lo hi) (fun l hl => M.lb1 l (by simp only [labs]; exact List.mem_cons_of_mem _ (labsL_cut hl))) hq k⟩
  | ro ds =>
    obtain ⟨p,xs,rfl,s1,r1,_⟩:=h.lstq (ds:=ds) rfl
    exact .inr ⟨p,xs,rfl,s1,fun q hq k => out_lst W M.m (r1.cut lo hi) (fun l hl => M.lb1 l (by simp only [labs]; exact labsL_cut hl)) hq k⟩
  | _ => exact False.elim W
theorem se_slice {lo hi : Option Expr} {p2 : Pos} {m : M D} {ml mh : Option (M D)} (hk : X.K=G.K) (he : SE X G F e m) (hl : SO X G F lo ml) (hh : SO X G F hi mh) : SE X G F (.Subscript e (.Slice lo hi none p2) pos) (mSl m ml mh):=by
  refine PE.imp hk (pe_slice (r:=fun x lo hi H Q => rSlX X.K x lo hi H Q∨rSlL X.K x lo hi H Q) (SlR.or sl_tupX sl_list) he hl hh) fun σ H Q ⟨tv,h⟩ => ⟨tv,?_⟩
  obtain ⟨hs,ρ,s,M,W⟩:=tM_bd h
  refine ⟨hs,ρ,s,M,W.mono fun v H1 ⟨ρ1,s1,t,M1,W1⟩ => ⟨some v :: tv,suf1 hs,ρ1,s1.psh t,M1.push,?_⟩⟩
  simp only [bd,psh] at W1
  cases e1 : mPart ml (s1.psh t) with
  | ex d s2 => rw [e1] at W1; exact W1
  | no => rw [e1] at W1; exact W1
  | ok l s2 =>
    rw [e1] at W1
    intro ρ2 H2 M2
    refine ⟨some v :: tv,suf1 hs,ρ2,s2,M2,?_⟩
    dsimp only at W1
    cases e2 : mPart mh s2 with
    | ex d s3 => rw [e2] at W1; exact W1
    | no => rw [e2] at W1; exact W1
    | ok h s3 =>
      rw [e2] at W1
      intro ρ3 H3 M3
      simp only [pop] at W1
      cases e3 : s3.tm with
      | nil => rw [e3] at W1; exact W1.elim
      | cons o r =>
        cases o with
        | none => rw [e3] at W1; exact W1.elim
        | some t' =>
          rw [e3] at W1
          have M4 : MRL G F.toFx ρ3 H3 σ tv { s3 with tm:=r } [t'] [v]:=MRL.down (ts:=[]) (vs:=[]) ⟨M3,rfl,fun l h => by simp [labsL] at h⟩ e3
          rw [hk]
          exact ok_sl M4 W1
noncomputable def tupD (ts : List D) : M D:=if ts.length≤sizeLine then rt (.tup ts) else fl
noncomputable def lstM (ts : List D) : M D:=if ts.length≤sizeLine then newL ts else fl
theorem ok_tup : CallOK G F (fun xs H1 Q => xs.length≤sizeLine∧∀ p,H1 p=none→Q (.ref p) (upd H1 p (.tup xs))) tupD:=by
  intro ρ s ts vs H σv tv Q M W
  unfold tupD at W
  split at W
  · rename_i hz
    exact ⟨by rw [← M.rd.length]; exact hz,fun p hp k => out_tup W M.m M.rd M.lb hp k⟩
  · exact wfl W
theorem ok_lst : CallOK G F (fun xs H1 Q => xs.length≤sizeLine∧∀ p,H1 p=none→Q (.ref p) (upd H1 p (.lst xs))) lstM:=by
  intro ρ s ts vs H σv tv Q M W
  unfold lstM at W
  split at W
  · rename_i hz
    exact ⟨by rw [← M.rd.length]; exact hz,fun p hp k => out_lst W M.m M.rd M.lb hp k⟩
  · exact wfl W
theorem se_tup {es : List Expr} {ms : List (M D)} {x1} (hk : X.K=G.K) (h : SA X G F es (mArgs ms)) : SE X G F (.Tuple es x1 pos) (mCB ms tupD) :=
  PE.imp hk (pe_tup h) fun _ _ _ h => call_imp ok_tup h
theorem se_lst {es : List Expr} {ms : List (M D)} (hk : X.K=G.K) (h : SA X G F es (mArgs ms)) : SE X G F (.List es pos) (mCB ms lstM) :=
  PE.imp hk (pe_lst h) fun _ _ _ h => call_imp ok_lst h
noncomputable def truD : D→M Bool
  | .non => rt false
  | .bool b => rt b
  | .int i => rt (i != 0)
  | .str x => if x.length≤sizeLine then rt ((x.length : Int) != 0) else fl
  | .tup ds => rt (!ds.isEmpty)
  | .ro ds => rt (!ds.isEmpty)
  | .lst _ ds => rt (!ds.isEmpty)
  | _ => fl
noncomputable def mTest (m : M D) : M Bool:=bd m truD
theorem isEmpty_rd {ρ : Nat→Addr} {H : Hp} {ds : List D} {xs : List V} (r : RDs G ρ H ds xs) : (!ds.isEmpty)=!xs.isEmpty:=by
  have:=r.length
  cases ds <;> cases xs <;> simp at this ⊢
theorem ok_tru {ρ : Nat→Addr} {s : Stt} {t : D} {v : V} {H : Hp} {σv tv : List (Option V)} {Q : Bool→Hp→Prop} (M : MRL G F.toFx ρ H σv tv s [t] [v]) (W : wB G F σv tv (truD t s) Q) : ∃ k,TruV G.K v H k∧Q k H:=by
  have h:=M.rd1
  cases t with
  | non => simp only [RD] at h; subst h; exact ⟨false,rfl,W ρ H M.m⟩
  | bool b => simp only [RD] at h; subst h; exact ⟨b,rfl,W ρ H M.m⟩
  | int i => simp only [RD] at h; subst h; exact ⟨_,rfl,W ρ H M.m⟩
  | str x =>
    simp only [RD] at h; subst h
    unfold truD at W
    by_cases hz : x.length≤sizeLine
    · simp only [if_pos hz] at W; exact ⟨_,⟨hz,rfl⟩,W ρ H M.m⟩
    · simp only [if_neg hz] at W; exact False.elim W
  | tup ds =>
    obtain ⟨p,xs,rfl,s1,r1⟩:=h.tupq
    exact ⟨_,.inr (.inl ⟨xs,s1,isEmpty_rd r1⟩),W ρ H M.m⟩
  | ro ds =>
    obtain ⟨p,xs,rfl,s1,r1,_⟩:=h.lstq (ds:=ds) rfl
    exact ⟨_,.inl ⟨xs,s1,isEmpty_rd r1⟩,W ρ H M.m⟩
  | lst n ds =>
    obtain ⟨p,xs,rfl,s1,r1,_⟩:=h.lstq (ds:=ds) rfl
    exact ⟨_,.inl ⟨xs,s1,isEmpty_rd r1⟩,W ρ H M.m⟩
  | dct _ _ _ => exact False.elim W
  | fdc _ _ => exact False.elim W
  | obj _ _ _ _ => exact False.elim W
  | exc _ => exact False.elim W
  | fn _ => exact False.elim W
theorem test_imp {m : M D} {σ : St} {H : Hp} {Q : Bool→Hp→Prop} (h : tMB G F (mTest m) σ H Q) : tM G F m σ H fun x H' => ∃ k,TruV G.K x H' k∧Q k H':=by
  obtain ⟨tv,hs,ρ,s,M,W⟩:=h
  refine ⟨tv,hs,ρ,s,M,?_⟩
  unfold mTest bd at W
  cases e : m s with
  | ok t s1 => rw [e] at W; exact fun ρ1 v H1 M1 => ok_tru M1 W
  | ex d s1 => rw [e] at W; exact W
  | no => rw [e] at W; exact W
theorem sb_truth {m : M D} (hk : X.K=G.K) (ha : SE X G F a m) (he : ∀ whole,isTrue a X.env whole=(do let v ← whole; standAt a.pos; holding [v] (truthy v)):=by intro _; rfl) : SB X G F a (mTest m):=by
  refine PT.imp hk (pt_truth ha he) fun σ H Q h => ?_
  rw [hk]
  obtain ⟨tv,h'⟩:=test_imp h
  exact ⟨tv,h'.mono fun v H1 ⟨k,q1,q2⟩ => ⟨k,q1,fun _ => q2⟩⟩
noncomputable def booD : D→M Bool
  | .bool b => rt b
  | _ => fl
noncomputable def mBoo (m : M D) : M Bool:=bd m booD
theorem boo_imp {m : M D} {σ : St} {H : Hp} {Q : Bool→Hp→Prop} (h : tMB G F (mBoo m) σ H Q) : tM G F m σ H fun x H' => ∃ k,x=.bl k∧Q k H':=by
  obtain ⟨tv,hs,ρ,s,M,W⟩:=h
  refine ⟨tv,hs,ρ,s,M,?_⟩
  unfold mBoo bd at W
  cases e : m s with
  | ok t s1 =>
    rw [e] at W
    intro ρ1 v H1 M1
    have h:=M1.rd1
    cases t with
    | bool b => simp only [RD] at h; exact ⟨b,h,W ρ1 H1 M1.m⟩
    | _ => exact False.elim W
  | ex d s1 => rw [e] at W; exact W
  | no => rw [e] at W; exact W
theorem sb_cmpR {op : CmpOp} {r : R2} {ma mb : M D} {g : D→D→M D} (ho : OpR X (compareOp op) r) (hg : CmpOK G F r g) (ha : SE X G F a ma) (hb : SE X G F b mb) (hm : behindInMarks op b=false) : SB X G F (.Compare a [op] [b] pos) (mBoo (mBin ma mb g)) :=
  PT.imp0 (pt_cmpR ho ha hb hm) fun _ _ _ h => bin_imp0 hg (boo_imp h)
theorem tB_bd {m : M Bool} {f : Bool→M Bool} {σ : St} {tv : List (Option V)} {H : Hp} {Q : Bool→Hp→Prop} (h : tBv G F (bd m f) σ tv H Q) : tBv G F m σ tv H fun b H1 => ∃ ρ1 s1,MR G F.toFx ρ1 H1 σ tv s1∧wB G F σ tv (f b s1) Q:=by
  obtain ⟨hs,ρ,s,M,W⟩:=h
  refine ⟨hs,ρ,s,M,?_⟩
  unfold bd at W
  cases e : m s with
  | ok b s1 => rw [e] at W; exact fun ρ1 H1 M1 => ⟨ρ1,s1,M1,W⟩
  | ex d s1 => rw [e] at W; exact W
  | no => rw [e] at W; exact W
theorem wB.mono {σv tv : List (Option V)} {r : Res Bool} {Q Q' : Bool→Hp→Prop} (h : wB G F σv tv r Q) (k : ∀ v H,Q v H→Q' v H) : wB G F σv tv r Q':=by
  cases r with
  | ok t s => exact fun ρ H M => k _ _ (h ρ H M)
  | ex d s => exact h
  | no => exact h
theorem tBv.mono {m : M Bool} {σv tv : List (Option V)} {H : Hp} {Q Q' : Bool→Hp→Prop} (h : tBv G F m σv tv H Q) (k : ∀ v H,Q v H→Q' v H) : tBv G F m σv tv H Q':=by
  obtain ⟨hs,ρ,s,M,W⟩:=h
  exact ⟨hs,ρ,s,M,W.mono k⟩
noncomputable def iteM {α : Type} (b : Bool) (m m' : M α) : M α:=match b with | true => m | false => m'
noncomputable def mAnd (m m' : M Bool) : M Bool:=bd m fun b => iteM b m' (rt false)
noncomputable def mOr (m m' : M Bool) : M Bool:=bd m fun b => iteM b (rt true) m'
noncomputable def mNot (m : M Bool) : M Bool:=bd m fun b => rt (!b)
noncomputable def SW (X : Cx) (G : Gx) (F : Fy) (e : Expr) (m : M Bool) : Prop:=PW X e (tMB G F m)
theorem SW.sb {m : M Bool} (h : SW X G F e m) : SB X G F e m:=PW.pt h
theorem PW.imp0 {t t' : TT} (h : PW X e t) (hi : ∀ σ H Q,t' σ H Q→t σ H Q) : PW X e t':=fun wh pins s σ H Q I q => h wh pins s σ H _ I (hi σ H Q q)
theorem sw_and1 {m : M Bool} (h : SB X G F a m) : SW X G F (.BoolOp .And [a] pos) m:=pw_and1 h
theorem sw_or1 {m : M Bool} (h : SB X G F a m) : SW X G F (.BoolOp .Or [a] pos) m:=pw_or1 h
theorem sw_and {rest : List Expr} {m m' : M Bool} (ha : SB X G F a m) (hb : SW X G F (.BoolOp .And (b :: rest) pos) m') : SW X G F (.BoolOp .And (a :: b :: rest) pos) (mAnd m m'):=by
  refine PW.imp0 (pw_and ha hb) fun σ H Q ⟨tv,h⟩ => ⟨tv,(tB_bd h).mono fun b H1 ⟨ρ1,s1,M1,W⟩ => ?_⟩
  cases b with
  | true => rw [if_pos rfl]; exact ⟨tv,h.1,ρ1,s1,M1,W⟩
  | false => rw [if_neg Bool.false_ne_true]; exact W ρ1 H1 M1
theorem sw_or {rest : List Expr} {m m' : M Bool} (ha : SB X G F a m) (hb : SW X G F (.BoolOp .Or (b :: rest) pos) m') : SW X G F (.BoolOp .Or (a :: b :: rest) pos) (mOr m m'):=by
  refine PW.imp0 (pw_or ha hb) fun σ H Q ⟨tv,h⟩ => ⟨tv,(tB_bd h).mono fun b H1 ⟨ρ1,s1,M1,W⟩ => ?_⟩
  cases b with
  | true => rw [if_pos rfl]; exact W ρ1 H1 M1
  | false => rw [if_neg Bool.false_ne_true]; exact ⟨tv,h.1,ρ1,s1,M1,W⟩
theorem sb_not {m : M Bool} (ha : SB X G F a m) : SB X G F (.UnaryOp .Not a pos) (mNot m):=by
  refine PT.imp0 (pt_not ha) fun σ H Q ⟨tv,h⟩ => ⟨tv,(tB_bd h).mono fun b H1 ⟨ρ1,s1,M1,W⟩ => W ρ1 H1 M1⟩
noncomputable def mAndV (m m' : M D) : M D:=bd (mBoo m) fun b => iteM b m' (rt (.bool false))
noncomputable def mOrV (m m' : M D) : M D:=bd (mBoo m) fun b => iteM b (rt (.bool true)) m'
noncomputable def mNotV (m : M D) : M D:=bd (mBoo m) fun b => rt (.bool (!b))
theorem boo_bd {m : M D} {f : Bool→M D} {σ : St} {H : Hp} {Q : VK} (h : tM G F (bd (mBoo m) f) σ H Q) : tM G F m σ H fun x H1 => ∃ k,x=.bl k∧∃ ρ1 s1 tv,F.tv0 <:+ tv∧MR G F.toFx ρ1 H1 σ tv s1∧wM G F σ tv (f k s1) Q:=by
  obtain ⟨tv,hs,ρ,s,M,W⟩:=h
  refine ⟨tv,hs,ρ,s,M,?_⟩
  unfold mBoo bd at W
  cases e : m s with
  | ok t s1 =>
    rw [e] at W
    intro ρ1 v H1 M1
    have h:=M1.rd1
    cases t with
    | bool b => simp only [RD] at h; exact ⟨b,h,ρ1,s1,tv,hs,M1.m,W⟩
    | _ => exact False.elim W
  | ex d s1 => rw [e] at W; exact W
  | no => rw [e] at W; exact W
theorem tM.mono {m : M D} {σ : St} {H : Hp} {Q Q' : VK} (h : tM G F m σ H Q) (k : ∀ v H,Q v H→Q' v H) : tM G F m σ H Q':=by
  obtain ⟨tv,h⟩:=h
  exact ⟨tv,h.mono k⟩
theorem se_one {op} {m : M D} (h : SE X G F a m) : SE X G F (.BoolOp op [a] pos) m:=pe_one h
theorem se_and {rest : List Expr} {m m' : M D} (ha : SE X G F a m) (hb : SE X G F (.BoolOp .And (b :: rest) pos) m') : SE X G F (.BoolOp .And (a :: b :: rest) pos) (mAndV m m'):=by
  refine PE.imp0 (pe_and ha hb) fun σ H Q h => (boo_bd h).mono fun x H1 ⟨k,e,ρ1,s1,tv,hs,M1,W⟩ => ⟨k,e,?_⟩
  cases k with
  | true => rw [if_pos rfl]; exact ⟨tv,hs,ρ1,s1,M1,W⟩
  | false => rw [if_neg Bool.false_ne_true]; exact W.flat M1 rfl
theorem se_not {m : M D} (ha : SE X G F a m) : SE X G F (.UnaryOp .Not a pos) (mNotV m):=by
  refine PE.imp0 (pe_not ha) fun σ H Q h => (boo_bd h).mono fun x H1 ⟨k,e,ρ1,s1,tv,hs,M1,W⟩ => ⟨k,e,W.flat M1 rfl⟩
noncomputable def mIf (c : M Bool) (m m' : M D) : M D:=bd c fun b => iteM b m m'
noncomputable def flatM (y : D) (m : M D) : M D:=match cV y with | some _ => m | none => fl
noncomputable def mChain (ma mb mc : M D) (g g' : D→D→M D) : M D:=bd ma fun x => bd (psh x) fun _ => bd mb fun y => bd pop fun x' => flatM y (bd (mBoo (g x' y)) fun k => iteM k (bd mc fun z => g' y z) (rt (.bool false)))
end
end Mi
namespace Mi
open PySem L2
noncomputable def lenD : List D→M D
  | [.tup ds] => rt (.int ds.length)
  | [.ro ds] => rt (.int ds.length)
  | [.lst _ ds] => rt (.int ds.length)
  | _ => fl
noncomputable def absD : List D→M D
  | [.int i] => rt (.int (if i < 0 then -i else i))
  | _ => fl
noncomputable def minD : List D→M D
  | [.int i,.int j] => rt (.int (if j < i then j else i))
  | _ => fl
noncomputable def maxD : List D→M D
  | [.int i,.int j] => rt (.int (if j > i then j else i))
  | _ => fl
noncomputable def boolsD : List D→Option (List Bool)
  | [] => some []
  | .bool b :: r => (boolsD r).map (b :: ·)
  | _ => none
noncomputable def allD : List D→M D
  | [.lst _ ds] => match boolsD ds with | some bs => rt (.bool (bs.all id)) | none => fl
  | _ => fl
noncomputable def anyD : List D→M D
  | [.lst _ ds] => match boolsD ds with | some bs => rt (.bool (bs.any id)) | none => fl
  | _ => fl
noncomputable def intD : List D→M D
  | [.int i] => rt (.int i)
  | [.bool b] => rt (.int (if b then 1 else 0))
  | _ => fl
noncomputable def tupF : List D→M D
  | [.tup ds] => rt (.tup ds)
  | [.ro ds] => rt (.tup ds)
  | [.lst _ ds] => rt (.tup ds)
  | _ => fl
noncomputable def listF : List D→M D
  | [.tup ds] => newL ds
  | [.ro ds] => newL ds
  | [.lst _ ds] => newL ds
  | _ => fl
section
variable {X : Cx} {G : Gx} {F : Fy} {e a b c : Expr} {pos : Pos}
theorem MRL.one {ρ : Nat→Addr} {H : Hp} {σv tv : List (Option V)} {s : Stt} {t : D} {vs : List V} (M : MRL G F.toFx ρ H σv tv s [t] vs) : ∃ v,vs=[v]∧RD G ρ H t v∧LB F.toFx ρ s.n (labs t):=by
  have h:=M.rd
  simp only [RDs] at h
  obtain ⟨v,r,rfl,h,rfl⟩:=h
  exact ⟨v,rfl,h,M.lb1⟩
theorem MRL.two {ρ : Nat→Addr} {H : Hp} {σv tv : List (Option V)} {s : Stt} {t t' : D} {vs : List V} (M : MRL G F.toFx ρ H σv tv s [t,t'] vs) : ∃ v u,vs=[v,u]∧RD G ρ H t v∧RD G ρ H t' u:=by
  have h:=M.rd
  simp only [RDs] at h
  obtain ⟨v,r,rfl,h,u,q,rfl,h',rfl⟩:=h
  exact ⟨v,u,rfl,h,h'⟩
theorem ok_len : CallOK G F (fun xs H Q => ∃ p ys,xs=[.ref p]∧(SqL G.K H p ys∨SqT G.K H p ys)∧Q (.int ys.length) H) lenD:=by
  intro ρ s ts vs H σv tv Q M W
  unfold lenD at W
  split at W
  · obtain ⟨v,rfl,h,_⟩:=M.one
    obtain ⟨p,xs,rfl,s1,r1,_⟩:=h.seq rfl
    exact ⟨p,xs,rfl,s1,fun _ => by rw [← r1.length]; exact W.flat M.m rfl⟩
  · obtain ⟨v,rfl,h,_⟩:=M.one
    obtain ⟨p,xs,rfl,s1,r1,_⟩:=h.seq rfl
    exact ⟨p,xs,rfl,s1,fun _ => by rw [← r1.length]; exact W.flat M.m rfl⟩
  · obtain ⟨v,rfl,h,_⟩:=M.one
    obtain ⟨p,xs,rfl,s1,r1,_⟩:=h.seq rfl
    exact ⟨p,xs,rfl,s1,fun _ => by rw [← r1.length]; exact W.flat M.m rfl⟩
  · exact wfl W
theorem ok_abs : CallOK G F (fun xs H Q => ∃ i,xs=[.int i]∧Q (.int (if i < 0 then -i else i)) H) absD:=by
  intro ρ s ts vs H σv tv Q M W
  unfold absD at W
  split at W
  · obtain ⟨v,rfl,h,_⟩:=M.one
    simp only [RD] at h
    subst h
    exact ⟨_,rfl,fun _ => W.flat M.m rfl⟩
  · exact wfl W
theorem ok_min : CallOK G F (fun xs H Q => ∃ i j,xs=[.int i,.int j]∧Q (.int (if j < i then j else i)) H) minD:=by
  intro ρ s ts vs H σv tv Q M W
  unfold minD at W
  split at W
  · obtain ⟨v,u,rfl,h,h'⟩:=M.two
    simp only [RD] at h h'
    subst h h'
    exact ⟨_,_,rfl,fun _ => W.flat M.m rfl⟩
  · exact wfl W
theorem ok_max : CallOK G F (fun xs H Q => ∃ i j,xs=[.int i,.int j]∧Q (.int (if j > i then j else i)) H) maxD:=by
  intro ρ s ts vs H σv tv Q M W
  unfold maxD at W
  split at W
  · obtain ⟨v,u,rfl,h,h'⟩:=M.two
    simp only [RD] at h h'
    subst h h'
    exact ⟨_,_,rfl,fun _ => W.flat M.m rfl⟩
  · exact wfl W
theorem bools_rd {ρ : Nat→Addr} {H : Hp} : ∀ {ds : List D} {xs : List V} {bs : List Bool},RDs G ρ H ds xs→boolsD ds=some bs→xs=bs.map V.bl
  | [],xs,bs,r,e => by simp only [RDs] at r; simp only [boolsD,Option.some.injEq] at e; subst r e; rfl
  | d :: ds,xs,bs,r,e => by
    simp only [RDs] at r
    obtain ⟨x,q,rfl,h1,h2⟩:=r
    cases d with
    | bool b =>
      simp only [boolsD] at e
      cases e1 : boolsD ds with
      | none => rw [e1] at e; cases e
      | some cs =>
        rw [e1] at e
        cases e
        simp only [RD] at h1
        rw [h1,bools_rd h2 e1]; rfl
    | _ => simp only [boolsD] at e; cases e
theorem ok_all : CallOK G F (fun xs H Q => ∃ (p : Addr) (bs : List Bool),xs=[.ref p]∧SqL G.K H p (bs.map V.bl)∧Q (.bl (bs.all id)) H) allD:=by
  intro ρ s ts vs H σv tv Q M W
  unfold allD at W
  split at W
  · rename_i l ds
    cases e1 : boolsD ds with
    | none => rw [e1] at W; exact False.elim W
    | some bs =>
      rw [e1] at W
      obtain ⟨v,rfl,h,_⟩:=M.one
      obtain ⟨p,xs,rfl,s1,r1,_⟩:=h.lstq (ds:=ds) rfl
      rw [bools_rd r1 e1] at s1
      exact ⟨p,bs,rfl,s1,fun _ => W.flat M.m rfl⟩
  · exact wfl W
theorem ok_any : CallOK G F (fun xs H Q => ∃ (p : Addr) (bs : List Bool),xs=[.ref p]∧SqL G.K H p (bs.map V.bl)∧Q (.bl (bs.any id)) H) anyD:=by
  intro ρ s ts vs H σv tv Q M W
  unfold anyD at W
  split at W
  · rename_i l ds
    cases e1 : boolsD ds with
    | none => rw [e1] at W; exact False.elim W
    | some bs =>
      rw [e1] at W
      obtain ⟨v,rfl,h,_⟩:=M.one
      obtain ⟨p,xs,rfl,s1,r1,_⟩:=h.lstq (ds:=ds) rfl
      rw [bools_rd r1 e1] at s1
      exact ⟨p,bs,rfl,s1,fun _ => W.flat M.m rfl⟩
  · exact wfl W
theorem ok_int : CallOK G F (fun xs H Q => (∃ i,xs=[.int i]∧Q (.int i) H)∨∃ k,xs=[.bl k]∧Q (.int (if k then 1 else 0)) H) intD:=by
  intro ρ s ts vs H σv tv Q M W
  unfold intD at W
  split at W
  · obtain ⟨v,rfl,h,_⟩:=M.one
    simp only [RD] at h
    subst h
    exact .inl ⟨_,rfl,fun _ => W.flat M.m rfl⟩
  · obtain ⟨v,rfl,h,_⟩:=M.one
    simp only [RD] at h
    subst h
    exact .inr ⟨_,rfl,fun _ => W.flat M.m rfl⟩
  · exact wfl W
theorem ok_tupF : CallOK G F (fun xs H Q => ∃ (p : Addr) (ys : List V),xs=[.ref p]∧(SqL G.K H p ys∨H p=some (.tup ys))∧NewX G.K H ys Q) tupF:=by
  intro ρ s ts vs H σv tv Q M W
  have fin : ∀ (t : D) (ds : List D),ts=[t]→seqD t=some ds→wM G F σv tv (.ok (.tup ds) s) Q→∃ (p : Addr) (ys : List V),vs=[.ref p]∧(SqL G.K H p ys∨H p=some (.tup ys))∧NewX G.K H ys (fun w H' => KD G.K H'→Q w H'):=fun t ds et es W' => by
    subst et
    obtain ⟨v,rfl,h,lb⟩:=M.one
    obtain ⟨p,xs,rfl,s1,r1,sub⟩:=h.seqx es
    exact ⟨p,xs,rfl,s1,out_newT W' M.m r1 fun l hl => lb l (sub l hl)⟩
  unfold tupF at W
  split at W
  · exact fin _ _ rfl rfl W
  · exact fin _ _ rfl rfl W
  · exact fin _ _ rfl rfl W
  · exact wfl W
theorem ok_listF : CallOK G F (fun xs H Q => ∃ p ys,xs=[.ref p]∧(SqL G.K H p ys∨SqT G.K H p ys)∧∀ l,H l=none→Q (.ref l) (upd H l (.lst ys))) listF:=by
  intro ρ s ts vs H σv tv Q M W
  have fin : ∀ (t : D) (ds : List D),ts=[t]→seqD t=some ds→wM G F σv tv (.ok (.lst s.n ds) s.nxt) Q→∃ p ys,vs=[.ref p]∧(SqL G.K H p ys∨SqT G.K H p ys)∧∀ l,H l=none→KD G.K (upd H l (.lst ys))→Q (.ref l) (upd H l (.lst ys)):=fun t ds et es W' => by
    subst et
    obtain ⟨v,rfl,h,lb⟩:=M.one
    obtain ⟨p,xs,rfl,s1,r1,sub⟩:=h.seq es
    exact ⟨p,xs,rfl,s1,fun l hl k => out_lst W' M.m r1 (fun l hl => lb l (sub l hl)) hl k⟩
  unfold listF at W
  split at W
  · exact fin _ _ rfl rfl W
  · exact fin _ _ rfl rfl W
  · exact fin _ _ rfl rfl W
  · exact wfl W
noncomputable def isiD (T : String) : D→Option Bool
  | .non => some false
  | .bool _ => some (T == "int" || T == "bool")
  | .int _ => some (T == "int")
  | .str _ => some (T == "str")
  | .tup _ => some (T == "tuple")
  | .ro _ => some (T == "list")
  | .lst _ _ => some (T == "list")
  | _ => none
noncomputable def mIsi (T : String) (m : M D) : M D:=bd m fun d => match isiD T d with | some b => rt (.bool b) | none => fl
theorem isi_rd {ρ : Nat→Addr} {H : Hp} {t : D} {v : V} {T : String} {b : Bool} (h : RD G ρ H t v) (e : isiD T t=some b) : isiV G.K H T b v:=by
  cases t <;> simp only [isiD,Option.some.injEq] at e <;> try cases e
  · simp only [RD] at h; subst h; exact rfl
  · simp only [RD] at h; subst h; exact rfl
  · simp only [RD] at h; subst h; exact rfl
  · simp only [RD] at h; subst h; exact rfl
  · obtain ⟨p,xs,rfl,s1,r1⟩:=h.tupq
    exact .inl ⟨xs,s1,rfl⟩
  · obtain ⟨p,xs,rfl,s1,r1,_⟩:=h.lstq rfl
    exact .inr ⟨xs,s1,rfl⟩
  · obtain ⟨p,xs,rfl,s1,r1,_⟩:=h.lstq rfl
    exact .inr ⟨xs,s1,rfl⟩
theorem se_isi {p : Pos} {x y : Expr} {T : String} {m : M D} (hk : X.K = G.K) (hT : T = "int" ∨ T = "bool" ∨ T = "tuple" ∨ T = "list" ∨ T = "str") (hgl : Gl X "isinstance") (hm : X.mg "isinstance" = none) (ha : SE X G F x m) (hy : PE X y (tC (.ty T)))
    (he : starEach [x, y] X.env = (false, eval x X.env) :: starEach [y] X.env := by rfl) (he2 : starEach [y] X.env = (false, eval y X.env) :: starEach [] X.env := by rfl) (hpl : (backTo pos (starEach [y] X.env)).any (·.1) = false := by rfl) : SE X G F (.Call (.Name "isinstance" p) [x, y] [] pos) (mIsi T m) := by
  refine PE.imp hk (pe_callB call_isi hgl hm PyProof.Rows.Boot.«isinstance» (pa_cons ha (pa_cons hy pa_nil he2) he) (by decide) (by decide) he hpl) fun σ H Q ⟨tv,h⟩ => ⟨tv,(tM_bd h).mono fun v H1 ⟨ρ1,s1,t,M1,W⟩ => ?_⟩
  cases e : isiD T t with
  | none => simp only [e] at W; exact False.elim W
  | some b =>
    simp only [e] at W
    rw [hk]
    exact ⟨v,T,b,rfl,hT,isi_rd M1.rd1 e,fun _ => W.flat M1.m rfl⟩
end
end Mi
namespace Mi
open PySem L2
inductive RS where
  | nx (s : Stt) | rt (d : D) (s : Stt) | bk (s : Stt) | ct (s : Stt) | ex (d : D) (s : Stt) | no
noncomputable abbrev MS:=Stt→RS
noncomputable def lift {α : Type} (m : M α) (f : α→MS) : MS:=fun s => match m s with
  | .ok a s' => f a s'
  | .ex d s' => .ex d s'
  | .no => .no
noncomputable def seqS (m m' : MS) : MS:=fun s => match m s with
  | .nx s' => m' s'
  | r => r
noncomputable def sNx : MS:=fun s => .nx s
noncomputable def sBk : MS:=fun s => .bk s
noncomputable def sCt : MS:=fun s => .ct s
noncomputable def sExpr (m : M D) : MS:=lift m fun _ => sNx
noncomputable def sRet (m : M D) : MS:=lift m fun d s => .rt d s
noncomputable def sRetN : MS:=fun s => .rt .non s
noncomputable def iteS (b : Bool) (m m' : MS) : MS:=match b with | true => m | false => m'
noncomputable def sIf (c : M Bool) (m m' : MS) : MS:=lift c fun b => iteS b m m'
inductive Tg where
  | nm (i : Nat) | tp (ts : List Tg)
mutual
noncomputable def asg : Tg→D→List (Option D)→Option (List (Option D))
  | .nm i,t,σ => some (σ.set i (some t))
  | .tp ts,.tup ds,σ => asgL ts ds σ
  | .tp _,_,_ => none
noncomputable def asgL : List Tg→List D→List (Option D)→Option (List (Option D))
  | [],[],σ => some σ
  | t :: ts,d :: ds,σ => match asg t d σ with | some σ' => asgL ts ds σ' | none => none
  | _,_,_ => none
end
noncomputable def sAsg (g : Tg) (m : M D) : MS:=lift m fun d s => match asg g d s.σ with
  | some σ' => .nx { s with σ:=σ' }
  | none => .no
section
variable {X : Cx} {G : Gx} {F : Fy} {e a b c : Expr} {st : Stmt} {sts rest : List Stmt} {pos : Pos}
noncomputable def wS (G : Gx) (F : Fy) (tv : List (Option V)) (r : RS) (D : Ends) : Prop:=match r with
  | .nx s' => ∀ ρ' σv' H',MR G F.toFx ρ' H' σv' tv s'→D.nx σv' H'
  | .rt t s' => ∀ ρ' σv' v H',MRL G F.toFx ρ' H' σv' tv s' [t] [v]→D.rt v H'
  | .bk s' => ∀ ρ' σv' H',MR G F.toFx ρ' H' σv' tv s'→D.bk σv' H'
  | .ct s' => ∀ ρ' σv' H',MR G F.toFx ρ' H' σv' tv s'→D.ct σv' H'
  | .ex d s' => F.xw d s'
  | .no => False
noncomputable def tSv (G : Gx) (F : Fy) (m : MS) (tv : List (Option V)) (D : Ends) (σv : St) (H : Hp) : Prop:=F.tv0 <:+ tv∧∃ ρ s,MR G F.toFx ρ H σv tv s∧wS G F tv (m s) D
noncomputable def tS (G : Gx) (F : Fy) (m : MS) : TS:=fun D σv H => ∃ tv,tSv G F m tv D σv H
noncomputable def SS (X : Cx) (G : Gx) (F : Fy) (st : Stmt) (m : MS) : Prop:=PS X st (tS G F m)
noncomputable def SSs (X : Cx) (G : Gx) (F : Fy) (sts : List Stmt) (m : MS) : Prop:=PSs X sts (tS G F m)
theorem PS.imp0 {t t' : TS} (h : PS X st t) (hi : ∀ D σ H,t' D σ H→t D σ H) : PS X st t':=fun pins s σ H D I q => h pins s σ H D I (hi D σ H q)
theorem PSs.imp0 {t t' : TS} (h : PSs X sts t) (hi : ∀ D σ H,t' D σ H→t D σ H) : PSs X sts t':=fun pins s σ H D I q => h pins s σ H D I (hi D σ H q)
theorem ss_nil : SSs X G F [] sNx:=PSs.imp0 pss_nil fun D σ H ⟨tv,hs,ρ,s,M,W⟩ => W ρ σ H M
theorem ss_cons {m m' : MS} (h1 : SS X G F st m) (h2 : SSs X G F rest m') : SSs X G F (st :: rest) (seqS m m'):=by
  refine PSs.imp0 (pss_cons h1 h2) fun D σ H ⟨tv,hs,ρ,s,M,W⟩ => ⟨tv,hs,ρ,s,M,?_⟩
  unfold seqS at W
  cases e : m s with
  | nx s' => rw [e] at W; exact fun ρ' σv' H' M' => ⟨tv,hs,ρ',s',M',W⟩
  | rt d s' => rw [e] at W; exact W
  | bk s' => rw [e] at W; exact W
  | ct s' => rw [e] at W; exact W
  | ex d s' => rw [e] at W; exact W
  | no => rw [e] at W; exact W
theorem ss_one {m : MS} (h1 : SS X G F st m) : SSs X G F [st] m:=pss_one h1
theorem lift_imp {m : M D} {f : D→MS} {tv : List (Option V)} {D : Ends} {σ : St} {H : Hp} (h : tSv G F (lift m f) tv D σ H) : tMv G F m σ tv H fun v H1 => ∃ ρ1 s1 t,MRL G F.toFx ρ1 H1 σ tv s1 [t] [v]∧wS G F tv (f t s1) D:=by
  obtain ⟨hs,ρ,s,M,W⟩:=h
  refine ⟨hs,ρ,s,M,?_⟩
  unfold lift at W
  cases e : m s with
  | ok t s1 => rw [e] at W; exact fun ρ1 v H1 M1 => ⟨ρ1,s1,t,M1,W⟩
  | ex d s1 => rw [e] at W; exact W
  | no => rw [e] at W; exact W
theorem liftB_imp {m : M Bool} {f : Bool→MS} {tv : List (Option V)} {D : Ends} {σ : St} {H : Hp} (h : tSv G F (lift m f) tv D σ H) : tBv G F m σ tv H fun b H1 => ∃ ρ1 s1,MR G F.toFx ρ1 H1 σ tv s1∧wS G F tv (f b s1) D:=by
  obtain ⟨hs,ρ,s,M,W⟩:=h
  refine ⟨hs,ρ,s,M,?_⟩
  unfold lift at W
  cases e : m s with
  | ok t s1 => rw [e] at W; exact fun ρ1 H1 M1 => ⟨ρ1,s1,M1,W⟩
  | ex d s1 => rw [e] at W; exact W
  | no => rw [e] at W; exact W
theorem ss_expr {m : M D} (he : SE X G F e m) (hs : swapsWith e none pos.line X.env=pure false:=by rfl) : SS X G F (.Expr e pos) (sExpr m) :=
  PS.imp0 (ps_expr he hs) fun D σ H ⟨tv,h⟩ => ⟨tv,(lift_imp h).mono fun v H1 ⟨ρ1,s1,t,M1,W⟩ => W ρ1 σ H1 M1.m⟩
theorem ss_ret {m : M D} (he : SE X G F e m) : SS X G F (.Return (some e) pos) (sRet m) :=
  PS.imp0 (ps_ret he) fun D σ H ⟨tv,h⟩ => ⟨tv,(lift_imp h).mono fun v H1 ⟨ρ1,s1,t,M1,W⟩ => W ρ1 σ v H1 M1⟩
theorem ss_if {x y : List Stmt} {mc : M Bool} {m m' : MS} (hc : SB X G F c mc) (ha : SSs X G F x m) (hb : SSs X G F y m') : SS X G F (.If c x y pos) (sIf mc m m'):=by
  refine PS.imp0 (ps_if hc ha hb) fun D σ H ⟨tv,h⟩ => ⟨tv,(liftB_imp h).mono fun k H1 ⟨ρ1,s1,M1,W⟩ => ?_⟩
  cases k with
  | true => rw [if_pos rfl]; exact ⟨tv,h.1,ρ1,s1,M1,W⟩
  | false => rw [if_neg Bool.false_ne_true]; exact ⟨tv,h.1,ρ1,s1,M1,W⟩
noncomputable def tGn (G : Gx) (F : Fy) (g : Tg) : TG:=fun v σv H Q => ∃ tv ρ s t,MRL G F.toFx ρ H σv tv s [t] [v]∧∃ σ',asg g t s.σ=some σ'∧∀ σv',MR G F.toFx ρ H σv' tv { s with σ:=σ' }→Q σv' H
noncomputable def tGs (G : Gx) (F : Fy) (g : List Tg) : TGs:=fun vs σv H Q => ∃ tv ρ s ts,MRL G F.toFx ρ H σv tv s ts vs∧∃ σ',asgL g ts s.σ=some σ'∧∀ σv',MR G F.toFx ρ H σv' tv { s with σ:=σ' }→Q σv' H
noncomputable def SG (X : Cx) (G : Gx) (F : Fy) (tg : Expr) (g : Tg) : Prop:=PG X tg (tGn G F g)
noncomputable def SGs (X : Cx) (G : Gx) (F : Fy) (tgs : List Expr) (g : List Tg) : Prop:=PGs X tgs (tGs G F g)
theorem MRL.setS {ρ : Nat→Addr} {H : Hp} {σv tv : List (Option V)} {s : Stt} {t : D} {v : V} {ts : List D} {vs : List V} (i : Nat) (M : MRL G F.toFx ρ H σv tv s (t :: ts) (v :: vs)) : MRL G F.toFx ρ H (σv.set i (some v)) tv { s with σ:=s.σ.set i (some t) } ts vs:=by
  have h:=M.rd
  simp only [RDs] at h
  obtain ⟨_,_,e,h1,h2⟩:=h
  cases e
  have lb1 : ∀ l∈labs t,l < s.n∧(F.A0 (ρ l)∨F.H0 (ρ l)=none):=fun l h => M.lb l (by simp only [labsL]; exact List.mem_append_left _ h)
  have all : ∀ l∈labsS { s with σ:=s.σ.set i (some t) },l < s.n∧(F.A0 (ρ l)∨F.H0 (ρ l)=none):=fun l h => by
    rcases List.mem_append.mp h with h | h
    · rcases labsO_set l h with q | q
      · exact ⟨M.m.lab l (List.mem_append_left _ q),M.m.own l (List.mem_append_left _ q)⟩
      · exact lb1 l q
    · exact ⟨M.m.lab l (List.mem_append_right _ h),M.m.own l (List.mem_append_right _ h)⟩
  exact ⟨⟨M.m.sl.set i h1,M.m.tm,M.m.inj,M.m.dom,fun l h => (all l h).1,fun l h => (all l h).2,M.m.frm,M.m.kd,M.m.frb,M.m.bas⟩,h2,fun l h => M.lb l (by simp only [labsL]; exact List.mem_append_right _ h)⟩
theorem sg_name {i : Nat} {x : Str} {p : Pos} (h : PG X (.Name x p) (gName i)) : SG X G F (.Name x p) (.nm i):=by
  intro pins s σ H v u Q I r ⟨tv,ρ,ms,t,M,σ',e,k⟩
  simp only [asg,Option.some.injEq] at e
  subst e
  exact h pins s σ H v u Q I r (k _ (M.setS i).m)
theorem sgs_nil : SGs X G F [] []:=by
  intro pins s σ H vs us Q I r ⟨tv,ρ,ms,ts,M,σ',e,k⟩
  cases ts with
  | nil =>
    simp only [asgL,Option.some.injEq] at e
    subst e
    have h:=M.rd
    simp only [RDs] at h
    exact pgs_nil pins s σ H vs us Q I r ⟨h,k _ M.m⟩
  | cons d ds => simp only [asgL] at e; cases e
theorem MRL.cons_inv {ρ : Nat→Addr} {H : Hp} {σv tv : List (Option V)} {s : Stt} {t : D} {ts : List D} {vs : List V} (M : MRL G F.toFx ρ H σv tv s (t :: ts) vs) : ∃ v r,vs=v :: r∧MRL G F.toFx ρ H σv tv s [t] [v]∧RDs G ρ H ts r∧LB F.toFx ρ s.n (labsL ts):=by
  have h:=M.rd
  simp only [RDs] at h
  obtain ⟨v,r,rfl,h1,h2⟩:=h
  exact ⟨v,r,rfl,⟨M.m,RDs.one h1,fun l h => M.lb l (by simp only [labsL,List.append_nil] at h ⊢; exact List.mem_append_left _ h)⟩,h2,fun l h => M.lb l (by simp only [labsL]; exact List.mem_append_right _ h)⟩
theorem PGs.imp0 {es : List Expr} {t t' : TGs} (h : PGs X es t) (hi : ∀ vs σ H Q,t' vs σ H Q→t vs σ H Q) : PGs X es t':=fun pins s σ H vs us Q I r q => h pins s σ H vs us Q I r (hi vs σ H Q q)
theorem PG.imp0 {t t' : TG} (h : PG X e t) (hi : ∀ v σ H Q,t' v σ H Q→t v σ H Q) : PG X e t':=fun pins s σ H v u Q I r q => h pins s σ H v u Q I r (hi v σ H Q q)
theorem sgs_cons {es : List Expr} {g : Tg} {gs : List Tg} (h1 : SG X G F e g) (h2 : SGs X G F es gs) (hs : (assignEach (e :: es) X.env).map (·.2)=assign e X.env :: (assignEach es X.env).map (·.2):=by rfl) : SGs X G F (e :: es) (g :: gs):=by
  refine PGs.imp0 (pgs_cons h1 h2 hs) fun vs σv H Q ⟨tv,ρ,s,ts,M,σ',e,k⟩ => ?_
  cases ts with
  | nil => simp only [asgL] at e; cases e
  | cons d ds =>
    simp only [asgL] at e
    cases e1 : asg g d s.σ with
    | none => rw [e1] at e; cases e
    | some σ1 =>
      rw [e1] at e
      obtain ⟨v,r,rfl,M1,h2,lb⟩:=M.cons_inv
      exact ⟨v,r,rfl,tv,ρ,s,d,M1,σ1,e1,fun σv1 M2 => ⟨tv,ρ,{ s with σ:=σ1 },ds,⟨M2,h2,lb⟩,σ',e,k⟩⟩
theorem sg_tup {es : List Expr} {k : Nat} {gs : List Tg} (hk : X.K=G.K) (hc : X.calm=true) (h : SGs X G F es gs) (hn : (assignEach es X.env).length=gs.length:=by rfl) (hst : (assignEach es X.env).findIdx? (·.1)=none:=by rfl) : SG X G F (.Tuple es k pos) (.tp gs):=by
  refine PG.imp0 (pg_tup hc h hn hst) fun v σv H Q ⟨tv,ρ,s,t,M,σ',e,kk⟩ => ?_
  cases t with
  | tup ds =>
    simp only [asg] at e
    obtain ⟨a,xs,rfl,sq,r⟩:=M.rd1.tupq
    have len : ∀ {gs : List Tg} {ds : List D} {σ σ' : List (Option D)},asgL gs ds σ=some σ'→ds.length=gs.length:=by
      intro gs
      induction gs with
      | nil => intro ds σ σ' e; cases ds with
        | nil => rfl
        | cons _ _ => simp only [asgL] at e; cases e
      | cons g gs ih => intro ds σ σ' e; cases ds with
        | nil => simp only [asgL] at e; cases e
        | cons d ds =>
          simp only [asgL] at e
          cases e1 : asg g d σ with
          | none => rw [e1] at e; cases e
          | some σ1 => rw [e1] at e; rw [List.length_cons,List.length_cons,ih e]
    refine ⟨a,xs,rfl,hk ▸ sq,by rw [← r.length]; exact len e,tv,ρ,s,ds,⟨M.m,r,fun l h => M.lb1 l (by simp only [labs]; exact h)⟩,σ',e,kk⟩
  | _ => simp only [asg] at e; cases e
theorem ss_asg {tg : Expr} {g : Tg} {m : M D} (he : SE X G F e m) (hg : SG X G F tg g) (hs : swapsWithSole [tg] e pos.line X.env=pure false:=by rfl) (hw : swappedStores [tg] e X.env=pure none:=by rfl)
    (h1 : (assignEach [tg] X.env).map (·.2)=[assign tg X.env]:=by rfl) : SS X G F (.Assign [tg] e pos) (sAsg g m):=by
  refine PS.imp0 (ps_asg he hg hs hw h1) fun D σ H ⟨tv,h⟩ => ⟨tv,(lift_imp h).mono fun v H1 ⟨ρ1,s1,t,M1,W⟩ => ?_⟩
  cases e : asg g t s1.σ with
  | none => simp only [e] at W; exact False.elim W
  | some σ' =>
    simp only [e] at W
    exact ⟨tv,ρ1,s1,t,M1,σ',e,fun σv' M2 => W ρ1 σv' H1 M2⟩
theorem ss_set {i : Nat} {x : Str} {p : Pos} {m : M D} (h : ∀ {te : TE},PE X e te→PS X (.Assign [.Name x p] e pos) (tAsg te (gName i))) (he : SE X G F e m) : SS X G F (.Assign [.Name x p] e pos) (sAsg (.nm i) m):=by
  refine PS.imp0 (h he) fun D σ H ⟨tv,h⟩ => ⟨tv,(lift_imp h).mono fun v H1 ⟨ρ1,s1,t,M1,W⟩ => ?_⟩
  simp only [asg] at W
  exact W ρ1 _ H1 (M1.setS i).m
noncomputable def whileGo (c : M Bool) (b : MS) : Nat→MS
  | 0 => fun _ => .no
  | f+1 => lift c fun k => iteS k (fun s => match b s with
      | .nx s' => whileGo c b f s'
      | .ct s' => whileGo c b f s'
      | .bk s' => .nx s'
      | .rt d s' => .rt d s'
      | .ex d s' => .ex d s'
      | .no => .no) sNx
noncomputable def sWhile (fuel : Stt→Nat) (c : M Bool) (b : MS) : MS:=fun s => whileGo c b (fuel s) s
theorem ss_while {body : List Stmt} {mc : M Bool} {mb : MS} {fuel : Stt→Nat} (hp : PassesOwn (model X.prog X.w) X.A X.env X.xe) (hc : SB X G F c mc) (hb : SSs X G F body mb) : SS X G F (.While c body [] pos) (sWhile fuel mc mb):=by
  refine PS.imp0 (ps_while hp hc hb) fun D σ H ⟨tv,hs,ρ,s,M,W⟩ => ?_
  refine ⟨fun m σ H => tSv G F (whileGo mc mb m) tv D σ H,⟨fuel s,hs,ρ,s,M,W⟩,fun m σ H h => ?_⟩
  cases m with
  | zero => obtain ⟨_,_,_,_,W⟩:=h; exact False.elim W
  | succ f =>
    refine ⟨tv,(liftB_imp h).mono fun k H1 ⟨ρ1,s1,M1,W1⟩ => ?_⟩
    cases k with
    | false => rw [if_neg Bool.false_ne_true]; exact W1 ρ1 σ H1 M1
    | true =>
      rw [if_pos rfl]
      refine ⟨fun σ' H' => tSv G F (whileGo mc mb f) tv D σ' H',fun σ' H' q => ⟨f,Nat.lt_succ_self _,q⟩,tv,hs,ρ1,s1,M1,?_⟩
      simp only [iteS] at W1
      cases e : mb s1 with
      | nx s' => rw [e] at W1; exact fun ρ' σv' H' M' => ⟨hs,ρ',s',M',W1⟩
      | ct s' => rw [e] at W1; exact fun ρ' σv' H' M' => ⟨hs,ρ',s',M',W1⟩
      | bk s' => rw [e] at W1; exact W1
      | rt d s' => rw [e] at W1; exact W1
      | ex d s' => rw [e] at W1; exact W1
      | no => rw [e] at W1; exact W1
end
end Mi
namespace L2
open PySem PySem.Spec PyProof.Rows
noncomputable abbrev testsOf (ifs : List Expr) (env : Env) : Sem Bool:=forIn ifs true fun c r => if r=true then do let ok ← isTrue c env (eval c env); pure (ForInStep.yield ok) else pure (ForInStep.yield r)
theorem codeAny_compLoop_go2 {prog : Program} {w : World} {A : Around} {R : Result→Shared→Prop} {s : Shared} {elt target iter : Expr} {ifs : List Expr} {scope : Scope} {pos : Pos} {it acc : Value} {env : Env} (I : Nat→Shared→Prop)
    (turn : ∀ n s,I n s→wpAny (model prog w) A (pyNext it) (fun r s₁ => match r with
      | none => R (.ok .next) s₁
      | some v => wpAny (model prog w) A (letOwnedTupleGo target it v) (fun _ s₁ => wpAny (model prog w) A (assign target env v) (fun _ s₂ => wpAny (model prog w) A (testsOf ifs env) (fun ok s₃ =>
          if ok=true then wpAny (model prog w) A (eval elt env) (fun x s₃ =>
          wpAny (model prog w) A (call (.builtin "list.append") [acc, x]) (fun _ s₄ => ∃ m, m < n ∧ I m s₄) (fun _ _ => False) s₃)
          (fun _ _ => False) s₃ else ∃ m,m < n∧I m s₃) (fun _ _ => False) s₂) (fun _ _ => False) s₁) (fun _ _ => False) s₁) (fun _ _ => False) s)
    (n : Nat) (h : I n s) :
    codeAny (model prog w) A (.compLoop (.ListComp elt [⟨target,iter,ifs,0⟩] scope pos) 0 it acc env) R s:=by
  refine codeAny_loop rfl I (fun n s hI => ?_) n h
  show wpAny _ _ ((compTurn (.ListComp elt [⟨target,iter,ifs,0⟩] scope pos) 0 it acc env).onRaise (fun x => do noteFrame x env; theTreesLotGoes x)) _ _ s
  refine wpAny_noted ?_
  rw [compTurn_list]
  refine wpAny_bind (wpAny_standAt (wpAny_bind (wpAny_mono (turn n s hI) (fun r s₁ h₁ => ?_) fun _ _ h' => h'.elim)))
  cases r with
  | none => exact wpAny_pure h₁
  | some v =>
    refine wpAny_bind (wpAny_mono h₁ (fun _ s₁ h₁ => ?_) fun _ _ h' => h'.elim)
    refine wpAny_bind (wpAny_mono h₁ (fun _ s₂ h₂ => wpAny_bind (wpAny_mono h₂ (fun ok s₃ h₃ => ?_) fun _ _ h' => h'.elim)) fun _ _ h' => h'.elim)
    cases ok with
    | false => exact wpAny_pure ⟨rfl,h₃⟩
    | true =>
      exact wpAny_bind (wpAny_bind (wpAny_mono h₃ (fun x s₄ h₄ => wpAny_bind (wpAny_mono h₄ (fun _ s₅ h₅ => wpAny_pure (wpAny_pure ⟨rfl,h₅⟩)) fun _ _ h' => h'.elim)) fun _ _ h' => h'.elim))
noncomputable def PTs (X : Cx) (ifs : List Expr) (t : TT) : Prop :=
  ∀ (pins : List (Addr×Obj)) (s : Shared) (σ : St) (H : Hp) (Q : Bool→Hp→Prop),Inv X pins σ H s→t σ H Q→wpAny (model X.prog X.w) X.A (testsOf ifs X.env) (TP X pins σ Q) X.xe s
theorem pts_nil {X : Cx} : PTs X [] (fun _ H Q => Q true H):=fun pins s σ H Q I h => wpAny_tests_nil ⟨H,I,h⟩
section
variable {X : Cx} {tg iter elt : Expr} {ifs : List Expr} {pos : Pos} {scope : Scope} {own frees : List Str} {ix : List Nat} {wi : TI} {g : TG} {tt : TT} {te : TE}
noncomputable def tComp2 (K : PySem.W.Frag) (wi : TI) (g : TG) (tt : TT) (te : TE) (k : Nat) (ix : List Nat) : TE:=fun σ H Q => wi σ H fun J H1 => ∀ D,H1 D=none→(∀ a o,K.lookup a=some o→upd H1 D (.lst []) a=none) →
  ∃ W : Nat→Nat→List V→St→Hp→Prop,(∃ m,W 0 m [] (compSt k ix σ) (upd H1 D (.lst []))) ∧
    ∀ i m ys σ' H',W i m ys σ' H'→H' D=some (.lst ys)∧((J.stop i H'∧Q (.ref D) H') ∨
      (J.go i H'∧∀ x H2,J.yld i H' x H2→g x σ' H2 fun σ2 H3 => tt σ2 H3 fun ok H3 => if ok=true then te σ2 H3 fun y H4 => H4 D=some (.lst ys)∧ys.length < sizeLine∧∃ m',m' < m∧W (i+1) m' (ys++[y]) σ2 (upd H4 D (.lst (ys++[y])))
        else ∃ m',m' < m∧W (i+1) m' ys σ2 H3))
theorem pe_lcomp2 (hc : X.calm=true) (S : CompScope X.env.scope scope own frees X.N ix) (hi : PI X tg iter wi)
    (hg : ∀ cl C s₀ H₀ fp pn,PG (compCx X scope own frees cl C s₀ H₀ fp pn) tg g) (ht : ∀ cl C s₀ H₀ fp pn,PTs (compCx X scope own frees cl C s₀ H₀ fp pn) ifs tt) (he : ∀ cl C s₀ H₀ fp pn,PE (compCx X scope own frees cl C s₀ H₀ fp pn) elt te)
    (hs : ∀ x,foldedSetIterable iter X.env x=pure x:=by intro _; rfl) :
    PE X (.ListComp elt [⟨tg,iter,ifs,0⟩] scope pos) (tComp2 X.K wi g tt te own.length ix):=by
  intro pins s σ H Q I h
  have hclos : closureFor scope X.env=pure (closL X.env scope.names []):=closureFor_eq fun y hy e => I.ok.has y.1 (S.fr y hy e)
  rw [eval_ListComp]
  refine wpAny_comprehension_free (use:=none) rfl hs hclos S.kind S.names (thn (hi pins s σ H _ I h) fun v s1 h1 => thn h1 fun itv s2 h2 => ?_)
  obtain ⟨it,fp,tn,J,H2,e,I2,T,st2,f2,hD⟩:=h2
  subst e
  refine wpAny_newObj_type ?_
  have I3 : Inv X pins σ (upd H2 s2.heap.objs.size (.lst [])) { s2 with heap := s2.heap.push { cls := .type "list", data := .seq ([] : List Value).toArray } } := I2.lnew (t' := s2.toks) .nil (Nat.zero_le _)
  have nD : H2 s2.heap.objs.size=none:=I2.fresh
  obtain ⟨W,⟨m0,w0⟩,turn⟩:=hD _ nD fun a o e => (I3.bs a o (I3.ok.mod.kin a o e)).2
  have fpl : ∀ b∈fp,b < s2.heap.objs.size:=fun b z => by
    obtain ⟨o,q,_⟩:=T.obj _ _ st2 b z
    exact Heap.lt_size q
  generalize hs3 : ({ s2 with heap := s2.heap.push { cls := .type "list", data := .seq ([] : List Value).toArray } } : Shared) = s3 at I3
  have hpush : ∀ b o,s2.heap.get? b=some o→s3.heap.get? b=some o:=fun b o q => by rw [← hs3]; exact Heap.get?_push_of_some _ q
  have hsz3 : s2.heap.objs.size < s3.heap.objs.size:=by rw [← hs3]; show _ < (s2.heap.push _).objs.size; rw [Heap.size_push]; exact Nat.lt_succ_self _
  have f3 : ∀ b∈fp,FpOk X pins (upd H2 s2.heap.objs.size (.lst [])) b:=fun b z => ⟨by rw [upd_ne (Nat.ne_of_lt (fpl b z))]; exact (f2 b z).1,(f2 b z).2⟩
  have st3 : tn 0 s3.heap:=T.keep _ _ _ st2 fun b _ o q => hpush b o q
  generalize hDd : s2.heap.objs.size=D at *
  generalize hH3 : upd H2 D (.lst [])=H3 at *
  have goal : wpAny (model X.prog X.w) X.A (newFunctionEnv scope X.env.globals (closL X.env scope.names []) [] X.env.qual none .none (some X.env)) (fun cenv s₄ =>
      codeAny (model X.prog X.w) X.A (.compStart (.ListComp elt [⟨tg,iter,ifs,0⟩] scope pos) 0 (.ref it) (.ref D) { cenv with scope:=relabel scope X.env }) (compPost (model X.prog X.w) X.A X.xe none (EP X pins σ Q) (.ref D) cenv.locals) s₄) X.xe s3:=by
    refine wpAny_newFunctionEnv S.nocell (by intro y hy; simp at hy) (fun h1 hns hsb => ?_) S.kind
    have hns : h1.Ns s3.heap.objs.size (fun _ => none):=hns
    have keep4 : ∀ b o,s3.heap.get? b=some o→h1.get? b=some o:=fun b o q => hsb.extBut b o (Nat.ne_of_lt (Heap.lt_size q)) (Heap.get?_push_of_some _ q)
    have fpl3 : ∀ b∈fp,b < s3.heap.objs.size:=fun b z => Nat.lt_trans (fpl b z) hsz3
    generalize hs4 : ({ s3 with heap:=h1,toks:=s3.toks+([] : List (Str×Value)).length } : Shared)=s4
    have I4 : Inv (compCx X scope own frees (closL X.env scope.names []) s3.heap.objs.size s3 H3 fp (X.pn++pins)) [] (compSt own.length ix σ) H3 s4 :=
      comp_start S I3 f3 fpl3 (by rw [← hs4]) (by rw [← hs4]) (fun b o q => by rw [← hs4]; exact keep4 b o q) (by rw [← hs4]; exact hns)
    have st4 : tn 0 s4.heap:=T.keep _ _ _ st3 fun b _ o q => by rw [← hs4]; exact keep4 b o q
    generalize hXc : compCx X scope own frees (closL X.env scope.names []) s3.heap.objs.size s3 H3 fp (X.pn++pins)=Y at I4
    have eP : Y.prog=X.prog:=by rw [← hXc]; rfl
    have eW : Y.w=X.w:=by rw [← hXc]; rfl
    have eK : Y.K=X.K:=by rw [← hXc]; rfl
    have eA : Y.A=X.A:=by rw [← hXc]; rfl
    have eC : Y.calm=true:=by rw [← hXc]; exact hc
    have eE : Y.env=compEnvC scope (closL X.env scope.names []) s3.heap.objs.size X.env:=by rw [← hXc]; rfl
    have eX : Y.xe=fun _ _ => False:=by rw [← hXc]; rfl
    have eF : ∀ {H' : Hp},(∀ b∈fp,H' b=none)→∀ b∈fp,FpOk Y [] H' b:=fun {H'} hn b hb => by
      rw [← hXc]
      obtain ⟨g1,g2,g3,g4,g5,g6⟩:=f3 b hb
      refine ⟨hn b hb,Nat.ne_of_lt (fpl3 b hb),fun q => ?_,.inl hb,fun x c e => ?_,fun p hp => ?_⟩
      · rcases List.mem_cons.mp (I3.stkSub b q) with r | r
        · exact g2 r
        · exact g3 r
      · rcases closL_of _ _ e with q | q
        · exact nomatch q
        · exact g5 x c q.1
      · have hp : p∈(X.pn++pins)++[]:=hp
        rw [List.append_nil] at hp
        exact g6 p hp
    have gY : PG Y tg g:=by rw [← hXc]; exact hg _ _ _ _ _ _
    have tY : PE Y elt te:=by rw [← hXc]; exact he _ _ _ _ _ _
    have sY : PTs Y ifs tt:=by rw [← hXc]; exact ht _ _ _ _ _ _
    have loop : codeAny (model X.prog X.w) X.A (.compLoop (.ListComp elt [⟨tg,iter,ifs,0⟩] scope pos) 0 (.ref it) (.ref D) (compEnvC scope (closL X.env scope.names []) s3.heap.objs.size X.env))
        (compPost (model X.prog X.w) X.A X.xe none (EP X pins σ Q) (.ref D) s3.heap.objs.size) s4:=by
      refine codeAny_compLoop_go2 (fun n s' => ∃ i ys σ' H',Inv Y [] σ' H' s'∧tn i s'.heap∧(∀ b∈fp,H' b=none)∧W i n ys σ' H') ?_ m0 ⟨0,[],_,_,I4,st4,fun b hb => (f3 b hb).1,w0⟩
      rintro n s5 ⟨i,ys,σ5,H5,I5,st5,fr5,w5⟩
      obtain ⟨hD5,alt⟩:=turn i n ys σ5 H5 w5
      rcases alt with ⟨stop,qn⟩ | ⟨go,step⟩
      · have d:=T.done Y eP eW eK eC i [] s5 σ5 H5 (fun _ _ => False) I5 (eF fr5) st5 stop
        rw [eA] at d
        refine thn d fun r s6 ⟨hr,I6⟩ => ?_
        subst hr
        subst hXc
        obtain ⟨m6,n6,_⟩:=I6.loc
        exact ⟨m6,n6,fun h'' hs'' => ⟨.ref D,H5,comp_end I3 f3 (Nat.le_refl _) I6 hs'',rfl,qn⟩⟩
      · have d:=T.item Y eP eW eK eC i [] s5 σ5 H5 (fun _ _ => False) I5 (eF fr5) st5 go
        rw [eA] at d
        refine thn d fun r s6 ⟨u,hr,h6⟩ => ?_
        subst hr
        refine thn h6 fun _ s7 ⟨x,H7,I7,r7,y7,st7,fr7⟩ => ?_
        have I7':=I7.pinned (eF fr7) (T.obj _ _ st7)
        have e1:=gY _ s7 σ5 H7 x u _ I7' r7 (step x H7 y7)
        rw [eP,eW,eA,eE,eX] at e1
        refine thn e1 fun _ s8 ⟨σ8,H8,I8,q8⟩ => ?_
        have e1':=sY _ s8 σ8 H8 _ I8 q8
        rw [eP,eW,eA,eE,eX] at e1'
        refine thn e1' fun ok s8 ⟨H8,I8,q8⟩ => ?_
        cases ok with
        | false =>
          rw [if_neg Bool.false_ne_true] at q8 ⊢
          obtain ⟨m',hm',w9⟩:=q8
          refine ⟨m',hm',i+1,_,σ8,_,I8.unpinned,T.keep _ _ _ st7 fun b hb o e => ?_,fun b hb => ?_,w9⟩
          · exact (I8.pin (b,o) (List.mem_append_right _ (List.mem_append_right _ (mem_pinsAt hb e)))).1
          · obtain ⟨o,e,d⟩:=T.obj _ _ st7 b hb
            exact (I8.pin (b,o) (List.mem_append_right _ (List.mem_append_right _ (mem_pinsAt hb e)))).2.1
        | true =>
        rw [if_pos rfl] at q8 ⊢
        have e2:=tY _ s8 σ8 H8 _ I8 q8
        rw [eP,eW,eA,eE,eX] at e2
        refine thn e2 fun yv s9 ⟨y,H9,I9,r9,hD9,hz9,m',hm',w9⟩ => ?_
        have e3:=mt_append (X:=Y) _ s9 σ8 H9 (.ref D) [y] (.ref D) [yv] (fun v H' => v=.non∧H'=upd H9 D (.lst (ys++[y]))) I9 rfl (.cons r9 .nil) ⟨D,ys,y,rfl,rfl,hD9,hz9,rfl,rfl⟩
        rw [eP,eW,eA,eX] at e3
        refine thn e3 fun _ s10 ⟨v10,H10,I10,r10,_,e10⟩ => ?_
        subst e10
        refine ⟨m',hm',i+1,_,σ8,_,I10.unpinned,T.keep _ _ _ st7 fun b hb o e => ?_,fun b hb => ?_,w9⟩
        · exact (I10.pin (b,o) (List.mem_append_right _ (List.mem_append_right _ (mem_pinsAt hb e)))).1
        · obtain ⟨o,e,d⟩:=T.obj _ _ st7 b hb
          exact (I10.pin (b,o) (List.mem_append_right _ (List.mem_append_right _ (mem_pinsAt hb e)))).2.1
    exact codeAny_compStart_list loop (T.self _ 0 _ _ _ st4 loop)
  exact goal
theorem ps_lcompN {y : Str} {py spos : Pos} {i : Nat} (hN : X.N.Nodup) (hy : X.N[i]?=some y) (hx : Loc X.env.scope y) (hfn : X.fn y=true∨X.env.scope.names.lookup y=some .local) (hsw : swapsWith (.ListComp elt [⟨tg,iter,ifs,0⟩] scope pos) (some (.Name y py)) spos.line X.env=pure true) (hc : X.calm=true) (S : CompScope X.env.scope scope own frees X.N ix) (hi : PI X tg iter wi)
    (hg : ∀ cl C s₀ H₀ fp pn,PG (compCx X scope own frees cl C s₀ H₀ fp pn) tg g) (ht : ∀ cl C s₀ H₀ fp pn,PTs (compCx X scope own frees cl C s₀ H₀ fp pn) ifs tt) (he : ∀ cl C s₀ H₀ fp pn,PE (compCx X scope own frees cl C s₀ H₀ fp pn) elt te)
    (hs : ∀ x,foldedSetIterable iter X.env x=pure x:=by intro _; rfl) :
    PS X (.Assign [.Name y py] (.ListComp elt [⟨tg,iter,ifs,0⟩] scope pos) spos) (fun Dd σ H => tComp2 X.K wi g tt te own.length ix σ H fun v H' => Dd.nx (σ.set i (some v)) H'):=by
  intro pins s σ H Dd I h
  have hclos : closureFor scope X.env=pure (closL X.env scope.names []):=closureFor_eq fun y hy e => I.ok.has y.1 (S.fr y hy e)
  rw [exec_Assign_Name_used _ _ _ _ hsw]
  refine wpAny_bind (wpAny_standAt (wpAny_bind ?_))
  show wpAny _ X.A (do let _ ← comprehension (.ListComp elt [⟨tg,iter,ifs,0⟩] scope pos) scope X.env _ (newList []) false (eval iter X.env) (some (assign (.Name y py) X.env))) _ _ s
  refine wpAny_bind (wpAny_mono (wpAny_comprehension_free (use:=some (assign (.Name y py) X.env)) (Q:=fun _ s' => SP X pins Dd .next s') rfl hs hclos S.kind S.names (thn (hi pins s σ H _ I h) fun v s1 h1 => thn h1 fun itv s2 h2 => ?_)) (fun _ s' hq => wpAny_pure (wpAny_pure hq)) fun _ _ e => e)
  obtain ⟨it,fp,tn,J,H2,e,I2,T,st2,f2,hD⟩:=h2
  subst e
  refine wpAny_newObj_type ?_
  have I3 : Inv X pins σ (upd H2 s2.heap.objs.size (.lst [])) { s2 with heap := s2.heap.push { cls := .type "list", data := .seq ([] : List Value).toArray } } := I2.lnew (t' := s2.toks) .nil (Nat.zero_le _)
  have nD : H2 s2.heap.objs.size=none:=I2.fresh
  obtain ⟨W,⟨m0,w0⟩,turn⟩:=hD _ nD fun a o e => (I3.bs a o (I3.ok.mod.kin a o e)).2
  have fpl : ∀ b∈fp,b < s2.heap.objs.size:=fun b z => by
    obtain ⟨o,q,_⟩:=T.obj _ _ st2 b z
    exact Heap.lt_size q
  generalize hs3 : ({ s2 with heap := s2.heap.push { cls := .type "list", data := .seq ([] : List Value).toArray } } : Shared) = s3 at I3
  have hpush : ∀ b o,s2.heap.get? b=some o→s3.heap.get? b=some o:=fun b o q => by rw [← hs3]; exact Heap.get?_push_of_some _ q
  have hsz3 : s2.heap.objs.size < s3.heap.objs.size:=by rw [← hs3]; show _ < (s2.heap.push _).objs.size; rw [Heap.size_push]; exact Nat.lt_succ_self _
  have f3 : ∀ b∈fp,FpOk X pins (upd H2 s2.heap.objs.size (.lst [])) b:=fun b z => ⟨by rw [upd_ne (Nat.ne_of_lt (fpl b z))]; exact (f2 b z).1,(f2 b z).2⟩
  have st3 : tn 0 s3.heap:=T.keep _ _ _ st2 fun b _ o q => hpush b o q
  generalize hDd : s2.heap.objs.size=D at *
  generalize hH3 : upd H2 D (.lst [])=H3 at *
  have goal : wpAny (model X.prog X.w) X.A (newFunctionEnv scope X.env.globals (closL X.env scope.names []) [] X.env.qual none .none (some X.env)) (fun cenv s₄ =>
      codeAny (model X.prog X.w) X.A (.compStart (.ListComp elt [⟨tg,iter,ifs,0⟩] scope pos) 0 (.ref it) (.ref D) { cenv with scope:=relabel scope X.env }) (compPost (model X.prog X.w) X.A X.xe (some (assign (.Name y py) X.env)) (fun _ s' => SP X pins Dd .next s') (.ref D) cenv.locals) s₄) X.xe s3:=by
    refine wpAny_newFunctionEnv S.nocell (by intro y hy; simp at hy) (fun h1 hns hsb => ?_) S.kind
    have hns : h1.Ns s3.heap.objs.size (fun _ => none):=hns
    have keep4 : ∀ b o,s3.heap.get? b=some o→h1.get? b=some o:=fun b o q => hsb.extBut b o (Nat.ne_of_lt (Heap.lt_size q)) (Heap.get?_push_of_some _ q)
    have fpl3 : ∀ b∈fp,b < s3.heap.objs.size:=fun b z => Nat.lt_trans (fpl b z) hsz3
    generalize hs4 : ({ s3 with heap:=h1,toks:=s3.toks+([] : List (Str×Value)).length } : Shared)=s4
    have I4 : Inv (compCx X scope own frees (closL X.env scope.names []) s3.heap.objs.size s3 H3 fp (X.pn++pins)) [] (compSt own.length ix σ) H3 s4 :=
      comp_start S I3 f3 fpl3 (by rw [← hs4]) (by rw [← hs4]) (fun b o q => by rw [← hs4]; exact keep4 b o q) (by rw [← hs4]; exact hns)
    have st4 : tn 0 s4.heap:=T.keep _ _ _ st3 fun b _ o q => by rw [← hs4]; exact keep4 b o q
    generalize hXc : compCx X scope own frees (closL X.env scope.names []) s3.heap.objs.size s3 H3 fp (X.pn++pins)=Y at I4
    have eP : Y.prog=X.prog:=by rw [← hXc]; rfl
    have eW : Y.w=X.w:=by rw [← hXc]; rfl
    have eK : Y.K=X.K:=by rw [← hXc]; rfl
    have eA : Y.A=X.A:=by rw [← hXc]; rfl
    have eC : Y.calm=true:=by rw [← hXc]; exact hc
    have eE : Y.env=compEnvC scope (closL X.env scope.names []) s3.heap.objs.size X.env:=by rw [← hXc]; rfl
    have eX : Y.xe=fun _ _ => False:=by rw [← hXc]; rfl
    have eF : ∀ {H' : Hp},(∀ b∈fp,H' b=none)→∀ b∈fp,FpOk Y [] H' b:=fun {H'} hn b hb => by
      rw [← hXc]
      obtain ⟨g1,g2,g3,g4,g5,g6⟩:=f3 b hb
      refine ⟨hn b hb,Nat.ne_of_lt (fpl3 b hb),fun q => ?_,.inl hb,fun x c e => ?_,fun p hp => ?_⟩
      · rcases List.mem_cons.mp (I3.stkSub b q) with r | r
        · exact g2 r
        · exact g3 r
      · rcases closL_of _ _ e with q | q
        · exact nomatch q
        · exact g5 x c q.1
      · have hp : p∈(X.pn++pins)++[]:=hp
        rw [List.append_nil] at hp
        exact g6 p hp
    have gY : PG Y tg g:=by rw [← hXc]; exact hg _ _ _ _ _ _
    have tY : PE Y elt te:=by rw [← hXc]; exact he _ _ _ _ _ _
    have sY : PTs Y ifs tt:=by rw [← hXc]; exact ht _ _ _ _ _ _
    have loop : codeAny (model X.prog X.w) X.A (.compLoop (.ListComp elt [⟨tg,iter,ifs,0⟩] scope pos) 0 (.ref it) (.ref D) (compEnvC scope (closL X.env scope.names []) s3.heap.objs.size X.env))
        (compPost (model X.prog X.w) X.A X.xe (some (assign (.Name y py) X.env)) (fun _ s' => SP X pins Dd .next s') (.ref D) s3.heap.objs.size) s4:=by
      refine codeAny_compLoop_go2 (fun n s' => ∃ i ys σ' H',Inv Y [] σ' H' s'∧tn i s'.heap∧(∀ b∈fp,H' b=none)∧W i n ys σ' H') ?_ m0 ⟨0,[],_,_,I4,st4,fun b hb => (f3 b hb).1,w0⟩
      rintro n s5 ⟨i,ys,σ5,H5,I5,st5,fr5,w5⟩
      obtain ⟨hD5,alt⟩:=turn i n ys σ5 H5 w5
      rcases alt with ⟨stop,qn⟩ | ⟨go,step⟩
      · have d:=T.done Y eP eW eK eC i [] s5 σ5 H5 (fun _ _ => False) I5 (eF fr5) st5 stop
        rw [eA] at d
        refine thn d fun r s6 ⟨hr,I6⟩ => ?_
        subst hr
        subst hXc
        obtain ⟨m6,n6,_⟩:=I6.loc
        have n6 : s6.heap.Ns s3.heap.objs.size m6:=n6
        have I7 : Inv X pins σ H5 s6:=comp_end (h':=s6.heap) I3 f3 (Nat.le_refl _) I6 (Heap.SameBut.refl _ _)
        have fC : FpOk X pins H5 s3.heap.objs.size:=I3.fpOk (Nat.le_refl _) I6.free
        obtain ⟨oC,eC,dC⟩ : ∃ o,s6.heap.get? s3.heap.objs.size=some o∧∀ v,o.data≠.cell v:=by
          obtain ⟨o,es,ep,e1,e2,e3⟩:=n6
          exact ⟨o,e1,fun v z => by simp_all⟩
        have I8:=I7.pinned (fp:=[s3.heap.objs.size]) (fun b hb => by
          have e : b=s3.heap.objs.size:=by simpa using hb
          rw [e]; exact fC) (fun b hb => by
          have e : b=s3.heap.objs.size:=by simpa using hb
          rw [e]; exact ⟨oC,eC,dC⟩)
        show wpAny _ _ (assign (.Name y py) X.env (.ref D)) _ _ s6
        refine wpAny_assign_Name (store_ok (v:=.ref D) I8 hN hy hx rfl (fun s7 I9 => ?_) hfn)
        have e7 : s7.heap.get? s3.heap.objs.size=some oC:=(I9.pin (s3.heap.objs.size,oC) (List.mem_append_right _ (List.mem_append_right _ (mem_pinsAt (by simp) eC)))).1
        refine ⟨m6,n6.at' fun o e => by rw [eC] at e; cases e; exact e7,fun h3 hs3 => ⟨_,H5,?_,qn⟩⟩
        exact I9.unpinned.turned (t':=s7.toks) (fun b o hb e => (hs3.2 b hb).trans e) fC.1 fC.2.1 fC.2.2.2.1 fC.2.2.2.2.1 fC.2.2.2.2.2
      · have d:=T.item Y eP eW eK eC i [] s5 σ5 H5 (fun _ _ => False) I5 (eF fr5) st5 go
        rw [eA] at d
        refine thn d fun r s6 ⟨u,hr,h6⟩ => ?_
        subst hr
        refine thn h6 fun _ s7 ⟨x,H7,I7,r7,y7,st7,fr7⟩ => ?_
        have I7':=I7.pinned (eF fr7) (T.obj _ _ st7)
        have e1:=gY _ s7 σ5 H7 x u _ I7' r7 (step x H7 y7)
        rw [eP,eW,eA,eE,eX] at e1
        refine thn e1 fun _ s8 ⟨σ8,H8,I8,q8⟩ => ?_
        have e1':=sY _ s8 σ8 H8 _ I8 q8
        rw [eP,eW,eA,eE,eX] at e1'
        refine thn e1' fun ok s8 ⟨H8,I8,q8⟩ => ?_
        cases ok with
        | false =>
          rw [if_neg Bool.false_ne_true] at q8 ⊢
          obtain ⟨m',hm',w9⟩:=q8
          refine ⟨m',hm',i+1,_,σ8,_,I8.unpinned,T.keep _ _ _ st7 fun b hb o e => ?_,fun b hb => ?_,w9⟩
          · exact (I8.pin (b,o) (List.mem_append_right _ (List.mem_append_right _ (mem_pinsAt hb e)))).1
          · obtain ⟨o,e,d⟩:=T.obj _ _ st7 b hb
            exact (I8.pin (b,o) (List.mem_append_right _ (List.mem_append_right _ (mem_pinsAt hb e)))).2.1
        | true =>
        rw [if_pos rfl] at q8 ⊢
        have e2:=tY _ s8 σ8 H8 _ I8 q8
        rw [eP,eW,eA,eE,eX] at e2
        refine thn e2 fun yv s9 ⟨y,H9,I9,r9,hD9,hz9,m',hm',w9⟩ => ?_
        have e3:=mt_append (X:=Y) _ s9 σ8 H9 (.ref D) [y] (.ref D) [yv] (fun v H' => v=.non∧H'=upd H9 D (.lst (ys++[y]))) I9 rfl (.cons r9 .nil) ⟨D,ys,y,rfl,rfl,hD9,hz9,rfl,rfl⟩
        rw [eP,eW,eA,eX] at e3
        refine thn e3 fun _ s10 ⟨v10,H10,I10,r10,_,e10⟩ => ?_
        subst e10
        refine ⟨m',hm',i+1,_,σ8,_,I10.unpinned,T.keep _ _ _ st7 fun b hb o e => ?_,fun b hb => ?_,w9⟩
        · exact (I10.pin (b,o) (List.mem_append_right _ (List.mem_append_right _ (mem_pinsAt hb e)))).1
        · obtain ⟨o,e,d⟩:=T.obj _ _ st7 b hb
          exact (I10.pin (b,o) (List.mem_append_right _ (List.mem_append_right _ (mem_pinsAt hb e)))).2.1
    exact codeAny_compStart_list loop (T.self _ 0 _ _ _ st4 loop)
  exact goal
end
end L2
namespace L2
open PySem PySem.Spec PyProof.Rows
structure CompScopeC (osc sc : Scope) (own frees N : List Str) (ix : List Nat) : Prop where
  kind : sc.kind=.function
  names : ∀ y∈sc.names,y.2=.local→sc.names.lookup y.1=some .local
  fr : ∀ y∈sc.names,y.2=.free→osc.names.lookup y.1=some .cell∨osc.names.lookup y.1=some .free
  nd : (own++frees).Nodup
  frl : ∀ x∈frees,sc.names.lookup x=some .free
  ixs : ix.map (fun i => N[i]?)=frees.map some
  frc : ∀ y∈sc.names,y.2=.cell→y.1 ∉ frees
  owf : ∀ y∈sc.names,y.2=.free→y.1 ∉ own
section
variable {X : Cx} {tg iter elt : Expr} {ifs : List Expr} {pos : Pos} {scope : Scope} {own frees : List Str} {ix : List Nat} {wi : TI} {g : TG} {tt : TT} {te : TE}
end
end L2
namespace L2
open PySem PySem.Spec PyProof.Rows
section
variable {X : Cx}
end
end L2
namespace L2
open PySem PySem.Spec PyProof.Rows
section
variable {X : Cx}
end
end L2
namespace L2
open PySem PySem.Spec PyProof.Rows
section
variable {prog : Program} {w : World} {A : Around} {E : Value→Shared→Prop} {s : Shared}
end
section
variable {X : Cx}
end
end L2
namespace L2
open PySem PySem.Spec PyProof.Rows
section
variable {X : Cx} {a b : Expr} {rest : List Expr} {pos : Pos} {ta tb : TE}
end
end L2
namespace Mi
open PySem L2
structure ItK where
  k : Nat
  at' : Nat→List (Option D)→Option (Option D)
  len : List (Option D)→Nat
noncomputable def lstAt (i : Nat) : List (Option D)→Option (Option D)
  | some c :: _ => (lstD c).map fun ds => ds[i]?
  | _ => none
noncomputable def tupAt (i : Nat) : List (Option D)→Option (Option D)
  | some (.tup ds) :: _ => some ds[i]?
  | _ => none
noncomputable def seqLen : List (Option D)→Nat
  | some (.tup ds) :: _ => ds.length
  | some (.lst _ ds) :: _ => ds.length
  | some (.ro ds) :: _ => ds.length
  | _ => 0
noncomputable def kLst : ItK:=⟨1,lstAt,seqLen⟩
noncomputable def kTup : ItK:=⟨1,tupAt,seqLen⟩
noncomputable def kRng (lo : Int) (n : Nat) : ItK:=⟨0,fun i _ => some (if i < n then some (.int (lo+i)) else none),fun _ => n⟩
noncomputable def Stt.popn (s : Stt) (k : Nat) : Stt:={ s with tm:=s.tm.drop k }
section
variable {X : Cx} {G : Gx} {F : Fy} {e a b c tg iter : Expr} {pos : Pos}
theorem MR.popn {F : Fx} {ρ : Nat→Addr} {H : Hp} {σv tvs tv : List (Option V)} {s : Stt} (M : MR G F ρ H σv (tvs++tv) s) : MR G F ρ H σv tv (s.popn tvs.length):=by
  have sub : ∀ l∈labsS (s.popn tvs.length),l∈labsS s:=fun l h => by
    rcases List.mem_append.mp h with h | h
    · exact List.mem_append_left _ h
    · refine List.mem_append_right _ ?_
      have e:=labsO_append (s.tm.take tvs.length) (s.tm.drop tvs.length)
      rw [List.take_append_drop] at e
      rw [e]
      exact List.mem_append_right _ h
  exact ⟨M.sl,(Sl.split tvs M.tm).2,M.inj,M.dom,fun l h => M.lab l (sub l h),fun l h => M.own l (sub l h),M.frm,M.kd,M.frb,M.bas⟩
noncomputable def ItOK (G : Gx) (J : It) (K : ItK) (tvs : List (Option V)) : Prop:=∀ (F : Fx) ρ H σv tvp tv s i,MR G F ρ H σv (tvp++(tvs++tv)) s→match K.at' i (s.tm.drop tvp.length) with
  | none => True
  | some none => J.stop i H
  | some (some d) => J.go i H∧∀ x H',J.yld i H x H'→MRL G F ρ H' σv (tvp++(tvs++tv)) s [d] [x]
noncomputable def tI (G : Gx) (F : Fy) (m : M ItK) : TI:=fun σv H R => ∃ tv,F.tv0 <:+ tv∧∃ ρ s,MR G F.toFx ρ H σv tv s∧match m s with
  | .ok K s' => ∀ ρ' H' tvs J,tvs.length=K.k→MR G F.toFx ρ' H' σv (tvs++tv) s'→ItOK G J K tvs→R J H'
  | .ex d s' => F.xw d s'
  | .no => False
noncomputable def SI (X : Cx) (G : Gx) (F : Fy) (tg iter : Expr) (m : M ItK) : Prop:=PI X tg iter (tI G F m)
theorem PI.imp0 {w w' : TI} (h : PI X tg iter w) (hi : ∀ σ H R,w' σ H R→w σ H R) : PI X tg iter w':=fun pins s σ H R I q => h pins s σ H R I (hi σ H R q)
noncomputable def iSeq (K : PySem.W.Frag) (tl : TE) : TI:=fun σ H R => tl σ H fun x H1 => ∃ a,x=.ref a∧(((∃ xs,SqL K H1 a xs)∧R (Itl K a) H1)∨((∃ xs,SqT K H1 a xs)∧R (Itt K a) H1))
theorem pi_seq {l : Expr} {tl : TE} (hl : PE X l tl) : PI X tg l (iSeq X.K tl):=by
  intro pins s σ H R I h
  refine thn (hl pins s σ H _ I h) fun v s1 ⟨x,H1,I1,r1,q1⟩ => ?_
  obtain ⟨a,e,q | q⟩:=q1
  · subst e
    cases r1
    obtain ⟨⟨xs,hq⟩,q⟩:=q
    obtain ⟨its,rv,p,hz⟩:=I1.list hq
    refine wpAny_pyIter_list p.isList ?_
    refine ⟨s1.heap.objs.size,[s1.heap.objs.size],_,_,H1,rfl,I1.kept (t':=s1.toks) fun b o e => Heap.get?_push_of_some _ e,turn_list a _,⟨_,Heap.get?_push_size _ rfl,rfl,rfl⟩,fun b hb => ?_,q⟩
    have e : b=s1.heap.objs.size:=by simpa using hb
    subst e
    exact I1.fpOk (Nat.le_refl _) (I1.hok.fresh (Nat.le_refl _))
  · subst e
    cases r1
    obtain ⟨⟨xs,hq⟩,q⟩:=q
    obtain ⟨its,rv,p,hz⟩:=I1.tuple hq
    refine wpAny_pyIter_tuple (show s1.heap.IsTuple a its.toArray from p) ?_
    refine ⟨s1.heap.objs.size,[s1.heap.objs.size],_,_,H1,rfl,I1.kept (t':=s1.toks) fun b o e => Heap.get?_push_of_some _ e,turn_tuple a _,⟨_,Heap.get?_push_size _ rfl,rfl,rfl⟩,fun b hb => ?_,q⟩
    have e : b=s1.heap.objs.size:=by simpa using hb
    subst e
    exact I1.fpOk (Nat.le_refl _) (I1.hok.fresh (Nat.le_refl _))
noncomputable def mSeqI (m : M D) : M ItK:=bd m fun d s => match d with
  | .tup _ => .ok kTup (s.psh d)
  | .lst _ _ => .ok kLst (s.psh d)
  | .ro _ => .ok kLst (s.psh d)
  | _ => .no
theorem SqT.two {K : PySem.W.Frag} {H : Hp} {a : Addr} {xs ys : List V} (k : KD K H) (h : SqT K H a xs) (h' : SqT K H a ys) : xs=ys:=by
  rcases h with (h | ⟨o,h⟩) | ⟨o,its,n,h,_,hd,_,r⟩ <;> rcases h' with (h' | ⟨o',h'⟩) | ⟨o',its',n',h',_,hd',_,r'⟩
  · rw [h] at h'; cases h'; rfl
  · rw [h] at h'; cases h'
  · rw [k _ _ h'] at h; cases h
  · rw [h] at h'; cases h'
  · rw [h] at h'; cases h'; rfl
  · rw [k _ _ h'] at h; cases h
  · rw [k _ _ h] at h'; cases h'
  · rw [k _ _ h] at h'; cases h'
  · rw [h] at h'; cases h'; rw [hd] at hd'; cases hd'; exact r.inj r'
theorem SqL.two {K : PySem.W.Frag} {H : Hp} {a : Addr} {xs ys : List V} (k : KD K H) (h : SqL K H a xs) (h' : SqL K H a ys) : xs=ys:=by
  rcases h with (h | ⟨o,h⟩) | ⟨o,its,n,h,_,_,hd,_,r⟩ <;> rcases h' with (h' | ⟨o',h'⟩) | ⟨o',its',n',h',_,_,hd',_,r'⟩
  · rw [h] at h'; cases h'; rfl
  · rw [h] at h'; cases h'
  · rw [k _ _ h'] at h; cases h
  · rw [h] at h'; cases h'
  · rw [h] at h'; cases h'; rfl
  · rw [k _ _ h'] at h; cases h
  · rw [k _ _ h] at h'; cases h'
  · rw [k _ _ h] at h'; cases h'
  · rw [h] at h'; cases h'; rw [hd] at hd'; cases hd'; exact r.inj r'
theorem MR.head {F : Fx} {ρ : Nat→Addr} {H : Hp} {σv tv : List (Option V)} {s : Stt} {v : V} {c : D} {r : List (Option D)} (M : MR G F ρ H σv (some v :: tv) s) (e : s.tm=some c :: r) : RD G ρ H c v∧LB F ρ s.n (labs c):=by
  obtain ⟨σ,tm,n⟩:=s
  have e : tm=some c :: r:=e
  subst e
  exact ⟨MR.top (s:=⟨σ,r,n⟩) M,MR.topl (s:=⟨σ,r,n⟩) M⟩
theorem itok_lst {a : Addr} : ItOK G (Itl G.K a) kLst [some (.ref a)]:=by
  intro F ρ H σv tvp tv s i M
  dsimp only [kLst]
  cases e : s.tm.drop tvp.length with
  | nil => trivial
  | cons o r =>
    cases o with
    | none => trivial
    | some c =>
      simp only [lstAt]
      obtain ⟨h,lb⟩:=MR.head (s:=s.popn tvp.length) M.popn e
      cases e1 : lstD c with
      | none => trivial
      | some ds =>
        simp only [Option.map_some]
        obtain ⟨a',xs,ea,sq,rr,sub⟩:=h.lstq e1
        cases ea
        cases e2 : ds[i]? with
        | none =>
          refine ⟨xs,sq,?_⟩
          rw [← rr.length]
          exact List.getElem?_eq_none_iff.mp e2
        | some d =>
          obtain ⟨x,ex,rx⟩:=rr.get i d e2
          refine ⟨⟨xs,x,sq,ex⟩,?_⟩
          rintro x' H' ⟨rfl,hx⟩
          rw [hx xs sq] at ex
          cases ex
          exact ⟨M,RDs.one rx,fun l hl => lb l (sub l (labsL_mem (List.mem_of_getElem? e2) l (by simpa only [labsL,List.append_nil] using hl)))⟩
theorem itok_tup {a : Addr} : ItOK G (Itt G.K a) kTup [some (.ref a)]:=by
  intro F ρ H σv tvp tv s i M
  dsimp only [kTup]
  cases e : s.tm.drop tvp.length with
  | nil => trivial
  | cons o r =>
    cases o with
    | none => trivial
    | some c =>
      obtain ⟨h,lb⟩:=MR.head (s:=s.popn tvp.length) M.popn e
      cases c with
      | tup ds =>
        simp only [tupAt]
        obtain ⟨a',xs,ea,sq,rr⟩:=h.tupq
        cases ea
        cases e2 : ds[i]? with
        | none =>
          refine ⟨xs,sq,?_⟩
          rw [← rr.length]
          exact List.getElem?_eq_none_iff.mp e2
        | some d =>
          obtain ⟨x,ex,rx⟩:=rr.get i d e2
          refine ⟨⟨xs,x,sq,ex⟩,?_⟩
          rintro x' H' ⟨rfl,hx⟩
          rw [hx xs sq] at ex
          cases ex
          exact ⟨M,RDs.one rx,fun l hl => lb l (by simp only [labs]; exact labsL_mem (List.mem_of_getElem? e2) l (by simpa only [labsL,List.append_nil] using hl))⟩
      | _ => trivial
theorem si_seq {m : M D} (hk : X.K=G.K) (h : SE X G F e m) : SI X G F tg e (mSeqI m):=by
  refine PI.imp0 (pi_seq h) fun σ H R ⟨tv,hs,ρ,s,M,W⟩ => ⟨tv,hs,ρ,s,M,?_⟩
  unfold mSeqI bd at W
  cases e : m s with
  | ex d s1 => rw [e] at W; exact W
  | no => rw [e] at W; exact W
  | ok t s1 =>
    rw [e] at W
    intro ρ1 v H1 M1
    rw [hk]
    cases t with
    | tup ds =>
      obtain ⟨a,xs,rfl,sq,r⟩:=M1.rd1.tupq
      exact ⟨a,rfl,.inr ⟨⟨xs,sq⟩,W ρ1 H1 [some (.ref a)] _ rfl M1.push itok_tup⟩⟩
    | lst n ds =>
      obtain ⟨a,xs,rfl,sq,r,_⟩:=M1.rd1.lstq (ds:=ds) rfl
      exact ⟨a,rfl,.inl ⟨⟨xs,sq⟩,W ρ1 H1 [some (.ref a)] _ rfl M1.push itok_lst⟩⟩
    | ro ds =>
      obtain ⟨a,xs,rfl,sq,r,_⟩:=M1.rd1.lstq (ds:=ds) rfl
      exact ⟨a,rfl,.inl ⟨⟨xs,sq⟩,W ρ1 H1 [some (.ref a)] _ rfl M1.push itok_lst⟩⟩
    | _ => exact False.elim W
noncomputable def rng1 (ts : List D) : M ItK:=match ts with
  | [.int j] => if -(2 ^ 62)≤j∧j < 2 ^ 62 then rt (kRng 0 j.toNat) else fl
  | _ => fl
noncomputable def rng2 (ts : List D) : M ItK:=match ts with
  | [.int i,.int j] => if -(2 ^ 62)≤i∧i < 2 ^ 62∧-(2 ^ 62)≤j∧j < 2 ^ 62 then rt (kRng i (j - i).toNat) else fl
  | _ => fl
noncomputable def mRng1 (ms : List (M D)) : M ItK:=bd (mArgs ms) rng1
noncomputable def mRng2 (ms : List (M D)) : M ItK:=bd (mArgs ms) rng2
theorem itok_rng {lo : Int} {n : Nat} : ItOK G (Itr lo n) (kRng lo n) []:=by
  intro F ρ H σv tvp tv s i M
  simp only [kRng]
  by_cases h : i < n
  · rw [if_pos h]
    refine ⟨h,?_⟩
    rintro x H' ⟨rfl,rfl⟩
    exact ⟨M,RDs.one (by simp only [RD]),fun l hl => by simp [labsL,labs] at hl⟩
  · rw [if_neg h]
    exact Nat.not_lt.mp h
theorem si_rng1 {p : Pos} {ms : List (M D)} (hg : Gl X "range") (hm : X.mg "range" = none) (ha : SA X G F [a] (mArgs ms)) (hs : starEach [a] X.env = [(false, eval a X.env)] := by rfl) : SI X G F tg (.Call (.Name "range" p) [a] [] pos) (mRng1 ms) := by
  refine PI.imp0 (pi_range1 hg hm ha hs) fun σ H R ⟨tv,hs,ρ,s,M,W⟩ => ⟨tv,hs,ρ,s,M,?_⟩
  unfold mRng1 bd at W
  cases e : mArgs ms s with
  | ex d s1 => rw [e] at W; exact W
  | no => rw [e] at W; exact W
  | ok ts s1 =>
    rw [e] at W
    intro ρ1 vs H1 M1
    unfold rng1 at W
    dsimp only at W
    split at W
    · rename_i ts' j K s' hh
      split at hh
      · split at hh
        · rename_i j' hc
          cases hh
          obtain ⟨v,rfl,h,_⟩:=M1.one
          simp only [RD] at h
          subst h
          exact ⟨j',rfl,hc.1,hc.2,W ρ1 H1 [] _ rfl M1.m itok_rng⟩
        · cases hh
      · cases hh
    · rename_i hh
      split at hh
      · split at hh <;> cases hh
      · cases hh
    · exact False.elim W
theorem si_rng2 {p : Pos} {ms : List (M D)} (hg : Gl X "range") (hm : X.mg "range" = none) (ha : SA X G F [a, b] (mArgs ms)) (hs : starEach [a, b] X.env = [(false, eval a X.env), (false, eval b X.env)] := by rfl) (hs2 : starEach [b] X.env = [(false, eval b X.env)] := by rfl) : SI X G F tg (.Call (.Name "range" p) [a, b] [] pos) (mRng2 ms) := by
  refine PI.imp0 (pi_range2 hg hm ha hs hs2) fun σ H R ⟨tv,hs,ρ,s,M,W⟩ => ⟨tv,hs,ρ,s,M,?_⟩
  unfold mRng2 bd at W
  cases e : mArgs ms s with
  | ex d s1 => rw [e] at W; exact W
  | no => rw [e] at W; exact W
  | ok ts s1 =>
    rw [e] at W
    intro ρ1 vs H1 M1
    unfold rng2 at W
    dsimp only at W
    split at W
    · rename_i ts' j K s' hh
      split at hh
      · split at hh
        · rename_i i' j' hc
          cases hh
          obtain ⟨v,u,rfl,h,h'⟩:=M1.two
          simp only [RD] at h h'
          subst h h'
          exact ⟨i',j',rfl,hc,W ρ1 H1 [] _ rfl M1.m itok_rng⟩
        · cases hh
      · cases hh
    · rename_i hh
      split at hh
      · split at hh <;> cases hh
      · cases hh
    · exact False.elim W
noncomputable def forGo (K : ItK) (g : Tg) (b : MS) : Nat→Nat→MS
  | f,i => fun s => match K.at' i s.tm with
    | none => .no
    | some none => .nx (s.popn K.k)
    | some (some d) => match f with
      | 0 => .no
      | f+1 => match asg g d s.σ with
        | none => .no
        | some σ' => match b { s with σ:=σ' } with
          | .nx s' => forGo K g b f (i+1) s'
          | .ct s' => forGo K g b f (i+1) s'
          | .bk s' => .nx (s'.popn K.k)
          | .rt t s' => .rt t (s'.popn K.k)
          | .ex d s' => .ex d s'
          | .no => .no
noncomputable def sFor (mi : M ItK) (g : Tg) (b : MS) : MS:=lift mi fun K s => forGo K g b (K.len s.tm) 0 s
theorem MRL.popn {ρ : Nat→Addr} {H : Hp} {σv tvs tv : List (Option V)} {s : Stt} {ts : List D} {vs : List V} (M : MRL G F.toFx ρ H σv (tvs++tv) s ts vs) : MRL G F.toFx ρ H σv tv (s.popn tvs.length) ts vs:=⟨M.m.popn,M.rd,M.lb⟩
theorem suf2 {tvs tv : List (Option V)} (h : F.tv0 <:+ tv) : F.tv0 <:+ tvs++tv:=h.trans (List.suffix_append _ _)
theorem liftI_imp {m : M ItK} {f : ItK→MS} {tv : List (Option V)} {D : Ends} {σ : St} {H : Hp} {R : It→Hp→Prop} (h : tSv G F (lift m f) tv D σ H)
    (k : ∀ K ρ' H' tvs J s',tvs.length=K.k→MR G F.toFx ρ' H' σ (tvs++tv) s'→ItOK G J K tvs→wS G F tv (f K s') D→R J H') : tI G F m σ H R:=by
  obtain ⟨hs,ρ,s,M,W⟩:=h
  refine ⟨tv,hs,ρ,s,M,?_⟩
  unfold lift at W
  cases e : m s with
  | ok K s1 => rw [e] at W; exact fun ρ' H' tvs J hl M' hok => k K ρ' H' tvs J s1 hl M' hok W
  | ex d s1 => rw [e] at W; exact W
  | no => rw [e] at W; exact W
theorem ss_for {body : List Stmt} {mi : M ItK} {g : Tg} {mb : MS} (hp : PassesOwn (model X.prog X.w) X.A X.env X.xe) (hc : X.calm=true) (hi : SI X G F tg iter mi) (hg : SG X G F tg g) (hb : SSs X G F body mb) (hst : ∀ x,foldedSetIterable iter X.env x=pure x:=by intro _; rfl) : SS X G F (.For tg iter body [] pos) (sFor mi g mb):=by
  refine PS.imp0 (ps_for hp hc hi hg hb hst) fun D σ H ⟨tv,h⟩ => liftI_imp h fun K ρ' H' tvs J s' hl M' hok W => ?_
  have hs:=h.1
  refine ⟨fun i m σ H => ∃ ρ s,MR G F.toFx ρ H σ (tvs++tv) s∧wS G F tv (forGo K g mb m i s) D,⟨_,ρ',s',M',W⟩,?_⟩
  rintro i m σ H ⟨ρ,s,M,W⟩
  have ok:=hok F.toFx ρ H σ [] tv s i M
  simp only [List.length_nil,List.drop_zero,List.nil_append] at ok
  unfold forGo at W
  cases e : K.at' i s.tm with
  | none => simp only [e] at W; exact False.elim W
  | some o =>
    cases o with
    | none =>
      simp only [e] at W ok
      refine .inl ⟨ok,W ρ σ H ?_⟩
      rw [← hl]
      exact M.popn
    | some d =>
      simp only [e] at W ok
      cases m with
      | zero => exact False.elim W
      | succ f =>
        dsimp only at W
        cases e2 : asg g d s.σ with
        | none => simp only [e2] at W; exact False.elim W
        | some σ' =>
          simp only [e2] at W
          refine .inr ⟨ok.1,fun σ H => ∃ ρ s,MR G F.toFx ρ H σ (tvs++tv) s∧wS G F tv (forGo K g mb f (i+1) s) D,fun σ' H' q => ⟨f,Nat.lt_succ_self _,q⟩,fun x H2 y => ?_⟩
          refine ⟨tvs++tv,ρ,s,d,ok.2 x H2 y,σ',e2,fun σv' M2 => ⟨tvs++tv,suf2 hs,ρ,_,M2,?_⟩⟩
          cases e3 : mb { s with σ:=σ' } with
          | nx s2 => simp only [e3] at W; exact fun ρ3 σ3 H3 M3 => ⟨ρ3,s2,M3,W⟩
          | ct s2 => simp only [e3] at W; exact fun ρ3 σ3 H3 M3 => ⟨ρ3,s2,M3,W⟩
          | bk s2 => simp only [e3] at W; exact fun ρ3 σ3 H3 M3 => W ρ3 σ3 H3 (by rw [← hl]; exact M3.popn)
          | rt t s2 => simp only [e3] at W; exact fun ρ3 σ3 v H3 M3 => W ρ3 σ3 v H3 (by rw [← hl]; exact M3.popn)
          | ex d s2 => simp only [e3] at W; exact W
          | no => simp only [e3] at W; exact W
end
end Mi
namespace Mi
open PySem L2
noncomputable def allSome : List (Option D)→Option (List D)
  | [] => some []
  | some d :: r => (allSome r).map (d :: ·)
  | none :: _ => none
noncomputable def compGo (K : ItK) (g : Tg) (mt : M Bool) (me : M D) (ol : Nat) : Nat→Nat→Nat→M D
  | f,i,k => fun s => match K.at' i (s.tm.drop (k+ol)) with
    | none => .no
    | some none => match allSome (s.tm.take k).reverse with
      | some ds => .ok (.lst s.n ds) { σ:=(s.tm.drop k).take ol,tm:=s.tm.drop (k+ol+K.k),n:=s.n+1 }
      | none => .no
    | some (some d) => match f with
      | 0 => .no
      | f+1 => match asg g d s.σ with
        | none => .no
        | some σ' => match mt { s with σ:=σ' } with
          | .ok false s1 => compGo K g mt me ol f (i+1) k s1
          | .ok true s1 => if k < sizeLine then match me s1 with
              | .ok y s2 => compGo K g mt me ol f (i+1) (k+1) (s2.psh y)
              | _ => .no
            else .no
          | _ => .no
noncomputable def compIn (own : Nat) (ix : List Nat) (s : Stt) : Stt:={ σ:=List.replicate own none++ix.map (fun i => (s.σ[i]?).getD none),tm:=s.σ++s.tm,n:=s.n }
noncomputable def mComp (mi : M ItK) (g : Tg) (mt : M Bool) (me : M D) (own : Nat) (ix : List Nat) : M D:=bd mi fun K s => compGo K g mt me s.σ.length (K.len s.tm) 0 0 (compIn own ix s)
section
variable {X : Cx} {G : Gx} {F : Fy} {e a b c tg iter elt : Expr} {pos : Pos}
noncomputable def Fy.prot (F : Fy) (D : Addr) (ys : List V) (h : F.H0 D=none) : Fy where
  A0:=F.A0
  H0:=upd F.H0 D (.lst ys)
  Z:=fun a => a=D∨F.Z a
  zA:=fun a z => by
    rcases z with rfl | z
    · exact ⟨⟨_,upd_same⟩,fun q => by obtain ⟨o,e⟩:=F.aH _ q; rw [h] at e; cases e⟩
    · obtain ⟨⟨o,e⟩,n⟩:=F.zA a z
      exact ⟨⟨o,by rw [upd_ne (ne_of_none e h)]; exact e⟩,n⟩
  aH:=fun a q => by
    obtain ⟨o,e⟩:=F.aH a q
    exact ⟨o,by rw [upd_ne (ne_of_none e h)]; exact e⟩
  n0:=F.n0
  ρ0:=F.ρ0
  tv0:=[]
  xw:=fun _ _ => False
theorem Sl.none_map {ρ : Nat→Addr} {H : Hp} : ∀ k : Nat,Sl G ρ H (List.replicate k none) (List.replicate k none)
  | 0 => by simp [Sl]
  | k+1 => by simp only [List.replicate_succ,Sl]; exact ⟨_,_,rfl,Sl.none_map k⟩
theorem Sl.pick {ρ : Nat→Addr} {H : Hp} {σ : List (Option D)} {σv : List (Option V)} (h : Sl G ρ H σ σv) : ∀ ix : List Nat,Sl G ρ H (ix.map fun i => (σ[i]?).getD none) (ix.map fun i => (σv[i]?).getD none)
  | [] => by simp [Sl]
  | i :: ix => by
    simp only [List.map_cons]
    cases e : σ[i]? with
    | none => simp only [Option.getD_none,Sl]; exact ⟨_,_,rfl,Sl.pick h ix⟩
    | some o =>
      cases o with
      | none => simp only [Option.getD_some,Sl]; exact ⟨_,_,rfl,Sl.pick h ix⟩
      | some d =>
        obtain ⟨v,e1,r⟩:=h.get i d e
        simp only [Option.getD_some,Sl,e1]
        exact ⟨_,_,rfl,r,Sl.pick h ix⟩
theorem labs_pick {σ : List (Option D)} {l : Nat} : ∀ {ix : List Nat},l∈labsO (ix.map fun i => (σ[i]?).getD none)→l∈labsO σ
  | [],h => by simp [labsO] at h
  | i :: ix,h => by
    simp only [List.map_cons] at h
    cases e : σ[i]? with
    | none => rw [e] at h; simp only [Option.getD_none,labsO] at h; exact labs_pick h
    | some o =>
      rw [e] at h
      cases o with
      | none => simp only [Option.getD_some,labsO] at h; exact labs_pick h
      | some d =>
        simp only [Option.getD_some,labsO] at h
        rcases List.mem_append.mp h with h | h
        · exact labsO_get e l h
        · exact labs_pick h
theorem labs_none {l : Nat} : ∀ k : Nat,¬ l∈labsO (List.replicate k (none : Option D))
  | 0,h => by simp [labsO] at h
  | k+1,h => by simp only [List.replicate_succ,labsO] at h; exact labs_none k h
theorem MR.enter {ρ : Nat→Addr} {H : Hp} {σv tv : List (Option V)} {s : Stt} {D : Addr} (M : MR G F.toFx ρ H σv tv s) (hD : H D=none) (k : KD G.K (upd H D (.lst []))) (own : Nat) (ix : List Nat) :
    MR G (F.prot D [] (M.fresh0 hD)).toFx ρ (upd H D (.lst [])) (compSt own ix σv) (σv++tv) (compIn own ix s):=by
  have sm:=Same.new (.lst []) hD
  have M1:=M.same sm k
  have nD : ∀ l,l < s.n→ρ l≠D:=fun l hl e => by
    obtain ⟨o,q⟩:=M.dom l hl
    rw [e,hD] at q; cases q
  have sub : ∀ l∈labsS (compIn own ix s),l∈labsS s:=fun l h => by
    rcases List.mem_append.mp h with h | h
    · have h : l∈labsO (List.replicate own none++ix.map (fun i => (s.σ[i]?).getD none)):=h
      rw [labsO_append] at h
      rcases List.mem_append.mp h with h | h
      · exact absurd h (labs_none own)
      · exact List.mem_append_left _ (labs_pick h)
    · have h : l∈labsO (s.σ++s.tm):=h
      rw [labsO_append] at h
      exact h
  refine ⟨?_,M1.sl.append M1.tm,M1.inj,M1.dom,fun l h => M.lab l (sub l h),fun l h => ?_,fun a o e => ?_,k,fun l hl z => ?_,M.bas⟩
  · exact (Sl.none_map own).append (M1.sl.pick ix)
  · rcases M.own l (sub l h) with q | q
    · exact .inl q
    · refine .inr ?_
      show upd F.H0 D (.lst []) (ρ l)=none
      rw [upd_ne (nD l (M.lab l (sub l h)))]; exact q
  · have e : upd F.H0 D (.lst []) a=some o:=e
    by_cases ha : a=D
    · subst ha
      rw [upd_same] at e; cases e
      exact ⟨⟨_,upd_same⟩,fun _ => upd_same⟩
    · rw [upd_ne ha] at e
      exact M1.frm a o e
  · rcases z with z | z
    · exact nD l hl z
    · exact M.frb l hl z
theorem MR.turnD {ρ : Nat→Addr} {H : Hp} {σv tv : List (Option V)} {s : Stt} {D : Addr} {ys ys' : List V} {hf : F.H0 D=none} (M : MR G (F.prot D ys hf).toFx ρ H σv tv s) :
    H D=some (.lst ys)∧MR G (F.prot D ys' hf).toFx ρ (upd H D (.lst ys')) σv tv s:=by
  have hD : H D=some (.lst ys):=(M.frm D (.lst ys) upd_same).2 ((F.prot D ys hf).zA D (.inl rfl)).2
  have nD : ∀ l,l < s.n→ρ l≠D:=fun l hl e => M.frb l hl (.inl e)
  have st : Stays H (upd H D (.lst ys')):=⟨fun b xs e => by rw [upd_ne (ne_of e hD (by intro z; cases z))]; exact e,fun b o u e => by rw [upd_ne (ne_of e hD (by intro z; cases z))]; exact e⟩
  refine ⟨hD,⟨Sl.stay st M.sl fun l hl => ⟨rfl,fun o e => ?_⟩,Sl.stay st M.tm fun l hl => ⟨rfl,fun o e => ?_⟩,M.inj,fun l hl => ?_,M.lab,fun l h => ?_,fun a o e => ?_,fun a o e => ?_,fun l hl => M.frb l hl,M.bas⟩⟩
  · rw [upd_ne (nD l (M.lab l (List.mem_append_left _ hl)))]; exact e
  · rw [upd_ne (nD l (M.lab l (List.mem_append_right _ hl)))]; exact e
  · rw [upd_ne (nD l hl)]; exact M.dom l hl
  · rcases M.own l h with q | q
    · exact .inl q
    · refine .inr ?_
      have q : upd F.H0 D (.lst ys) (ρ l)=none:=q
      show upd F.H0 D (.lst ys') (ρ l)=none
      rw [upd_ne (nD l (M.lab l h))] at q ⊢; exact q
  · have e : upd F.H0 D (.lst ys') a=some o:=e
    by_cases ha : a=D
    · subst ha
      rw [upd_same] at e; cases e
      exact ⟨⟨_,upd_same⟩,fun _ => upd_same⟩
    · rw [upd_ne ha] at e ⊢
      exact M.frm a o (by show upd F.H0 D (.lst ys) a=some o; rw [upd_ne ha]; exact e)
  · by_cases ha : a=D
    · subst ha
      rw [M.kd a o e] at hD; cases hD
    · rw [upd_ne ha]; exact M.kd a o e
theorem Sl.all {ρ : Nat→Addr} {H : Hp} : ∀ {tm : List (Option D)} {ys : List V} {ds : List D},Sl G ρ H tm (ys.map some)→allSome tm=some ds→RDs G ρ H ds ys∧labsL ds=labsO tm
  | [],ys,ds,h,e => by
    simp only [Sl] at h
    simp only [allSome,Option.some.injEq] at e
    subst e
    have : ys=[]:=by simpa using h
    subst this
    simp [RDs,labsL,labsO]
  | none :: r,ys,ds,h,e => by simp only [allSome] at e; cases e
  | some d :: r,ys,ds,h,e => by
    simp only [Sl] at h
    obtain ⟨v,q,e1,h1,h2⟩:=h
    cases ys with
    | nil => cases e1
    | cons y ys =>
      simp only [List.map_cons,List.cons.injEq,Option.some.injEq] at e1
      obtain ⟨rfl,rfl⟩:=e1
      simp only [allSome] at e
      cases e2 : allSome r with
      | none => rw [e2] at e; cases e
      | some es =>
        rw [e2] at e
        cases e
        obtain ⟨r1,r2⟩:=Sl.all h2 e2
        refine ⟨?_,by simp only [labsL,labsO,r2]⟩
        simp only [RDs]
        exact ⟨_,_,rfl,h1,r1⟩
theorem Sl.reverse {ρ : Nat→Addr} {H : Hp} : ∀ {tm : List (Option D)} {ys : List (Option V)},Sl G ρ H tm ys→Sl G ρ H tm.reverse ys.reverse
  | [],ys,h => by simp only [Sl] at h; subst h; simp [Sl]
  | none :: r,ys,h => by
    simp only [Sl] at h
    obtain ⟨o,q,rfl,h⟩:=h
    rw [List.reverse_cons,List.reverse_cons]
    exact (Sl.reverse h).append (by simp only [Sl]; exact ⟨_,_,rfl,rfl⟩)
  | some d :: r,ys,h => by
    simp only [Sl] at h
    obtain ⟨o,q,rfl,h1,h⟩:=h
    rw [List.reverse_cons,List.reverse_cons]
    exact (Sl.reverse h).append (by simp only [Sl]; exact ⟨_,_,rfl,h1,rfl⟩)
theorem labsO_rev {l : Nat} : ∀ {tm : List (Option D)},l∈labsO tm.reverse↔l∈labsO tm
  | [] => by simp
  | none :: r => by
    rw [List.reverse_cons,labsO_append]
    simp only [labsO,List.append_nil]
    exact labsO_rev
  | some d :: r => by
    rw [List.reverse_cons,labsO_append]
    simp only [labsO,List.append_nil,List.mem_append]
    rw [labsO_rev]
    exact Or.comm
theorem MR.leave {ρ : Nat→Addr} {H : Hp} {σi σv tvs tv : List (Option V)} {s : Stt} {A1 : Addr} {ys : List V} {hf : F.H0 A1=none} {ds : List D} {kk : Nat}
    (M : MR G (F.prot A1 ys hf).toFx ρ H σi ((ys.reverse.map some)++(σv++(tvs++tv))) s) (hk : tvs.length=kk) (ol : Nat) (ho : σv.length=ol) (e : allSome (s.tm.take ys.length).reverse=some ds) :
    MRL G F.toFx (ext ρ s.n A1) H σv tv { σ:=(s.tm.drop ys.length).take ol,tm:=s.tm.drop (ys.length+ol+kk),n:=s.n+1 } [.lst s.n ds] [.ref A1]:=by
  subst hk ho
  have hD:=(MR.turnD (ys':=ys) M).1
  have nD : ∀ l,l < s.n→ρ l≠A1:=fun l hl e => M.frb l hl (.inl e)
  have t0:=Sl.split (ys.reverse.map some) M.tm
  simp only [List.length_map,List.length_reverse] at t0
  obtain ⟨t1,t2⟩:=t0
  obtain ⟨t3,t4⟩:=Sl.split σv t2
  obtain ⟨_,t6⟩:=Sl.split tvs t4
  rw [List.drop_drop] at t4
  rw [List.drop_drop,List.drop_drop] at t6
  have t6' : Sl G ρ H (s.tm.drop (ys.length+σv.length+tvs.length)) tv:=by rw [Nat.add_assoc]; exact t6
  have t1':=t1.reverse
  rw [← List.map_reverse,List.reverse_reverse] at t1'
  obtain ⟨r1,r2⟩:=Sl.all t1' e
  have lt : ∀ l,l∈labsO (s.tm.take ys.length)→l∈labsS s:=fun l h => List.mem_append_right _ (by
    have e:=labsO_append (s.tm.take ys.length) (s.tm.drop ys.length)
    rw [List.take_append_drop] at e
    rw [e]; exact List.mem_append_left _ h)
  have ld : ∀ l k,l∈labsO (s.tm.drop k)→l∈labsS s:=fun l k h => List.mem_append_right _ (by
    have e:=labsO_append (s.tm.take k) (s.tm.drop k)
    rw [List.take_append_drop] at e
    rw [e]; exact List.mem_append_right _ h)
  have ldt : ∀ l k j,l∈labsO ((s.tm.drop k).take j)→l∈labsS s:=fun l k j h => ld l k (by
    have e:=labsO_append ((s.tm.drop k).take j) ((s.tm.drop k).drop j)
    rw [List.take_append_drop] at e
    rw [e]; exact List.mem_append_left _ h)
  have own : ∀ l∈labsS s,F.A0 (ρ l)∨F.H0 (ρ l)=none:=fun l h => by
    rcases M.own l h with q | q
    · exact .inl q
    · refine .inr ?_
      have q : upd F.H0 A1 (.lst ys) (ρ l)=none:=q
      rw [upd_ne (nD l (M.lab l h))] at q; exact q
  have st:=Stays.refl H
  have stay : ∀ l,l < s.n→ext ρ s.n A1 l=ρ l∧∀ o,H (ρ l)=some o→H (ρ l)=some o:=fun l hl => ⟨ext_old hl,fun o e => e⟩
  have all : ∀ l∈labsS { σ:=(s.tm.drop ys.length).take σv.length,tm:=s.tm.drop (ys.length+σv.length+tvs.length),n:=s.n+1 },l∈labsS s:=fun l h => by
    rcases List.mem_append.mp h with h | h
    · exact ldt l _ _ h
    · exact ld l _ h
  have dsl : ∀ l∈labsL ds,l∈labsS s:=fun l h => lt l (by rw [r2] at h; exact labsO_rev.mp h)
  refine ⟨⟨Sl.stay st t3 fun l hl => stay l (M.lab l (ldt l _ _ hl)),Sl.stay st t6' fun l hl => stay l (M.lab l (ld l _ hl)),fun i j hi hj eq => ?_,fun l hl => ?_,fun l h => Nat.lt_succ_of_lt (M.lab l (all l h)),fun l h => ?_,fun a o e => ?_,M.kd,fun l hl z => ?_,⟨Nat.le_succ_of_le M.bas.1,fun l hl => by rw [ext_old (Nat.lt_of_lt_of_le hl M.bas.1)]; exact M.bas.2 l hl⟩⟩,?_,fun l h => ?_⟩
  · have hi : i < s.n+1:=hi
    have hj : j < s.n+1:=hj
    by_cases h1 : i=s.n
    · by_cases h2 : j=s.n
      · omega
      · rw [h1,ext_new,ext_old (by omega)] at eq
        exact absurd eq.symm (nD j (by omega))
    · by_cases h2 : j=s.n
      · rw [h2,ext_new,ext_old (by omega)] at eq
        exact absurd eq (nD i (by omega))
      · rw [ext_old (by omega),ext_old (by omega)] at eq
        exact M.inj i j (by omega) (by omega) eq
  · have hl : l < s.n+1:=hl
    by_cases h1 : l=s.n
    · subst h1; rw [ext_new]; exact ⟨_,hD⟩
    · rw [ext_old (by omega)]; exact M.dom l (by omega)
  · rw [ext_old (M.lab l (all l h))]; exact own l (all l h)
  · exact M.frm a o (by show upd F.H0 A1 (.lst ys) a=some o; rw [upd_ne (ne_of_none e hf)]; exact e)
  · have hl : l < s.n+1:=hl
    by_cases h1 : l=s.n
    · subst h1; rw [ext_new] at z
      obtain ⟨⟨o,e⟩,_⟩:=F.zA A1 z
      rw [hf] at e; cases e
    · rw [ext_old (by omega)] at z
      exact M.frb l (by omega) (.inr z)
  · refine RDs.one ?_
    simp only [RD]
    rw [ext_new]
    exact ⟨rfl,ys,hD,RDs.stay st ds ys r1 fun l hl => stay l (M.lab l (dsl l hl))⟩
  · simp only [labsL,labs,List.append_nil] at h
    rcases List.mem_cons.mp h with q | q
    · rw [q,ext_new]; exact ⟨Nat.lt_succ_self _,.inr hf⟩
    · have q2:=dsl l q
      exact ⟨Nat.lt_succ_of_lt (M.lab l q2),by rw [ext_old (M.lab l q2)]; exact own l q2⟩
noncomputable def tMx (G : Gx) (m : M D) : TE:=fun σ H Q => ∃ F : Fy,tM G F m σ H Q
noncomputable def tBx (G : Gx) (m : M Bool) : TT:=fun σ H Q => ∃ F : Fy,tMB G F m σ H Q
noncomputable def tGx (G : Gx) (g : Tg) : TG:=fun v σ H Q => ∃ F : Fy,tGn G F g v σ H Q
noncomputable def STs (X : Cx) (G : Gx) (F : Fy) (ifs : List Expr) (m : M Bool) : Prop:=PTs X ifs (tMB G F m)
theorem sts_nil : STs X G F [] (rt true):=fun pins s σ H Q I ⟨tv,hs,ρ,ms,M,W⟩ => pts_nil pins s σ H Q I (W ρ H M)
theorem comp_imp {K : PySem.W.Frag} {k : Nat} {ix : List Nat} {mi : M ItK} {g : Tg} {mt : M Bool} {me : M D} {σ : St} {H : Hp} {Q : VK} (hk : K=G.K) (h : tM G F (mComp mi g mt me k ix) σ H Q) : tComp2 K (tI G F mi) (tGx G g) (tBx G mt) (tMx G me) k ix σ H Q:=by
  obtain ⟨tv,hsf,ρ,s,M,W⟩:=h
  refine ⟨tv,hsf,ρ,s,M,?_⟩
  unfold mComp bd at W
  cases em : mi s with
  | ex d s1 => rw [em] at W; exact W
  | no => rw [em] at W; exact W
  | ok K s1 =>
    rw [em] at W
    intro ρ1 H1 tvs J hl M1 hok A1 hA1 kd
    subst hk
    have kd : KD G.K (upd H1 A1 (.lst [])):=kd
    have hf:=M1.fresh0 hA1
    refine ⟨fun i m ys σ' H' => ∃ ρ s,MR G (F.prot A1 ys hf).toFx ρ H' σ' ((ys.reverse.map some)++(σ++(tvs++tv))) s∧wM G F σ tv (compGo K g mt me s1.σ.length m i ys.length s) Q,⟨_,ρ1,_,M1.enter hA1 kd k ix,W⟩,?_⟩
    rintro i m ys σ' H' ⟨ρ2,s2,M2,W2⟩
    have hD:=(MR.turnD (ys':=ys) M2).1
    refine ⟨hD,?_⟩
    have ol : s1.σ.length=σ.length:=M1.sl.length
    have ok:=hok (F.prot A1 ys hf).toFx ρ2 H' σ' ((ys.reverse.map some)++σ) tv s2 i (by rw [List.append_assoc]; exact M2)
    simp only [List.length_append,List.length_map,List.length_reverse,← ol,List.append_assoc] at ok
    unfold compGo at W2
    cases e : K.at' i (s2.tm.drop (ys.length+s1.σ.length)) with
    | none => simp only [e] at W2; exact False.elim W2
    | some o =>
      rw [e] at ok
      cases o with
      | none =>
        simp only [e] at W2 ok
        refine .inl ⟨ok,?_⟩
        cases ea : allSome (s2.tm.take ys.length).reverse with
        | none => simp only [ea] at W2; exact False.elim W2
        | some ds =>
          simp only [ea] at W2
          exact W2 _ _ _ (MR.leave M2 hl _ ol.symm ea)
      | some d =>
        simp only [e] at W2 ok
        cases m with
        | zero => exact False.elim W2
        | succ f =>
          dsimp only at W2
          cases e2 : asg g d s2.σ with
          | none => simp only [e2] at W2; exact False.elim W2
          | some σ3 =>
            simp only [e2] at W2
            refine .inr ⟨ok.1,fun x H2 y => ?_⟩
            have hx:=ok.2 x H2 y
            refine ⟨F.prot A1 ys hf,_,ρ2,s2,d,hx,σ3,e2,fun σv' M3 => ⟨F.prot A1 ys hf,_,List.nil_suffix,ρ2,_,M3,?_⟩⟩
            cases e3 : mt { s2 with σ:=σ3 } with
            | ex d s4 => simp only [e3] at W2; exact False.elim W2
            | no => simp only [e3] at W2; exact False.elim W2
            | ok b s4 =>
              intro ρ4 H4 M4
              cases b with
              | false =>
                simp only [e3] at W2
                rw [if_neg Bool.false_ne_true]
                exact ⟨f,Nat.lt_succ_self _,ρ4,s4,M4,W2⟩
              | true =>
                simp only [e3] at W2
                rw [if_pos rfl]
                by_cases hz : ys.length < sizeLine
                · rw [if_pos hz] at W2
                  refine ⟨F.prot A1 ys hf,_,List.nil_suffix,ρ4,s4,M4,?_⟩
                  cases e5 : me s4 with
                  | ex d s5 => simp only [e5] at W2; exact False.elim W2
                  | no => simp only [e5] at W2; exact False.elim W2
                  | ok y s5 =>
                    simp only [e5] at W2
                    intro ρ5 v H5 M5
                    obtain ⟨hD5,M6⟩:=MR.turnD (ys':=ys++[v]) M5.push
                    refine ⟨hD5,hz,f,Nat.lt_succ_self _,ρ5,s5.psh y,?_,?_⟩
                    · rw [List.reverse_append,List.reverse_cons,List.reverse_nil,List.nil_append,List.map_append]
                      exact M6
                    · rw [List.length_append]; exact W2
                · rw [if_neg hz] at W2; exact False.elim W2
theorem se_comp {scope : Scope} {own frees : List Str} {ix : List Nat} {ifs : List Expr} {mi : M ItK} {g : Tg} {mt : M Bool} {me : M D} (hk : X.K=G.K) (hc : X.calm=true) (S : CompScope X.env.scope scope own frees X.N ix) (hi : SI X G F tg iter mi)
    (hg : ∀ (F : Fy) cl C s₀ H₀ fp pn,SG (compCx X scope own frees cl C s₀ H₀ fp pn) G F tg g) (ht : ∀ (F : Fy) cl C s₀ H₀ fp pn,STs (compCx X scope own frees cl C s₀ H₀ fp pn) G F ifs mt) (he : ∀ (F : Fy) cl C s₀ H₀ fp pn,SE (compCx X scope own frees cl C s₀ H₀ fp pn) G F elt me)
    (hs : ∀ x,foldedSetIterable iter X.env x=pure x:=by intro _; rfl) : SE X G F (.ListComp elt [⟨tg,iter,ifs,0⟩] scope pos) (mComp mi g mt me own.length ix) :=
  PE.imp0 (pe_lcomp2 (g:=tGx G g) (tt:=tBx G mt) (te:=tMx G me) hc S hi (fun cl C s₀ H₀ fp pn pins s σ H v u Q I r ⟨F',q⟩ => hg F' cl C s₀ H₀ fp pn pins s σ H v u Q I r q)
    (fun cl C s₀ H₀ fp pn pins s σ H Q I ⟨F',q⟩ => ht F' cl C s₀ H₀ fp pn pins s σ H Q I q) (fun cl C s₀ H₀ fp pn pins s σ H Q I ⟨F',q⟩ => he F' cl C s₀ H₀ fp pn pins s σ H Q I q) hs) fun σ H Q h => comp_imp hk h
theorem ss_comp {y : Str} {py spos : Pos} {i : Nat} {scope : Scope} {own frees : List Str} {ix : List Nat} {ifs : List Expr} {mi : M ItK} {g : Tg} {mt : M Bool} {me : M D} (hk : X.K=G.K) (hN : X.N.Nodup) (hy : X.N[i]?=some y) (hx : Loc X.env.scope y) (hfn : X.fn y=true∨X.env.scope.names.lookup y=some .local) (hsw : swapsWith (.ListComp elt [⟨tg,iter,ifs,0⟩] scope pos) (some (.Name y py)) spos.line X.env=pure true)
    (hc : X.calm=true) (S : CompScope X.env.scope scope own frees X.N ix) (hi : SI X G F tg iter mi)
    (hg : ∀ (F : Fy) cl C s₀ H₀ fp pn,SG (compCx X scope own frees cl C s₀ H₀ fp pn) G F tg g) (ht : ∀ (F : Fy) cl C s₀ H₀ fp pn,STs (compCx X scope own frees cl C s₀ H₀ fp pn) G F ifs mt) (he : ∀ (F : Fy) cl C s₀ H₀ fp pn,SE (compCx X scope own frees cl C s₀ H₀ fp pn) G F elt me)
    (hs : ∀ x,foldedSetIterable iter X.env x=pure x:=by intro _; rfl) : SS X G F (.Assign [.Name y py] (.ListComp elt [⟨tg,iter,ifs,0⟩] scope pos) spos) (sAsg (.nm i) (mComp mi g mt me own.length ix)):=by
  refine PS.imp0 (ps_lcompN (i:=i) (g:=tGx G g) (tt:=tBx G mt) (te:=tMx G me) hN hy hx hfn hsw hc S hi (fun cl C s₀ H₀ fp pn pins s σ H v u Q I r ⟨F',q⟩ => hg F' cl C s₀ H₀ fp pn pins s σ H v u Q I r q)
    (fun cl C s₀ H₀ fp pn pins s σ H Q I ⟨F',q⟩ => ht F' cl C s₀ H₀ fp pn pins s σ H Q I q) (fun cl C s₀ H₀ fp pn pins s σ H Q I ⟨F',q⟩ => he F' cl C s₀ H₀ fp pn pins s σ H Q I q) hs) fun Dd σ H ⟨tv,h⟩ => ?_
  refine comp_imp hk ⟨tv,(lift_imp h).mono fun v H1 ⟨ρ1,s1,t,M1,W⟩ => ?_⟩
  simp only [asg] at W
  exact W ρ1 _ H1 (M1.setS i).m
end
end Mi
namespace Mi
open PySem L2
mutual
noncomputable def findT (l : Nat) : D→Option D
  | .tup ds => findL l ds
  | .ro ds => findL l ds
  | .fdc _ vs => findL l vs
  | .lst k ds => if k=l then some (.lst k ds) else findL l ds
  | .dct k ks vs => if k=l then some (.dct k ks vs) else findL l vs
  | .obj k c ns vs => if k=l then some (.obj k c ns vs) else findL l vs
  | .non => none | .bool _ => none | .int _ => none | .str _ => none | .exc _ => none | .fn _ => none
noncomputable def findL (l : Nat) : List D→Option D
  | [] => none
  | d :: ds => match findT l d with
    | some x => some x
    | none => findL l ds
end
section
variable {G : Gx} {ρ : Nat→Addr} {H : Hp}
mutual
theorem findT_rd (l : Nat) : ∀ (t : D) (v : V) (d : D),RD G ρ H t v→findT l t=some d→RD G ρ H d (.ref (ρ l))∧∀ k∈labs d,k∈labs t
  | .non,v,d,h,e => by simp only [findT] at e; cases e
  | .bool b,v,d,h,e => by simp only [findT] at e; cases e
  | .int b,v,d,h,e => by simp only [findT] at e; cases e
  | .str b,v,d,h,e => by simp only [findT] at e; cases e
  | .exc b,v,d,h,e => by simp only [findT] at e; cases e
  | .fn b,v,d,h,e => by simp only [findT] at e; cases e
  | .tup ds,v,d,h,e => by
    simp only [findT,RD,labs] at h e ⊢
    obtain ⟨a,xs,_,_,r⟩:=h
    exact findL_rd l ds xs d r e
  | .ro ds,v,d,h,e => by
    simp only [findT,RD,labs] at h e ⊢
    obtain ⟨a,xs,_,_,r⟩:=h
    exact findL_rd l ds xs d r e
  | .fdc ks vs,v,d,h,e => by
    simp only [findT,RD,labs] at h e ⊢
    obtain ⟨a,o,kvs,_,_,_,r⟩:=h
    exact findL_rd l vs _ d r e
  | .lst k ds,v,d,h,e => by
    simp only [findT] at e
    by_cases hk : k=l
    · rw [if_pos hk] at e; cases e
      subst hk
      have h':=h
      simp only [RD] at h'
      obtain ⟨rfl,_⟩:=h'
      exact ⟨h,fun _ q => q⟩
    · rw [if_neg hk] at e
      simp only [RD] at h
      obtain ⟨_,xs,_,r⟩:=h
      obtain ⟨q1,q2⟩:=findL_rd l ds xs d r e
      exact ⟨q1,fun j hj => by simp only [labs]; exact List.mem_cons_of_mem _ (q2 j hj)⟩
  | .dct k ks vs,v,d,h,e => by
    simp only [findT] at e
    by_cases hk : k=l
    · rw [if_pos hk] at e; cases e
      subst hk
      have h':=h
      simp only [RD] at h'
      obtain ⟨rfl,_⟩:=h'
      exact ⟨h,fun _ q => q⟩
    · rw [if_neg hk] at e
      simp only [RD] at h
      obtain ⟨_,⟨kvs,_,_,r⟩ | ⟨kvs,_,_,r⟩⟩:=h
      · obtain ⟨q1,q2⟩:=findL_rd l vs _ d r e
        exact ⟨q1,fun j hj => by simp only [labs]; exact List.mem_cons_of_mem _ (List.mem_append_right _ (q2 j hj))⟩
      · obtain ⟨q1,q2⟩:=findL_rd l vs _ d r e
        exact ⟨q1,fun j hj => by simp only [labs]; exact List.mem_cons_of_mem _ (List.mem_append_right _ (q2 j hj))⟩
  | .obj k c ns vs,v,d,h,e => by
    simp only [findT] at e
    by_cases hk : k=l
    · rw [if_pos hk] at e; cases e
      subst hk
      have h':=h
      simp only [RD] at h'
      obtain ⟨rfl,_⟩:=h'
      exact ⟨h,fun _ q => q⟩
    · rw [if_neg hk] at e
      simp only [RD] at h
      obtain ⟨_,C,dx,fs,_,_,_,r⟩:=h
      obtain ⟨q1,q2⟩:=findL_rd l vs _ d r e
      exact ⟨q1,fun j hj => by simp only [labs]; exact List.mem_cons_of_mem _ (q2 j hj)⟩
theorem findL_rd (l : Nat) : ∀ (t : List D) (v : List V) (d : D),RDs G ρ H t v→findL l t=some d→RD G ρ H d (.ref (ρ l))∧∀ k∈labs d,k∈labsL t
  | [],v,d,h,e => by simp only [findL] at e; cases e
  | t :: ts,v,d,h,e => by
    simp only [findL,RDs,labsL] at h e ⊢
    obtain ⟨x,r,_,h1,h2⟩:=h
    cases e1 : findT l t with
    | some y =>
      rw [e1] at e; cases e
      obtain ⟨q1,q2⟩:=findT_rd l t x _ h1 e1
      exact ⟨q1,fun j hj => List.mem_append_left _ (q2 j hj)⟩
    | none =>
      rw [e1] at e
      obtain ⟨q1,q2⟩:=findL_rd l ts r d h2 e
      exact ⟨q1,fun j hj => List.mem_append_right _ (q2 j hj)⟩
end
theorem roL_two {K : PySem.W.Frag} {a : Addr} {xs ys : List V} (k : KD K H) (h : RoL K H a xs) (h' : RoL K H a ys) : xs=ys:=SqL.two k h.sq h'.sq
noncomputable def kindAt (G : Gx) (H : Hp) (a : Addr) : Nat→Prop
  | 0 => ∃ xs,SqT G.K H a xs
  | 1 => ∃ xs,RoL G.K H a xs
  | 2 => ∃ xs,H a=some (.lst xs)
  | 3 => (∃ kvs,H a=some (.dK kvs))∨∃ kvs,H a=some (.dT kvs)
  | 4 => ∃ C dx fs,H a=some (.ins C dx fs)
  | 5 => ∃ o φ,H a=some (.frz o (.ext φ))
  | 6 => ∃ c,G.cl c=some a
  | _ => ∃ o kvs,H a=some (.frz o (.dT kvs))
open Classical in
noncomputable def kd (K : PySem.W.Frag) (H : Hp) (a : Addr) : Nat:=match H a with
  | some (.tup _) => 0 | some (.frz _ (.tup _)) => 0 | some (.frz _ (.lst _)) => 1 | some (.lst _) => 2 | some (.dK _) => 3 | some (.dT _) => 3 | some (.ins _ _ _) => 4 | some (.frz _ (.ext _)) => 5 | some (.frz _ (.dT _)) => 7
  | some _ => 9
  | none => match K.lookup a with
    | some o => if (∃ its n, o.data = .seq its n) then (if o.cls = .type "tuple" then 0 else 1) else 6
    | none => 8
theorem kd_at {a : Addr} (k : KD G.K H) : ∀ {i : Nat},kindAt G H a i→i≤7→kd G.K H a=i:=by
  have tl : ¬ ((.type "list" : Value) = .type "tuple") := by intro h; injection h with h; exact absurd h (by decide)
  intro i hi li
  match i,hi,li with
  | 0,⟨xs,h⟩,_ =>
    rcases h with (h | ⟨o,h⟩) | ⟨o,its,n,h,hc,hd,_⟩
    · unfold kd; rw [h]
    · unfold kd; rw [h]
    · unfold kd; rw [k _ _ h]; dsimp only; rw [h]; dsimp only; rw [if_pos ⟨its,n,hd⟩,if_pos hc]
  | 1,⟨xs,h⟩,_ =>
    rcases h with ⟨o,h⟩ | ⟨o,its,n,h,hc,_,hd,_⟩
    · unfold kd; rw [h]
    · unfold kd; rw [k _ _ h]; dsimp only; rw [h]; dsimp only; rw [if_pos ⟨its,n,hd⟩,if_neg (by rw [hc]; exact tl)]
  | 2,⟨xs,h⟩,_ => unfold kd; rw [h]
  | 3,h,_ => rcases h with ⟨_,h⟩ | ⟨_,h⟩ <;> (unfold kd; rw [h])
  | 4,⟨_,_,_,h⟩,_ => unfold kd; rw [h]
  | 5,⟨_,_,h⟩,_ => unfold kd; rw [h]
  | 6,⟨c,h⟩,_ =>
    obtain ⟨o,h1,h2⟩:=G.ck c a h
    unfold kd; rw [k _ _ h1]; dsimp only; rw [h1]; dsimp only; rw [if_neg (fun ⟨its,n,q⟩ => h2 its n q)]
  | 7,⟨_,_,h⟩,_ => unfold kd; rw [h]
  | n+8,_,li => omega
theorem kind_one {a : Addr} (k : KD G.K H) {i j : Nat} (hi : kindAt G H a i) (hj : kindAt G H a j) (li : i≤7) (lj : j≤7) : i=j:=(kd_at k hi li).symm.trans (kd_at k hj lj)
theorem RD.kind {t : D} {a : Addr} (h : RD G ρ H t (.ref a)) : ∃ i,i≤7∧kindAt G H a i∧(match t with | .tup _ => i=0 | .ro _ => i=1 | .lst _ _ => i=2 | .dct _ _ _ => i=3 | .obj _ _ _ _ => i=4 | .exc _ => i=5 | .fn _ => i=6 | .fdc _ _ => i=7 | _ => False):=by
  cases t <;> simp only [RD] at h
  · cases h
  · cases h
  · cases h
  · cases h
  · obtain ⟨a',xs,e,s,r⟩:=h; cases e; exact ⟨0,by omega,⟨xs,SqT.of s⟩,rfl⟩
  · obtain ⟨a',xs,e,s,r⟩:=h; cases e; exact ⟨1,by omega,⟨xs,s⟩,rfl⟩
  · obtain ⟨e,xs,s,r⟩:=h; cases e; exact ⟨2,by omega,⟨xs,s⟩,rfl⟩
  · obtain ⟨e,⟨kvs,s,_⟩ | ⟨kvs,s,_⟩⟩:=h
    · cases e; exact ⟨3,by omega,.inl ⟨kvs,s⟩,rfl⟩
    · cases e; exact ⟨3,by omega,.inr ⟨kvs,s⟩,rfl⟩
  · obtain ⟨e,C,dx,fs,_,s,_⟩:=h; cases e; exact ⟨4,by omega,⟨C,dx,fs,s⟩,rfl⟩
  · obtain ⟨a',o,C,e,_,_,_,s⟩:=h; cases e; exact ⟨5,by omega,⟨o,_,s⟩,rfl⟩
  · obtain ⟨a',e,s⟩:=h; cases e; exact ⟨6,by omega,⟨_,s⟩,rfl⟩
  · obtain ⟨a',o,kvs,e,s,_⟩:=h; cases e; exact ⟨7,by omega,⟨o,kvs,s⟩,rfl⟩
section
variable (k : KD G.K H) {n : Nat} (inj : ∀ i j,i < n→j < n→ρ i=ρ j→i=j)
include k inj
mutual
theorem RD.uniq : ∀ (t t' : D) (v : V),RD G ρ H t v→RD G ρ H t' v→(∀ l∈labs t,l < n)→(∀ l∈labs t',l < n)→t=t'
  | .non,t',v,h,h',_,_ => by
    simp only [RD] at h; subst h
    cases t' <;> simp only [RD] at h' <;> first | rfl | (cases h'; done) | (obtain ⟨e,_⟩:=h'; cases e; done) | (obtain ⟨_,_,e,_⟩:=h'; cases e; done) | (obtain ⟨_,_,_,e,_⟩:=h'; cases e; done) | (obtain ⟨_,e,_⟩:=h'; cases e; done)
  | .bool b,t',v,h,h',_,_ => by
    simp only [RD] at h; subst h
    cases t' <;> simp only [RD] at h' <;> first | (cases h'; rfl) | (cases h'; done) | (obtain ⟨e,_⟩:=h'; cases e; done) | (obtain ⟨_,_,e,_⟩:=h'; cases e; done) | (obtain ⟨_,_,_,e,_⟩:=h'; cases e; done) | (obtain ⟨_,e,_⟩:=h'; cases e; done)
  | .int b,t',v,h,h',_,_ => by
    simp only [RD] at h; subst h
    cases t' <;> simp only [RD] at h' <;> first | (cases h'; rfl) | (cases h'; done) | (obtain ⟨e,_⟩:=h'; cases e; done) | (obtain ⟨_,_,e,_⟩:=h'; cases e; done) | (obtain ⟨_,_,_,e,_⟩:=h'; cases e; done) | (obtain ⟨_,e,_⟩:=h'; cases e; done)
  | .str b,t',v,h,h',_,_ => by
    simp only [RD] at h; subst h
    cases t' <;> simp only [RD] at h' <;> first | (cases h'; rfl) | (cases h'; done) | (obtain ⟨e,_⟩:=h'; cases e; done) | (obtain ⟨_,_,e,_⟩:=h'; cases e; done) | (obtain ⟨_,_,_,e,_⟩:=h'; cases e; done) | (obtain ⟨_,e,_⟩:=h'; cases e; done)
  | .exc c,t',v,h,h',lb,lb' => by
    have h0:=h
    simp only [RD] at h0
    obtain ⟨a,o,C,rfl,h1,h2,_,s⟩:=h0
    obtain ⟨i,li,ki,mi⟩:=RD.kind h'
    cases kind_one k (i:=5) ⟨o,_,s⟩ ki (by omega) li
    cases t' with
    | exc c' =>
      simp only [RD] at h'
      obtain ⟨a',o',C',e,h1',h2',_,s'⟩:=h'
      cases e
      rw [s] at s'; cases s'
      rw [h2] at h2'; cases h2'
      rw [G.ci c c' C h1 h1']
    | _ => simp at mi
  | .fn c,t',v,h,h',lb,lb' => by
    have h0:=h
    simp only [RD] at h0
    obtain ⟨a,rfl,h1⟩:=h0
    obtain ⟨i,li,ki,mi⟩:=RD.kind h'
    cases kind_one k (i:=6) ⟨c,h1⟩ ki (by omega) li
    cases t' with
    | fn c' =>
      simp only [RD] at h'
      obtain ⟨a',e,h1'⟩:=h'
      cases e
      rw [G.ci c c' a h1 h1']
    | _ => simp at mi
  | .tup ds,t',v,h,h',lb,lb' => by
    obtain ⟨a,xs,rfl,s,r⟩:=h.tupq
    obtain ⟨i,li,ki,mi⟩:=RD.kind h'
    cases kind_one k (i:=0) ⟨xs,s⟩ ki (by omega) li
    cases t' with
    | tup es =>
      obtain ⟨a',ys,e,s',r'⟩:=h'.tupq
      cases e
      cases SqT.two k s s'
      rw [RDs.uniq ds es xs r r' (fun l hl => lb l (by simp only [labs]; exact hl)) fun l hl => lb' l (by simp only [labs]; exact hl)]
    | _ => simp at mi
  | .fdc ks vs,t',v,h,h',lb,lb' => by
    have h0:=h
    simp only [RD] at h0
    obtain ⟨a,o,kvs,rfl,s,s2,r⟩:=h0
    obtain ⟨i,li,ki,mi⟩:=RD.kind h'
    cases kind_one k (i:=7) ⟨o,kvs,s⟩ ki (by omega) li
    cases t' with
    | fdc ks' vs' =>
      simp only [RD] at h'
      obtain ⟨a',o',kvs',e,s',s2',r'⟩:=h'
      cases e
      rw [s] at s'; cases s'
      rw [s2,s2',RDs.uniq vs vs' _ r r' (fun l hl => lb l (by simp only [labs]; exact hl)) fun l hl => lb' l (by simp only [labs]; exact hl)]
    | _ => simp at mi
  | .ro ds,t',v,h,h',lb,lb' => by
    have h0:=h
    simp only [RD] at h0
    obtain ⟨a,xs,rfl,s,r⟩:=h0
    obtain ⟨i,li,ki,mi⟩:=RD.kind h'
    cases kind_one k (i:=1) ⟨xs,s⟩ ki (by omega) li
    cases t' with
    | ro es =>
      simp only [RD] at h'
      obtain ⟨a',ys,e,s',r'⟩:=h'
      cases e
      cases roL_two k s s'
      rw [RDs.uniq ds es xs r r' (fun l hl => lb l (by simp only [labs]; exact hl)) fun l hl => lb' l (by simp only [labs]; exact hl)]
    | _ => simp at mi
  | .lst l ds,t',v,h,h',lb,lb' => by
    have h0:=h
    simp only [RD] at h0
    obtain ⟨rfl,xs,s,r⟩:=h0
    obtain ⟨i,li,ki,mi⟩:=RD.kind h'
    cases kind_one k (i:=2) ⟨xs,s⟩ ki (by omega) li
    cases t' with
    | lst l' es =>
      simp only [RD] at h'
      obtain ⟨e,ys,s',r'⟩:=h'
      have e : ρ l=ρ l':=V.ref.inj e
      cases inj l l' (lb l (by simp only [labs]; exact List.mem_cons_self ..)) (lb' l' (by simp only [labs]; exact List.mem_cons_self ..)) e
      rw [s] at s'; cases s'
      rw [RDs.uniq ds es xs r r' (fun l hl => lb l (by simp only [labs]; exact List.mem_cons_of_mem _ hl)) fun l hl => lb' l (by simp only [labs]; exact List.mem_cons_of_mem _ hl)]
    | _ => simp at mi
  | .dct l ks vs,t',v,h,h',lb,lb' => by
    have h0:=h
    simp only [RD] at h0
    obtain ⟨rfl,q⟩:=h0
    obtain ⟨i,li,ki,mi⟩:=RD.kind h'
    cases kind_one k (i:=3) (by rcases q with ⟨kvs,s,_⟩ | ⟨kvs,s,_⟩; exact .inl ⟨_,s⟩; exact .inr ⟨_,s⟩) ki (by omega) li
    cases t' with
    | dct l' ks' vs' =>
      simp only [RD] at h'
      obtain ⟨e,q'⟩:=h'
      have e : ρ l=ρ l':=V.ref.inj e
      cases inj l l' (lb l (by simp only [labs]; exact List.mem_cons_self ..)) (lb' l' (by simp only [labs]; exact List.mem_cons_self ..)) e
      have b1 : ∀ j∈labsL vs,j < n:=fun j hj => lb j (by simp only [labs]; exact List.mem_cons_of_mem _ (List.mem_append_right _ hj))
      have b2 : ∀ j∈labsL vs',j < n:=fun j hj => lb' j (by simp only [labs]; exact List.mem_cons_of_mem _ (List.mem_append_right _ hj))
      rcases q with ⟨kvs,s,s2,r⟩ | ⟨kvs,s,s2,r⟩ <;> rcases q' with ⟨kvs',s',s2',r'⟩ | ⟨kvs',s',s2',r'⟩
      · rw [s] at s'; cases s'
        rw [s2,s2',RDs.uniq vs vs' _ r r' b1 b2]
      · rw [s] at s'; cases s'
      · rw [s] at s'; cases s'
      · rw [s] at s'; cases s'
        rw [s2,s2',RDs.uniq vs vs' _ r r' b1 b2]
    | _ => simp at mi
  | .obj l c ns vs,t',v,h,h',lb,lb' => by
    have h0:=h
    simp only [RD] at h0
    obtain ⟨rfl,C,dx,fs,hC,s,s2,r⟩:=h0
    obtain ⟨i,li,ki,mi⟩:=RD.kind h'
    cases kind_one k (i:=4) ⟨_,_,_,s⟩ ki (by omega) li
    cases t' with
    | obj l' c' ns' vs' =>
      simp only [RD] at h'
      obtain ⟨e,C',dx',fs',hC',s',s2',r'⟩:=h'
      have e : ρ l=ρ l':=V.ref.inj e
      cases inj l l' (lb l (by simp only [labs]; exact List.mem_cons_self ..)) (lb' l' (by simp only [labs]; exact List.mem_cons_self ..)) e
      rw [s] at s'; cases s'
      rw [s2,s2',G.ci c c' C hC hC',RDs.uniq vs vs' _ r r' (fun j hj => lb j (by simp only [labs]; exact List.mem_cons_of_mem _ hj)) fun j hj => lb' j (by simp only [labs]; exact List.mem_cons_of_mem _ hj)]
    | _ => simp at mi
theorem RDs.uniq : ∀ (t t' : List D) (v : List V),RDs G ρ H t v→RDs G ρ H t' v→(∀ l∈labsL t,l < n)→(∀ l∈labsL t',l < n)→t=t'
  | [],t',v,h,h',_,_ => by
    simp only [RDs] at h; subst h
    cases t' with
    | nil => rfl
    | cons d ds => simp only [RDs] at h'; obtain ⟨_,_,e,_⟩:=h'; cases e
  | d :: ds,t',v,h,h',lb,lb' => by
    simp only [RDs] at h
    obtain ⟨x,q,rfl,h1,h2⟩:=h
    cases t' with
    | nil => simp only [RDs] at h'; cases h'
    | cons d' ds' =>
      simp only [RDs] at h'
      obtain ⟨_,_,e,h1',h2'⟩:=h'
      cases e
      rw [RD.uniq d d' x h1 h1' (fun l hl => lb l (by simp only [labsL]; exact List.mem_append_left _ hl)) fun l hl => lb' l (by simp only [labsL]; exact List.mem_append_left _ hl),
        RDs.uniq ds ds' q h2 h2' (fun l hl => lb l (by simp only [labsL]; exact List.mem_append_right _ hl)) fun l hl => lb' l (by simp only [labsL]; exact List.mem_append_right _ hl)]
end
end
end
end Mi
namespace Mi
open PySem L2 PySem.Spec PyProof.Rows
inductive RF where
  | ok (t : D) (ts : List D) (n : Nat) | ex (d : D) (ts : List D) (n : Nat) | no
noncomputable abbrev FM:=List D→Nat→RF
structure CallP (G : Gx) (ρ : Nat→Addr) (n : Nat) (ts : List D) (vs : List V) (H : Hp) (ρ' : Nat→Addr) (n' : Nat) (ts' : List D) (H' : Hp) : Prop where
  old : ∀ l,l < n→ρ' l=ρ l
  le : n≤n'
  inj : ∀ i j,i < n'→j < n'→ρ' i=ρ' j→i=j
  dom : ∀ l,l < n'→∃ o,H' (ρ' l)=some o
  rd : RDs G ρ' H' ts' vs
  lb : ∀ l∈labsL ts',l < n'∧(l < n→l∈labsL ts)
  fr : ∀ a o,H a=some o→(∃ o',H' a=some o')∧((∀ l∈labsL ts,a≠ρ l)→H' a=some o)
  new : ∀ l,n≤l→l < n'→H (ρ' l)=none
  kd : KD G.K H'
section
variable {G : Gx} {ρ ρ' : Nat→Addr} {H H' : Hp}
mutual
theorem lab_mut : ∀ (t : D) (v : V),RD G ρ H t v→∀ l∈labs t,∃ o,H (ρ l)=some o∧(∀ xs,o≠.tup xs)∧∀ u w,o≠.frz u w
  | .non,v,h,l,hl => by simp only [labs] at hl; cases hl
  | .bool b,v,h,l,hl => by simp only [labs] at hl; cases hl
  | .int b,v,h,l,hl => by simp only [labs] at hl; cases hl
  | .str b,v,h,l,hl => by simp only [labs] at hl; cases hl
  | .exc b,v,h,l,hl => by simp only [labs] at hl; cases hl
  | .fn b,v,h,l,hl => by simp only [labs] at hl; cases hl
  | .tup ds,v,h,l,hl => by
    simp only [labs,RD] at h hl
    obtain ⟨a,xs,_,_,r⟩:=h
    exact labL_mut ds xs r l hl
  | .fdc ks vs,v,h,l,hl => by
    simp only [labs,RD] at h hl
    obtain ⟨a,o,kvs,_,_,_,r⟩:=h
    exact labL_mut vs _ r l hl
  | .ro ds,v,h,l,hl => by
    simp only [labs,RD] at h hl
    obtain ⟨a,xs,_,_,r⟩:=h
    exact labL_mut ds xs r l hl
  | .lst k ds,v,h,l,hl => by
    simp only [labs,RD] at h hl
    obtain ⟨_,xs,s,r⟩:=h
    rcases List.mem_cons.mp hl with rfl | hl
    · exact ⟨_,s,(fun _ q => nomatch q),(fun _ _ q => nomatch q)⟩
    · exact labL_mut ds xs r l hl
  | .dct k ks vs,v,h,l,hl => by
    simp only [labs,RD] at h hl
    obtain ⟨_,⟨kvs,s,s2,r⟩ | ⟨kvs,s,s2,r⟩⟩:=h
    · rcases List.mem_cons.mp hl with rfl | hl
      · exact ⟨_,s,(fun _ q => nomatch q),(fun _ _ q => nomatch q)⟩
      · rcases List.mem_append.mp hl with hl | hl
        · rw [s2] at hl
          obtain ⟨d,hd,hl⟩:=of_labsL hl
          rcases List.mem_cons.mp hd with rfl | hd
          · simp only [labs] at hl; cases hl
          obtain ⟨p,_,rfl⟩:=List.mem_map.mp hd
          obtain ⟨kk,_⟩:=p
          cases kk <;> simp only [keyD,labs] at hl <;> cases hl
        · exact labL_mut vs _ r l hl
    · rcases List.mem_cons.mp hl with rfl | hl
      · exact ⟨_,s,(fun _ q => nomatch q),(fun _ _ q => nomatch q)⟩
      · rcases List.mem_append.mp hl with hl | hl
        · rw [s2] at hl
          obtain ⟨d,hd,hl⟩:=of_labsL hl
          obtain ⟨p,_,rfl⟩:=List.mem_map.mp hd
          simp only [dkD,labs] at hl
          obtain ⟨d,hd,hl⟩:=of_labsL hl
          obtain ⟨kk,_,rfl⟩:=List.mem_map.mp hd
          cases kk <;> simp only [keyD,labs] at hl <;> cases hl
        · exact labL_mut vs _ r l hl
  | .obj k c ns vs,v,h,l,hl => by
    simp only [labs,RD] at h hl
    obtain ⟨_,C,dx,fs,_,s,_,r⟩:=h
    rcases List.mem_cons.mp hl with rfl | hl
    · exact ⟨_,s,(fun _ q => nomatch q),(fun _ _ q => nomatch q)⟩
    · exact labL_mut vs _ r l hl
theorem labL_mut : ∀ (t : List D) (v : List V),RDs G ρ H t v→∀ l∈labsL t,∃ o,H (ρ l)=some o∧(∀ xs,o≠.tup xs)∧∀ u w,o≠.frz u w
  | [],v,h,l,hl => by simp only [labsL] at hl; cases hl
  | d :: ds,v,h,l,hl => by
    simp only [labsL,RDs] at h hl
    obtain ⟨x,r,_,h1,h2⟩:=h
    rcases List.mem_append.mp hl with hl | hl
    · exact lab_mut d x h1 l hl
    · exact labL_mut ds r h2 l hl
end
theorem keys_nolab {kvs : List (Key×V)} {l : Nat} (hl : l∈labsL (kvs.map fun p => keyD p.1)) : False:=by
  obtain ⟨d,hd,hl⟩:=of_labsL hl
  obtain ⟨p,_,rfl⟩:=List.mem_map.mp hd
  obtain ⟨kk,_⟩:=p
  cases kk <;> simp only [keyD,labs] at hl <;> cases hl
theorem keysT_nolab {kvs : List (List Key×V)} {l : Nat} (hl : l∈labsL (kvs.map fun p => dkD p.1)) : False:=by
  obtain ⟨d,hd,hl⟩:=of_labsL hl
  obtain ⟨p,_,rfl⟩:=List.mem_map.mp hd
  simp only [dkD,labs] at hl
  obtain ⟨d,hd,hl⟩:=of_labsL hl
  obtain ⟨kk,_,rfl⟩:=List.mem_map.mp hd
  cases kk <;> simp only [keyD,labs] at hl <;> cases hl
mutual
theorem findT_some (l : Nat) : ∀ (t : D) (v : V),RD G ρ H t v→l∈labs t→(findT l t).isSome=true
  | .non,v,h,hl => by simp only [labs] at hl; cases hl
  | .bool b,v,h,hl => by simp only [labs] at hl; cases hl
  | .int b,v,h,hl => by simp only [labs] at hl; cases hl
  | .str b,v,h,hl => by simp only [labs] at hl; cases hl
  | .exc b,v,h,hl => by simp only [labs] at hl; cases hl
  | .fn b,v,h,hl => by simp only [labs] at hl; cases hl
  | .tup ds,v,h,hl => by
    simp only [labs,RD,findT] at h hl ⊢
    obtain ⟨a,xs,_,_,r⟩:=h
    exact findL_some l ds xs r hl
  | .fdc ks vs,v,h,hl => by
    simp only [labs,RD,findT] at h hl ⊢
    obtain ⟨a,o,kvs,_,_,_,r⟩:=h
    exact findL_some l vs _ r hl
  | .ro ds,v,h,hl => by
    simp only [labs,RD,findT] at h hl ⊢
    obtain ⟨a,xs,_,_,r⟩:=h
    exact findL_some l ds xs r hl
  | .lst k ds,v,h,hl => by
    simp only [labs,RD,findT] at h hl ⊢
    obtain ⟨_,xs,s,r⟩:=h
    by_cases e : k=l
    · rw [if_pos e]; rfl
    · rw [if_neg e]
      rcases List.mem_cons.mp hl with q | q
      · exact absurd q.symm e
      · exact findL_some l ds xs r q
  | .dct k ks vs,v,h,hl => by
    simp only [labs,RD,findT] at h hl ⊢
    obtain ⟨_,⟨kvs,s,s2,r⟩ | ⟨kvs,s,s2,r⟩⟩:=h
    · by_cases e : k=l
      · rw [if_pos e]; rfl
      · rw [if_neg e]
        rcases List.mem_cons.mp hl with q | q
        · exact absurd q.symm e
        · rcases List.mem_append.mp q with q | q
          · rw [s2] at q; exact (keys_nolab q).elim
          · exact findL_some l vs _ r q
    · by_cases e : k=l
      · rw [if_pos e]; rfl
      · rw [if_neg e]
        rcases List.mem_cons.mp hl with q | q
        · exact absurd q.symm e
        · rcases List.mem_append.mp q with q | q
          · rw [s2] at q; exact (keysT_nolab q).elim
          · exact findL_some l vs _ r q
  | .obj k c ns vs,v,h,hl => by
    simp only [labs,RD,findT] at h hl ⊢
    obtain ⟨_,C,dx,fs,_,s,_,r⟩:=h
    by_cases e : k=l
    · rw [if_pos e]; rfl
    · rw [if_neg e]
      rcases List.mem_cons.mp hl with q | q
      · exact absurd q.symm e
      · exact findL_some l vs _ r q
theorem findL_some (l : Nat) : ∀ (t : List D) (v : List V),RDs G ρ H t v→l∈labsL t→(findL l t).isSome=true
  | [],v,h,hl => by simp only [labsL] at hl; cases hl
  | d :: ds,v,h,hl => by
    simp only [labsL,RDs,findL] at h hl ⊢
    obtain ⟨x,r,_,h1,h2⟩:=h
    cases e : findT l d with
    | some y => rfl
    | none =>
      rcases List.mem_append.mp hl with q | q
      · have:=findT_some l d x h1 q
        rw [e] at this; cases this
      · exact findL_some l ds r h2 q
end
theorem CallP.stays {n n' : Nat} {ts ts' : List D} {vs : List V} (P : CallP G ρ n ts vs H ρ' n' ts' H') (r : RDs G ρ H ts vs) : Stays H H':=by
  refine ⟨fun b xs e => (P.fr b _ e).2 fun l hl z => ?_,fun b o u e => (P.fr b _ e).2 fun l hl z => ?_⟩
  · obtain ⟨o,q,q1,_⟩:=labL_mut ts vs r l hl
    rw [← z,e] at q; cases q; exact q1 _ rfl
  · obtain ⟨o,q,_,q1⟩:=labL_mut ts vs r l hl
    rw [← z,e] at q; cases q; exact q1 _ _ rfl
section
variable (k : KD G.K H) {n : Nat} (inj : ∀ i j,i < n→j < n→ρ i=ρ j→i=j) {ts : List D} {vs : List V} (r : RDs G ρ H ts vs) (lb : ∀ l∈labsL ts,l < n)
include k inj r lb
mutual
theorem rp_find_id : ∀ (t : D) (v : V),RD G ρ H t v→(∀ l∈labs t,l < n)→rp (fun l => findL l ts) t=t
  | .non,v,h,hl => rfl
  | .bool b,v,h,hl => rfl
  | .int b,v,h,hl => rfl
  | .str b,v,h,hl => rfl
  | .exc b,v,h,hl => rfl
  | .fn b,v,h,hl => rfl
  | .tup ds,v,h,hl => by
    simp only [labs,RD,rp] at h hl ⊢
    obtain ⟨a,xs,_,_,r1⟩:=h
    rw [rpL_find_id ds xs r1 hl]
  | .fdc ks vs,v,h,hl => by
    simp only [labs,RD,rp] at h hl ⊢
    obtain ⟨a,o,kvs,_,_,_,r1⟩:=h
    rw [rpL_find_id vs _ r1 hl]
  | .ro ds,v,h,hl => by
    simp only [labs,RD,rp] at h hl ⊢
    obtain ⟨a,xs,_,_,r1⟩:=h
    rw [rpL_find_id ds xs r1 hl]
  | .lst l ds,v,h,hl => by
    simp only [rp]
    cases e : findL l ts with
    | some d =>
      dsimp only
      obtain ⟨q1,q2⟩:=findL_rd l ts vs d r e
      have h':=h
      simp only [RD] at h'
      obtain ⟨rfl,_⟩:=h'
      exact RD.uniq k inj _ _ _ q1 h (fun j hj => lb j (q2 j hj)) hl
    | none =>
      dsimp only
      simp only [labs,RD] at h hl
      obtain ⟨_,xs,s,r1⟩:=h
      rw [rpL_find_id ds xs r1 fun j hj => hl j (List.mem_cons_of_mem _ hj)]
  | .dct l ks vs',v,h,hl => by
    simp only [rp]
    cases e : findL l ts with
    | some d =>
      dsimp only
      obtain ⟨q1,q2⟩:=findL_rd l ts vs d r e
      have h':=h
      simp only [RD] at h'
      obtain ⟨rfl,_⟩:=h'
      exact RD.uniq k inj _ _ _ q1 h (fun j hj => lb j (q2 j hj)) hl
    | none =>
      dsimp only
      simp only [labs,RD] at h hl
      obtain ⟨_,⟨kvs,s,s2,r1⟩ | ⟨kvs,s,s2,r1⟩⟩:=h
      · rw [rpL_find_id vs' _ r1 fun j hj => hl j (List.mem_cons_of_mem _ (List.mem_append_right _ hj))]
      · rw [rpL_find_id vs' _ r1 fun j hj => hl j (List.mem_cons_of_mem _ (List.mem_append_right _ hj))]
  | .obj l c ns vs',v,h,hl => by
    simp only [rp]
    cases e : findL l ts with
    | some d =>
      dsimp only
      obtain ⟨q1,q2⟩:=findL_rd l ts vs d r e
      have h':=h
      simp only [RD] at h'
      obtain ⟨rfl,_⟩:=h'
      exact RD.uniq k inj _ _ _ q1 h (fun j hj => lb j (q2 j hj)) hl
    | none =>
      dsimp only
      simp only [labs,RD] at h hl
      obtain ⟨_,C,dx,fs,_,s,_,r1⟩:=h
      rw [rpL_find_id vs' _ r1 fun j hj => hl j (List.mem_cons_of_mem _ hj)]
theorem rpL_find_id : ∀ (t : List D) (v : List V),RDs G ρ H t v→(∀ l∈labsL t,l < n)→rpL (fun l => findL l ts) t=t
  | [],v,h,hl => rfl
  | d :: ds,v,h,hl => by
    simp only [labsL,RDs,rpL] at h hl ⊢
    obtain ⟨x,q,_,h1,h2⟩:=h
    rw [rp_find_id d x h1 fun j hj => hl j (List.mem_append_left _ hj),rpL_find_id ds q h2 fun j hj => hl j (List.mem_append_right _ hj)]
end
theorem rpO_find_id : ∀ (t : List (Option D)) (v : List (Option V)),Sl G ρ H t v→(∀ l∈labsO t,l < n)→rpO (fun l => findL l ts) t=t
  | [],v,h,hl => rfl
  | none :: r',v,h,hl => by
    simp only [labsO,Sl,rpO] at h hl ⊢
    obtain ⟨o,q,_,h⟩:=h
    rw [rpO_find_id r' q h hl]
  | some d :: ds,v,h,hl => by
    simp only [labsO,Sl,rpO] at h hl ⊢
    obtain ⟨x,q,_,h1,h2⟩:=h
    rw [rp_find_id k inj r lb d x h1 fun j hj => hl j (List.mem_append_left _ hj),rpO_find_id ds q h2 fun j hj => hl j (List.mem_append_right _ hj)]
end
variable {F : Fy} {σv tv : List (Option V)} {s : Stt} {np : Nat}
theorem MR.call {ts ts' : List D} {vs : List V} {n' : Nat} (M : MR G F.toFx ρ H σv tv s) (r : RDs G ρ H ts vs) (lb : LB F.toFx ρ s.n (labsL ts)) (P : CallP G ρ s.n ts vs H ρ' n' ts' H')
    (hc : ∀ l∈labsS s,l∈labsL ts→(findL l ts').isSome=true) : MR G F.toFx ρ' H' σv tv { σ:=rpO (fun l => findL l ts') s.σ,tm:=rpO (fun l => findL l ts') s.tm,n:=n' }:=by
  have st:=P.stays r
  have step : ∀ l∈labsS s,ρ' l=ρ l∧(match findL l ts' with | some d => RD G ρ' H' d (.ref (ρ l)) | none => ∀ o,H (ρ l)=some o→H' (ρ l)=some o):=fun l hl => by
    have ol:=P.old l (M.lab l hl)
    refine ⟨ol,?_⟩
    cases e : findL l ts' with
    | some d =>
      have q:=(findL_rd l ts' vs d P.rd e).1
      rw [ol] at q; exact q
    | none =>
      intro o e1
      refine (P.fr _ _ e1).2 fun j hj z => ?_
      have : l=j:=M.inj l j (M.lab l hl) (lb j hj).1 z
      subst this
      have:=hc l hl hj
      rw [e] at this; cases this
  have hn : ∀ l,l < n'→l < s.n∨H (ρ' l)=none:=fun l hl => by
    by_cases h : l < s.n
    · exact .inl h
    · exact .inr (P.new l (Nat.not_lt.mp h) hl)
  have hlab : ∀ (xs : List (Option D)),(∀ l∈labsO xs,l∈labsS s)→∀ l∈labsO (rpO (fun l => findL l ts') xs),l < n'∧(l < s.n→l∈labsS s∨l∈labsL ts):=fun xs hx l h => by
    rcases labsO_rp l xs h with q | ⟨k,d,q1,q2,q3⟩
    · exact ⟨Nat.lt_of_lt_of_le (M.lab l (hx l q)) P.le,fun _ => .inl (hx l q)⟩
    · obtain ⟨b1,b2⟩:=P.lb l ((findL_rd k ts' vs d P.rd q2).2 l q3)
      exact ⟨b1,fun z => .inr (b2 z)⟩
  have all : ∀ l∈labsS { σ:=rpO (fun l => findL l ts') s.σ,tm:=rpO (fun l => findL l ts') s.tm,n:=n' },l < n'∧(l < s.n→l∈labsS s∨l∈labsL ts):=fun l h => by
    rcases List.mem_append.mp h with h | h
    · exact hlab s.σ (fun l q => List.mem_append_left _ q) l h
    · exact hlab s.tm (fun l q => List.mem_append_right _ q) l h
  refine ⟨Sl.rp st M.sl fun l hl => step l (List.mem_append_left _ hl),Sl.rp st M.tm fun l hl => step l (List.mem_append_right _ hl),P.inj,P.dom,fun l h => (all l h).1,fun l h => ?_,fun a o e => ?_,P.kd,fun l hl z => ?_,⟨Nat.le_trans M.bas.1 P.le,fun l hl => ?_⟩⟩
  · rcases hn l (all l h).1 with q | q
    · rw [P.old l q]
      rcases (all l h).2 q with z | z
      · exact M.own l z
      · exact (lb l z).2
    · exact .inr (M.fresh0 q)
  · obtain ⟨⟨o1,e1⟩,e2⟩:=M.frm a o e
    obtain ⟨e3,e4⟩:=P.fr a o1 e1
    refine ⟨e3,fun nA => ?_⟩
    have e5:=e2 nA
    rw [e1] at e5; cases e5
    refine e4 fun l hl z => ?_
    rcases (lb l hl).2 with q | q
    · exact nA (z ▸ q)
    · rw [← z,e] at q; cases q
  · rcases hn l hl with q | q
    · rw [P.old l q] at z; exact M.frb l q z
    · obtain ⟨⟨o,e⟩,_⟩:=F.zA _ z
      obtain ⟨⟨o',e'⟩,_⟩:=M.frm _ o e
      rw [q] at e'; cases e'
  · rw [P.old l (Nat.lt_of_lt_of_le hl M.bas.1)]; exact M.bas.2 l hl
theorem MR.call0 {ts : List D} {vs : List V} {n' : Nat} (M : MR G F.toFx ρ H σv tv s) (r : RDs G ρ H ts vs) (lb : LB F.toFx ρ s.n (labsL ts)) (P : CallP G ρ s.n ts vs H ρ' n' ts H') : MR G F.toFx ρ' H' σv tv { s with n:=n' }:=by
  have hf : ∀ l∈labsL ts,(findL l ts).isSome=true:=fun l hl => findL_some l ts vs r hl
  have M2:=M.call r lb P fun l _ hl => hf l hl
  rw [rpO_find_id M.kd M.inj r (fun l hl => (lb l hl).1) s.σ σv M.sl fun l hl => M.lab l (List.mem_append_left _ hl),rpO_find_id M.kd M.inj r (fun l hl => (lb l hl).1) s.tm tv M.tm fun l hl => M.lab l (List.mem_append_right _ hl)] at M2
  exact M2
open Classical in
noncomputable def callK (r : RF) (ts : List D) : M D:=fun s => match r with
  | .ok t ts' n' => if ts'=ts then .ok t { s with n:=n' } else
      if ∀ l∈labsS s,l∈labsL ts→(findL l ts').isSome=true then .ok t { σ:=rpO (fun l => findL l ts') s.σ,tm:=rpO (fun l => findL l ts') s.tm,n:=n' } else .no
  | _ => .no
noncomputable def mCall (f : FM) (ms : List (M D)) : M D:=bd (mArgs ms) fun ts s => callK (f ts s.n) ts s
noncomputable def spM (G : Gx) (np : Nat) (f : FM) : Sp:=fun vs H Q _ => vs.length=np∧∃ ρ n ts,RDs G ρ H ts vs∧(∀ i j,i < n→j < n→ρ i=ρ j→i=j)∧(∀ l,l < n→∃ o,H (ρ l)=some o)∧(∀ l∈labsL ts,l < n)∧KD G.K H∧match f ts n with
  | .ok t ts' n' => ∀ ρ' v H',CallP G ρ n ts vs H ρ' n' ts' H'→RD G ρ' H' t v→(∀ l∈labs t,l < n'∧(l < n→l∈labsL ts))→Q v H'
  | _ => False
theorem callK_imp {ts : List D} {vs : List V} {f : FM} {Q : VK} {E : XK} (hl : vs.length=np) (M : MRL G F.toFx ρ H σv tv s ts vs) (W : wM G F σv tv (callK (f ts s.n) ts s) Q) : spM G np f vs H Q E:=by
  refine ⟨hl,ρ,s.n,ts,M.rd,M.m.inj,M.m.dom,fun l h => (M.lb l h).1,M.m.kd,?_⟩
  cases e : f ts s.n with
  | no => rw [e] at W; exact W
  | ex d ts' n' => rw [e] at W; exact W
  | ok t ts' n' =>
    rw [e] at W
    intro ρ' v H' P rd lbt
    have own : ∀ l∈labs t,F.A0 (ρ' l)∨F.H0 (ρ' l)=none:=fun l h => by
      obtain ⟨b1,b2⟩:=lbt l h
      by_cases hn : l < s.n
      · rw [P.old l hn]; exact (M.lb l (b2 hn)).2
      · exact .inr (M.m.fresh0 (P.new l (Nat.not_lt.mp hn) b1))
    unfold callK at W
    dsimp only at W
    split at W
    · rename_i et
      subst et
      exact W.out (M.m.call0 M.rd M.lb P) rd fun l h => ⟨(lbt l h).1,own l h⟩
    · split at W
      · rename_i hc
        exact W.out (M.m.call M.rd M.lb P hc) rd fun l h => ⟨(lbt l h).1,own l h⟩
      · exact False.elim W
theorem mArgs_len : ∀ (ms : List (M D)) (s : Stt) (ts : List D) (s' : Stt),mArgs ms s=.ok ts s'→ts.length=ms.length:=by
  intro ms
  induction ms with
  | nil => intro s ts s' e; simp only [mArgs,rt,Res.ok.injEq] at e; rw [← e.1]; rfl
  | cons m ms ih =>
    intro s ts s' e
    simp only [mArgs,bd,psh] at e
    cases e1 : m s with
    | ok t s1 =>
      simp only [e1] at e
      cases e2 : mArgs ms (s1.psh t) with
      | ok ys s2 =>
        simp only [e2,pop] at e
        cases e3 : s2.tm with
        | nil => simp only [e3] at e; cases e
        | cons o r =>
          cases o with
          | none => simp only [e3] at e; cases e
          | some t' =>
            simp only [e3,rt,Res.ok.injEq] at e
            rw [← e.1,List.length_cons,List.length_cons,ih _ _ _ e2]
      | ex d s2 => simp only [e2] at e; cases e
      | no => simp only [e2] at e; cases e
    | ex d s1 => simp only [e1] at e; cases e
    | no => simp only [e1] at e; cases e
theorem se_call {X : Cx} {e : Expr} {es : List Expr} {pos p : Pos} {CX : CXT} {k : Nat} {fa : Addr} {fd : FuncData} {ps : List Str} {x : Str} {E : XK} {f : FM} {ms : List (M D)} (hk : X.K=G.K) (Fn : FnOk X.prog X.w X.K X.mg X.base CX k fa fd ps (spM G ps.length f)) (hr : Room k X.A) (hg : Gl X x) (hm : X.mg x=some (.ref fa)) (hkp : PySem.W.keepIn X.K (.ref fa)=true) (hb : Binds X.K fd ps []) (hx : Passes CX X E)
    (ha : SA X G F (e :: es) (mArgs ms)) (hln : ms.length = ps.length) (hdb : (x == ("__debug__" : Str)) = false := by decide) (he : starEach (e :: es) X.env = (false, eval e X.env) :: starEach es X.env := by rfl) (hpl : (backTo pos (starEach es X.env)).any (·.1) = false := by rfl) :
    SE X G F (.Call (.Name x p) (e :: es) [] pos) (mCall f ms):=by
  refine PE.imp0 (pe_call Fn hr hg hm hkp hb .nil hx ha hdb he hpl) fun σ H Q ⟨tv,hs,ρ,s,M,W⟩ => ⟨tv,hs,ρ,s,M,?_⟩
  unfold mCall bd at W
  cases e1 : mArgs ms s with
  | ex d s1 => rw [e1] at W; exact W
  | no => rw [e1] at W; exact W
  | ok ts s1 =>
    rw [e1] at W
    intro ρ1 vs H1 M1
    rw [List.append_nil]
    exact callK_imp (by rw [← M1.rd.length,mArgs_len ms s ts s1 e1,hln]) M1 W
noncomputable def runF (nl : Nat) (mb : MS) : FM:=fun ts n => match mb { σ:=ts.map some++List.replicate (nl - ts.length) none,tm:=ts.map some,n:=n } with
  | .nx s' => match allSome s'.tm with | some ts' => .ok .non ts' s'.n | none => .no
  | .rt t s' => match allSome s'.tm with | some ts' => .ok t ts' s'.n | none => .no
  | .ex d s' => match allSome s'.tm with | some ts' => .ex d ts' s'.n | none => .no
  | _ => .no
noncomputable def bodyF (G : Gx) (ρ : Nat→Addr) (n : Nat) (ts : List D) (vs : List V) (H : Hp) (lb : ∀ l∈labsL ts,l < n) (dom : ∀ l,l < n→∃ o,H (ρ l)=some o) : Fy where
  A0:=fun a => ∃ l∈labsL ts,a=ρ l
  H0:=H
  Z:=fun a => (∃ o,H a=some o)∧∀ l,l < n→a≠ρ l
  zA:=fun a z => ⟨z.1,fun ⟨l,hl,e⟩ => z.2 l (lb l hl) e⟩
  aH:=fun a ⟨l,hl,e⟩ => e ▸ dom l (lb l hl)
  n0:=n
  ρ0:=ρ
  tv0:=vs.map some
  xw:=fun _ _ => False
theorem RDs.sl : ∀ {ts : List D} {vs : List V},RDs G ρ H ts vs→Sl G ρ H (ts.map some) (vs.map some)∧labsO (ts.map some)=labsL ts
  | [],vs,h => by simp only [RDs] at h; subst h; simp [Sl,labsO,labsL]
  | d :: ds,vs,h => by
    simp only [RDs] at h
    obtain ⟨x,q,rfl,h1,h2⟩:=h
    obtain ⟨q1,q2⟩:=RDs.sl h2
    refine ⟨?_,by simp only [List.map_cons,labsO,labsL,q2]⟩
    simp only [List.map_cons,Sl]
    exact ⟨_,_,rfl,h1,q1⟩
theorem body_end {ts ts' : List D} {vs : List V} {n : Nat} {lb : ∀ l∈labsL ts,l < n} {dom : ∀ l,l < n→∃ o,H (ρ l)=some o} (inj : ∀ i j,i < n→j < n→ρ i=ρ j→i=j) (M : MR G (bodyF G ρ n ts vs H lb dom).toFx ρ' H' σv (vs.map some) s) (e : allSome s.tm=some ts') :
    CallP G ρ n ts vs H ρ' s.n ts' H'∧∀ l,l < s.n→((bodyF G ρ n ts vs H lb dom).A0 (ρ' l)∨H (ρ' l)=none)→l < n→l∈labsL ts:=by
  have own : ∀ l,l < s.n→((bodyF G ρ n ts vs H lb dom).A0 (ρ' l)∨H (ρ' l)=none)→l < n→l∈labsL ts:=fun l hl q hn => by
    have ol:=M.bas.2 l hn
    have ol : ρ' l=ρ l:=ol
    rcases q with ⟨j,hj,q⟩ | q
    · rw [ol] at q
      rw [inj l j hn (lb j hj) q]; exact hj
    · rw [ol] at q
      obtain ⟨o,z⟩:=dom l hn
      rw [z] at q; cases q
  obtain ⟨r1,r2⟩:=Sl.all M.tm e
  refine ⟨⟨M.bas.2,M.bas.1,M.inj,M.dom,r1,fun l hl => ?_,fun a o e1 => ?_,fun l h1 h2 => ?_,M.kd⟩,own⟩
  · rw [r2] at hl
    have m : l∈labsS s:=List.mem_append_right _ hl
    exact ⟨M.lab l m,own l (M.lab l m) (M.own l m)⟩
  · obtain ⟨q1,q2⟩:=M.frm a o e1
    exact ⟨q1,fun z => q2 fun ⟨l,hl,e⟩ => z l hl e⟩
  · cases q : H (ρ' l) with
    | none => rfl
    | some o =>
      refine absurd ⟨⟨o,q⟩,fun j hj e => ?_⟩ (M.frb l h2)
      have oj : ρ' j=ρ j:=M.bas.2 j hj
      have:=M.inj l j h2 (Nat.lt_of_lt_of_le hj M.bas.1) (e.trans oj.symm)
      omega
theorem fn_M {P : Program} {w : World} {K : PySem.W.Frag} {mg : Str→Option Value} {base : Heap} {x qual : Str} {st : Stmt} {fa : Addr} {fd : FuncData} {N ps : List Str} {k : Nat} {mb : MS} (Fn : Fun K x qual st fa fd) (S : FnScope N ps (defScope st)) (hG : G.K=K)
    (hb : ∀ (cdv : Value) (A : Around) (outer : List Env) (s : Shared) (H : Hp) (E : XK) (F : Fy),Room k (A.deeper (envOfC qual (defScope st) s.heap.objs.size fa cdv))→SSs (cxOf CX0 P w K mg base N qual (defScope st) fa cdv A outer s H E).nox G F (defBody st) mb) :
    FnOk P w K mg base CX0 (k+1) fa fd ps (spM G ps.length (runF N.length mb)):=by
  refine Fn.ok S (fun vs H Q E h => h.1) fun cdv A outer s H vs Q E hr h => ?_
  obtain ⟨hl,ρ,n,ts,r,inj,dom,lb,kd,W⟩:=h
  refine ⟨_,hb cdv A outer s H E (bodyF G ρ n ts vs H lb dom) hr,vs.map some,List.suffix_refl _,ρ,{ σ:=ts.map some++List.replicate (N.length - ts.length) none,tm:=ts.map some,n:=n },?_,?_⟩
  · obtain ⟨r1,r2⟩:=RDs.sl r
    have hlen:=r.length
    have sub : ∀ l∈labsS { σ:=ts.map some++List.replicate (N.length - ts.length) none,tm:=ts.map some,n:=n },l∈labsL ts:=fun l h => by
      rcases List.mem_append.mp h with h | h
      · have h : l∈labsO (ts.map some++List.replicate (N.length - ts.length) none):=h
        rw [labsO_append] at h
        rcases List.mem_append.mp h with h | h
        · rw [← r2]; exact h
        · exact absurd h (labs_none _)
      · rw [← r2]; exact h
    refine ⟨?_,r1,inj,dom,fun l h => lb l (sub l h),fun l h => .inl ⟨l,sub l h,rfl⟩,fun a o e => ⟨⟨o,e⟩,fun _ => e⟩,kd,fun l hl z => z.2 l hl rfl,⟨Nat.le_refl _,fun l _ => rfl⟩⟩
    show Sl G ρ H _ (vs.map some++List.replicate (N.length - vs.length) none)
    rw [← hlen]
    exact r1.append (Sl.none_map _)
  · unfold runF at W
    cases e : mb { σ:=ts.map some++List.replicate (N.length - ts.length) none,tm:=ts.map some,n:=n } with
    | nx s' =>
      simp only [e] at W
      cases ea : allSome s'.tm with
      | none => simp only [ea] at W
      | some ts' =>
        simp only [ea] at W
        intro ρ' σv' H' M
        obtain ⟨P,_⟩:=body_end inj M ea
        exact W ρ' .non H' P (by simp only [RD]) fun l h => by simp [labs] at h
    | rt t s' =>
      simp only [e] at W
      cases ea : allSome s'.tm with
      | none => simp only [ea] at W
      | some ts' =>
        simp only [ea] at W
        intro ρ' σv' v H' M
        obtain ⟨P,own⟩:=body_end inj M.m ea
        exact W ρ' v H' P M.rd1 fun l h => ⟨(M.lb1 l h).1,own l (M.lb1 l h).1 (M.lb1 l h).2⟩
    | bk s' => simp only [e] at W
    | ct s' => simp only [e] at W
    | ex d s' =>
      simp only [e] at W
      cases ea : allSome s'.tm with
      | none => simp only [ea] at W
      | some ts' => simp only [ea] at W
    | no => simp only [e] at W
end
end Mi
namespace Mi
open PySem L2 PySem.Spec PyProof.Rows
mutual
noncomputable def sz : D→Nat
  | .tup ds => szL ds+1
  | .ro ds => szL ds+1
  | .fdc _ vs => szL vs+1
  | .lst _ ds => szL ds+1
  | .dct _ _ vs => szL vs+1
  | .obj _ _ _ vs => szL vs+1
  | .non => 1 | .bool _ => 1 | .int _ => 1 | .str _ => 1 | .exc _ => 1 | .fn _ => 1
noncomputable def szL : List D→Nat
  | [] => 0
  | d :: ds => sz d+szL ds
end
mutual
theorem findT_sz (l : Nat) : ∀ (t d : D),findT l t=some d→sz d≤sz t
  | .non,d,e => by simp only [findT] at e; cases e
  | .bool b,d,e => by simp only [findT] at e; cases e
  | .int b,d,e => by simp only [findT] at e; cases e
  | .str b,d,e => by simp only [findT] at e; cases e
  | .exc b,d,e => by simp only [findT] at e; cases e
  | .fn b,d,e => by simp only [findT] at e; cases e
  | .tup ds,d,e => by simp only [findT,sz] at e ⊢; have:=findL_sz l ds d e; omega
  | .ro ds,d,e => by simp only [findT,sz] at e ⊢; have:=findL_sz l ds d e; omega
  | .fdc ks vs,d,e => by simp only [findT,sz] at e ⊢; have:=findL_sz l vs d e; omega
  | .lst k ds,d,e => by
    simp only [findT] at e
    by_cases h : k=l
    · rw [if_pos h] at e; cases e; exact Nat.le_refl _
    · rw [if_neg h] at e; simp only [sz]; have:=findL_sz l ds d e; omega
  | .dct k ks vs,d,e => by
    simp only [findT] at e
    by_cases h : k=l
    · rw [if_pos h] at e; cases e; exact Nat.le_refl _
    · rw [if_neg h] at e; simp only [sz]; have:=findL_sz l vs d e; omega
  | .obj k c ns vs,d,e => by
    simp only [findT] at e
    by_cases h : k=l
    · rw [if_pos h] at e; cases e; exact Nat.le_refl _
    · rw [if_neg h] at e; simp only [sz]; have:=findL_sz l vs d e; omega
theorem findL_sz (l : Nat) : ∀ (t : List D) (d : D),findL l t=some d→sz d≤szL t
  | [],d,e => by simp only [findL] at e; cases e
  | t :: ts,d,e => by
    simp only [findL] at e
    simp only [szL]
    cases e1 : findT l t with
    | some y => rw [e1] at e; cases e; have:=findT_sz l t _ e1; omega
    | none => rw [e1] at e; have:=findL_sz l ts d e; omega
end
section
variable {G : Gx} {F : Fy} {ρ : Nat→Addr} {H : Hp} {σv tv : List (Option V)} {s : Stt} {t : D} {ts ds es : List D} {v : V} {vs xs ys : List V} {l : Nat} {Q : VK}
theorem no_self (M : MR G F.toFx ρ H σv tv s) (h : RD G ρ H (.lst l ds) v) (lb : ∀ j∈labs (.lst l ds),j < s.n) : l ∉ labsL ds:=fun hl => by
  have h0:=h
  simp only [RD] at h0
  obtain ⟨rfl,xs,q,r⟩:=h0
  have:=findL_some l ds xs r hl
  cases e : findL l ds with
  | none => rw [e] at this; cases this
  | some d =>
    obtain ⟨q1,q2⟩:=findL_rd l ds xs d r e
    have e2:=RD.uniq M.kd M.inj _ _ _ q1 h (fun j hj => lb j (by simp only [labs]; exact List.mem_cons_of_mem _ (q2 j hj))) lb
    have e3:=findL_sz l ds d e
    rw [e2] at e3
    simp only [sz] at e3
    omega
theorem MR.put2 {o : HO} {d : D} (M : MR G F.toFx ρ H σv tv s) (ln : l < s.n) (ow : F.A0 (ρ l)∨F.H0 (ρ l)=none) (ts : Stays H (upd H (ρ l) o)) (k : KD G.K (upd H (ρ l) o)) (hd : RD G ρ (upd H (ρ l) o) d (.ref (ρ l))) (hb : LB F.toFx ρ s.n (labs d)) :
    MR G F.toFx ρ (upd H (ρ l) o) σv tv (s.put l d):=by
  have step : ∀ k,k∈labsS s→ρ k=ρ k∧(match (if k=l then some d else none : Option D) with | some d => RD G ρ (upd H (ρ l) o) d (.ref (ρ k)) | none => ∀ o',H (ρ k)=some o'→upd H (ρ l) o (ρ k)=some o'):=fun k hk => by
    refine ⟨rfl,?_⟩
    by_cases e : k=l
    · rw [if_pos e]; subst e; exact hd
    · rw [if_neg e]
      intro o' q
      rw [upd_ne (fun z => e (M.inj k l (M.lab k hk) ln z))]
      exact q
  have sub : ∀ (xs : List (Option D)) (j : Nat),j∈labsO (rpO (fun k => if k=l then some d else none) xs)→(∀ i∈labsO xs,i∈labsS s)→j < s.n∧(F.A0 (ρ j)∨F.H0 (ρ j)=none):=fun xs j h hx => by
    rcases labsO_rp j xs h with q | ⟨k,d',q1,q2,q3⟩
    · exact ⟨M.lab j (hx j q),M.own j (hx j q)⟩
    · by_cases e : k=l
      · rw [if_pos e] at q2; cases q2; exact hb j q3
      · rw [if_neg e] at q2; cases q2
  have all : ∀ j∈labsS (s.put l d),j < s.n∧(F.A0 (ρ j)∨F.H0 (ρ j)=none):=fun j h => by
    rcases List.mem_append.mp h with h | h
    · exact sub s.σ j h fun i hi => List.mem_append_left _ hi
    · exact sub s.tm j h fun i hi => List.mem_append_right _ hi
  refine ⟨Sl.rp ts M.sl fun k hk => step k (List.mem_append_left _ hk),Sl.rp ts M.tm fun k hk => step k (List.mem_append_right _ hk),M.inj,fun k hk => ?_,fun j h => (all j h).1,fun j h => (all j h).2,fun a o' e => ?_,k,M.frb,M.bas⟩
  · by_cases e : ρ k=ρ l
    · rw [e]; exact ⟨o,upd_same⟩
    · rw [upd_ne e]; exact M.dom k hk
  · obtain ⟨⟨o1,e1⟩,e2⟩:=M.frm a o' e
    by_cases ea : a=ρ l
    · subst ea
      refine ⟨⟨o,upd_same⟩,fun n => ?_⟩
      rcases ow with q | q
      · exact absurd q n
      · rw [e] at q; cases q
    · rw [upd_ne ea]
      exact ⟨⟨o1,e1⟩,e2⟩
theorem upd_kd {o o' : HO} {a : Addr} (k : KD G.K H) (e : H a=some o) : KD G.K (upd H a o'):=fun b ob q => by
  by_cases h : b=a
  · subst h; rw [k _ _ q] at e; cases e
  · rw [upd_ne h]; exact k _ _ q
theorem upd_stays {o' : HO} {a : Addr} {xs : List V} (e : H a=some (.lst xs)) : Stays H (upd H a o') :=
  ⟨fun b ys q => by rw [upd_ne (ne_of q e (by intro z; cases z))]; exact q,fun b o u q => by rw [upd_ne (ne_of q e (by intro z; cases z))]; exact q⟩
theorem RDs.upd {o : HO} {a : Addr} (st : Stays H (upd H (ρ l) o)) (inj : ∀ i j,i < s.n→j < s.n→ρ i=ρ j→i=j) (ln : l < s.n) (r : RDs G ρ H ds xs) (lb : ∀ j∈labsL ds,j < s.n∧j≠l) : RDs G ρ (L2.upd H (ρ l) o) ds xs :=
  RDs.stay st ds xs r fun j hj => ⟨rfl,fun o' e => by rw [upd_ne (fun z => (lb j hj).2 (inj j l (lb j hj).1 ln z))]; exact e⟩
theorem MR.putL (M : MR G F.toFx ρ H σv tv s) (hl : H (ρ l)=some (.lst xs)) (ln : l < s.n) (ow : F.A0 (ρ l)∨F.H0 (ρ l)=none) (r : RDs G ρ H es ys) (lb : LB F.toFx ρ s.n (labsL es)) (ne : l ∉ labsL es) :
    MR G F.toFx ρ (upd H (ρ l) (.lst ys)) σv tv (s.put l (.lst l es)):=by
  refine M.put2 ln ow (upd_stays hl) (upd_kd M.kd hl) ?_ fun j hj => ?_
  · simp only [RD]
    exact ⟨trivial,ys,upd_same,RDs.upd (a:=0) (upd_stays hl) M.inj ln r fun j hj => ⟨(lb j hj).1,fun z => ne (z ▸ hj)⟩⟩
  · simp only [labs] at hj
    rcases List.mem_cons.mp hj with q | q
    · rw [q]; exact ⟨ln,ow⟩
    · exact lb j q
end
noncomputable def appD : D→List D→M D
  | .lst l ds,[y] => fun s => if ds.length < sizeLine∧l ∉ labs y then .ok .non (s.put l (.lst l (ds++[y]))) else .no
  | _,_ => fl
noncomputable def extD : D→List D→M D
  | .lst l ds,[y] => fun s => match seqD y with
    | some es => if ds.length+es.length≤sizeLine∧l ∉ labsL es then .ok .non (s.put l (.lst l (ds++es))) else .no
    | none => .no
  | _,_ => fl
noncomputable def isL (x : D) : M Unit:=fun s => match lstD x with | some _ => .ok () s | none => .no
noncomputable def mMeth (mo : M D) (ms : List (M D)) (g : D→List D→M D) : M D:=bd mo fun x => bd (isL x) fun _ => bd (psh x) fun _ => bd (mArgs ms) fun ys => bd pop fun x' => g x' ys
section
variable {X : Cx} {G : Gx} {F : Fy} {e o : Expr} {es : List Expr} {apos cpos : Pos}
noncomputable def MtOK (G : Gx) (F : Fy) (r : V→List V→Hp→VK→Prop) (g : D→List D→M D) : Prop:=∀ ρ s t ts v vs H σv tv Q,MRL G F.toFx ρ H σv tv s (t :: ts) (v :: vs)→wM G F σv tv (g t ts s) Q→r v vs H (fun w H' => KD G.K H'→Q w H')
theorem MRL.hd {ρ : Nat→Addr} {H : Hp} {σv tv : List (Option V)} {s : Stt} {t : D} {ts : List D} {v : V} {vs : List V} (M : MRL G F.toFx ρ H σv tv s (t :: ts) (v :: vs)) : RD G ρ H t v∧RDs G ρ H ts vs∧LB F.toFx ρ s.n (labs t)∧LB F.toFx ρ s.n (labsL ts):=by
  have h:=M.rd
  simp only [RDs] at h
  obtain ⟨_,_,e,h1,h2⟩:=h
  cases e
  exact ⟨h1,h2,fun l h => M.lb l (by simp only [labsL]; exact List.mem_append_left _ h),fun l h => M.lb l (by simp only [labsL]; exact List.mem_append_right _ h)⟩
theorem ok_app : MtOK G F rAppend appD:=by
  intro ρ s t ts v vs H σv tv Q M W
  obtain ⟨h1,h2,b1,b2⟩:=M.hd
  unfold appD at W
  split at W
  · rename_i l ds y
    split at W
    · rename_i hc
      have h1':=h1
      simp only [RD] at h1
      obtain ⟨rfl,xs,hx,r⟩:=h1
      simp only [RDs] at h2
      obtain ⟨u,q,rfl,h2,rfl⟩:=h2
      have ns:=no_self M.m h1' fun j hj => (b1 j hj).1
      have bl:=b1 l (by simp only [labs]; exact List.mem_cons_self ..)
      refine ⟨_,xs,u,rfl,rfl,hx,by rw [← r.length]; exact hc.1,fun _ => W.out (M.m.putL hx bl.1 bl.2 (r.append (RDs.one h2)) ?_ ?_) (by simp only [RD]) fun l h => by simp [labs] at h⟩
      · intro j hj
        rw [labsL_append] at hj
        rcases List.mem_append.mp hj with q | q
        · exact b1 j (by simp only [labs]; exact List.mem_cons_of_mem _ q)
        · exact b2 j q
      · intro hj
        rw [labsL_append] at hj
        rcases List.mem_append.mp hj with q | q
        · exact ns q
        · simp only [labsL,List.append_nil] at q; exact hc.2 q
    · exact False.elim W
  · exact wfl W
theorem ok_ext : MtOK G F (rExtN G.K) extD:=by
  intro ρ s t ts v vs H σv tv Q M W
  obtain ⟨h1,h2,b1,b2⟩:=M.hd
  unfold extD at W
  split at W
  · rename_i l ds y
    cases ey : seqD y with
    | none => simp only [ey] at W; exact False.elim W
    | some es =>
      simp only [ey] at W
      split at W
      · rename_i hc
        have h1':=h1
        simp only [RD] at h1
        obtain ⟨rfl,xs,hx,r⟩:=h1
        simp only [RDs] at h2
        obtain ⟨u,q,rfl,h2,rfl⟩:=h2
        obtain ⟨a,ys,rfl,sq,r2,sub⟩:=h2.seq ey
        have ns:=no_self M.m h1' fun j hj => (b1 j hj).1
        have bl:=b1 l (by simp only [labs]; exact List.mem_cons_self ..)
        refine ⟨_,a,xs,ys,rfl,rfl,hx,sq.symm,by rw [← r.length,← r2.length]; exact hc.1,fun _ => W.out (M.m.putL hx bl.1 bl.2 (r.append r2) ?_ ?_) (by simp only [RD]) fun l h => by simp [labs] at h⟩
        · intro j hj
          rw [labsL_append] at hj
          rcases List.mem_append.mp hj with q | q
          · exact b1 j (by simp only [labs]; exact List.mem_cons_of_mem _ q)
          · exact b2 j (by simp only [labsL,List.append_nil]; exact sub j q)
        · intro hj
          rw [labsL_append] at hj
          rcases List.mem_append.mp hj with q | q
          · exact ns q
          · exact hc.2 q
      · exact False.elim W
  · exact wfl W
theorem meth_imp {T : String} {mo : M D} {ms : List (M D)} {g : D → List D → M D} {r : V → List V → Hp → VK → Prop} {σ : L2.St} {H : Hp} {Q : VK} (hT : T = "list") (hg : MtOK G F r g) (h : tM G F (mMeth mo ms g) σ H Q) :
    tM G F mo σ H fun x H1 => tyV G.K T x H1∧tML G F (mArgs ms) σ H1 fun xs H2 => r x xs H2 fun w H' => KD G.K H'→Q w H':=by
  obtain ⟨tv,h⟩:=h
  have hs:=h.1
  refine ⟨tv,(tM_bd h).mono fun v H1 ⟨ρ1,s1,t,M1,W⟩ => ?_⟩
  simp only [bd,isL] at W
  cases e1 : lstD t with
  | none => simp only [e1] at W; exact False.elim W
  | some ds =>
    simp only [e1,psh] at W
    obtain ⟨a,xs,rfl,sq,_⟩:=M1.rd1.lstq e1
    refine ⟨.inl ⟨hT,xs,sq⟩,some (.ref a) :: tv,suf1 hs,ρ1,s1.psh t,M1.push,?_⟩
    cases e2 : mArgs ms (s1.psh t) with
    | ex d s2 => simp only [e2] at W; exact W
    | no => simp only [e2] at W; exact W
    | ok ys s2 =>
      simp only [e2,pop] at W
      intro ρ2 us H2 M2
      cases e3 : s2.tm with
      | nil => simp only [e3] at W; exact False.elim W
      | cons o r =>
        cases o with
        | none => simp only [e3] at W; exact False.elim W
        | some t' =>
          simp only [e3] at W
          exact hg _ _ _ _ _ _ _ _ _ _ (M2.down e3) W
theorem se_meth {name : Str} {id : String} {r : V → List V → Hp → VK → Prop} {mo : M D} {ms : List (M D)} {g : D → List D → M D} (hk : X.K = G.K) (slot : Slot "list" name id) (hty : typeOf (.builtin id) = pure (.type "method_descriptor")) (hm : MtR X id r) (hg : MtOK G F r g) (ho : SE X G F o mo) (ha : SA X G F (e :: es) (mArgs ms))
    (hbase : attributeBase o name X.env (eval o X.env)=eval o X.env:=by rfl)
    (hfew : ((backTo cpos (starEach (e :: es) X.env)).all (fun x => !x.1) && (backToKw cpos (keywordEach [] X.env)).all (fun x => x.1.isSome)
      && decide ((e :: es).length+([] : List Keyword).length+(if ([] : List Keyword).isEmpty then 0 else 1) < 30))=true:=by rfl)
    (hline : (apos.endLine == cpos.line)=true:=by rfl) (hs : starEach (e :: es) X.env=(false,eval e X.env) :: starEach es X.env:=by rfl) (hplain : (backTo cpos (starEach es X.env)).any (·.1)=false:=by rfl) : SE X G F (.Call (.Attribute o name apos) (e :: es) [] cpos) (mMeth mo ms g):=by
  refine PE.imp hk (pe_bm PySem.F.plainAttrs_list slot hty hm ho ha hbase hfew hline hs hplain) fun σ H Q h => ?_
  rw [hk]
  exact meth_imp rfl hg h
noncomputable def setD (o i v : D) : MS:=fun s => match o,i with
  | .lst l ds,.int k => match ixN ds.length k with
    | some j => if l ∉ labs v then .nx (s.put l (.lst l (ds.set j v))) else .no
    | none => .no
  | _,_ => .no
noncomputable def mTri (me mo mi : M D) (g : D→D→D→MS) : MS:=lift me fun v => lift (psh v) fun _ => lift mo fun o => lift (psh o) fun _ => lift mi fun i => lift pop fun o' => lift pop fun v' => g o' i v'
theorem tri2_imp {mo mi : M D} {g : D→D→D→MS} {tv : List (Option V)} {Dd : Ends} {σ : L2.St} {H1 : Hp} {ρ1 : Nat→Addr} {s1 : Stt} {t : D} {v : V} (hs : F.tv0 <:+ tv) (M1 : MRL G F.toFx ρ1 H1 σ tv s1 [t] [v])
    (W : wS G F tv ((lift (psh t) fun _ => lift mo fun o => lift (psh o) fun _ => lift mi fun i => lift pop fun o' => lift pop fun v' => g o' i v') s1) Dd) :
    tM G F mo σ H1 fun o H2 => tM G F mi σ H2 fun i H3 => ∃ ρ s t1 t2 t3,MRL G F.toFx ρ H3 σ tv s [t1,t2,t3] [v,o,i]∧wS G F tv (g t2 t3 t1 s) Dd:=by
  refine ⟨some v :: tv,suf1 hs,ρ1,s1.psh t,M1.push,?_⟩
  simp only [lift,psh] at W
  cases e1 : mo (s1.psh t) with
  | ex d s2 => simp only [e1] at W; exact W
  | no => simp only [e1] at W; exact W
  | ok o s2 =>
    simp only [e1] at W
    intro ρ2 u H2 M2
    refine ⟨some u :: some v :: tv,suf1 (suf1 hs),ρ2,s2.psh o,M2.push,?_⟩
    cases e2 : mi (s2.psh o) with
    | ex d s3 => simp only [e2] at W; exact W
    | no => simp only [e2] at W; exact W
    | ok i s3 =>
      simp only [e2,pop] at W
      intro ρ3 w H3 M3
      cases e3 : s3.tm with
      | nil => simp only [e3] at W; exact False.elim W
      | cons o3 r3 =>
        cases o3 with
        | none => simp only [e3] at W; exact False.elim W
        | some x3 =>
          simp only [e3] at W
          cases r3 with
          | nil => exact False.elim W
          | cons o4 r4 =>
            cases o4 with
            | none => exact False.elim W
            | some x4 =>
              have M4:=M3.down e3
              have M5:=M4.down (s':={ s3 with tm:=some x4 :: r4 }) rfl
              exact ⟨ρ3,_,x4,x3,i,M5,W⟩
theorem tri_imp {me mo mi : M D} {g : D→D→D→MS} {tv : List (Option V)} {Dd : Ends} {σ : L2.St} {H : Hp} (h : tSv G F (mTri me mo mi g) tv Dd σ H) :
    tM G F me σ H fun v H1 => tM G F mo σ H1 fun o H2 => tM G F mi σ H2 fun i H3 => ∃ ρ s t1 t2 t3,MRL G F.toFx ρ H3 σ tv s [t1,t2,t3] [v,o,i]∧wS G F tv (g t2 t3 t1 s) Dd :=
  ⟨tv,(lift_imp h).mono fun v H1 ⟨ρ1,s1,t,M1,W⟩ => tri2_imp h.1 M1 W⟩
theorem ok_set {ρ : Nat→Addr} {s : Stt} {t1 t2 t3 : D} {v o i : V} {H : Hp} {σv tv : List (Option V)} {Dd : Ends} (M : MRL G F.toFx ρ H σv tv s [t1,t2,t3] [v,o,i]) (W : wS G F tv (setD t2 t3 t1 s) Dd) : rSetL o i v H fun H' => Dd.nx σv H':=by
  have h:=M.rd
  simp only [RDs] at h
  obtain ⟨_,_,e,h1,_,_,e2,h2,_,_,e3,h3,_⟩:=h
  cases e; cases e2; cases e3
  have b1 : LB F.toFx ρ s.n (labs t1):=fun l h => M.lb l (by simp only [labsL]; exact List.mem_append_left _ h)
  have b2 : LB F.toFx ρ s.n (labs t2):=fun l h => M.lb l (by simp only [labsL]; exact List.mem_append_right _ (List.mem_append_left _ h))
  cases t2 with
  | lst l ds =>
    cases t3 with
    | int k =>
      simp only [setD] at W
      cases ek : ixN ds.length k with
      | none => simp only [ek] at W; exact False.elim W
      | some j =>
        simp only [ek] at W
        by_cases hc : l ∉ labs t1
        · rw [if_pos hc] at W
          have h2':=h2
          simp only [RD] at h2 h3
          obtain ⟨rfl,xs,hx,r⟩:=h2
          subst h3
          have ns:=no_self M.m h2' fun j hj => (b2 j hj).1
          have bl:=b2 l (by simp only [labs]; exact List.mem_cons_self ..)
          have mm : ∀ q,q∈labsL (ds.set j t1)→q∈labsL ds∨q∈labs t1:=fun q hq => by
            obtain ⟨d,h1,h2⟩:=of_labsL hq
            rcases List.mem_or_eq_of_mem_set h1 with z | z
            · exact .inl (labsL_mem z q h2)
            · subst z; exact .inr h2
          refine ⟨_,xs,k,j,rfl,rfl,hx,by rw [← r.length]; exact ek,W ρ σv _ (M.m.putL hx bl.1 bl.2 (r.set j h1) (fun q hq => ?_) fun hq => ?_)⟩
          · rcases mm q hq with z | z
            · exact b2 q (by simp only [labs]; exact List.mem_cons_of_mem _ z)
            · exact b1 q z
          · rcases mm l hq with z | z
            · exact ns z
            · exact hc z
        · rw [if_neg hc] at W; exact False.elim W
    | _ => exact False.elim W
  | _ => exact False.elim W
theorem ss_setI {ob ix : Expr} {pos tpos : Pos} {mo mi me : M D} (he : SE X G F e me) (ho : SE X G F ob mo) (hi : SE X G F ix mi) (hg : ∀ {to ti : TE},PE X ob to→PE X ix ti→PG X (.Subscript ob ix tpos) (gSub to ti rSetL)) (hs : swapsWithSole [.Subscript ob ix tpos] e pos.line X.env=pure false:=by rfl) (hw : swappedStores [.Subscript ob ix tpos] e X.env=pure none:=by rfl)
    (h1 : (assignEach [.Subscript ob ix tpos] X.env).map (·.2)=[assign (.Subscript ob ix tpos) X.env]:=by rfl) : SS X G F (.Assign [.Subscript ob ix tpos] e pos) (mTri me mo mi setD):=by
  refine PS.imp0 (ps_asg he (hg ho hi) hs hw h1) fun Dd σ H ⟨tv,h⟩ => ?_
  exact (tri_imp h).mono fun v H1 h1 => h1.mono fun o H2 h2 => h2.mono fun i H3 ⟨ρ,s,t1,t2,t3,M,W⟩ => ok_set M W
end
end Mi
namespace Mi
open PySem L2
section
variable {X : Cx} {G : Gx} {F : Fy} {e a b c : Expr} {pos : Pos} {ma mb mc m : M D}
theorem se_add (hk : X.K=G.K) (ha : SE X G F a ma) (hb : SE X G F b mb) : SE X G F (.BinOp a .Add b pos) (mBin ma mb addD) :=
  se_op hk (r:=fun x y H Q => rI0 (fun i j => .int (i+j)) x y H Q∨rCatX G.K x y H Q∨rCat x y H Q∨∃ i j,x=.str i∧y=.str j∧i.length+j.length≤sizeLine∧Q (.str (i++j)) H) (hk ▸ OpR.or op_add (OpR.or op_catX (OpR.or op_cat op_add_str))) ok_add ha hb
theorem se_mul (hk : X.K=G.K) (ha : SE X G F a ma) (hb : SE X G F b mb) : SE X G F (.BinOp a .Mult b pos) (mBin ma mb mulD):=se_op hk (r:=fun x y H Q => rI CMul (fun i j => .int (i * j)) x y H Q∨(rRep x y H Q∨rRepT G.K x y H Q)) (OpR.or op_mul (OpR.or op_rep (hk ▸ op_repT))) ok_mul ha hb
theorem se_fdiv (hk : X.K=G.K) (ha : SE X G F a ma) (hb : SE X G F b mb) : SE X G F (.BinOp a .FloorDiv b pos) (mBin ma mb fdivD):=se_op hk op_fdiv ok_fdiv ha hb
theorem se_mod (hk : X.K=G.K) (ha : SE X G F a ma) (hb : SE X G F b mb) : SE X G F (.BinOp a .Mod b pos) (mBin ma mb modD):=se_op hk op_mod ok_mod ha hb
theorem se_pow (hk : X.K=G.K) (ha : SE X G F a ma) (hb : SE X G F b mb) : SE X G F (.BinOp a .Pow b pos) (mBin ma mb powD):=se_op hk op_pow ok_pow ha hb
structure Cm (X : Cx) (G : Gx) (F : Fy) (op : CmpOp) (g : D→D→M D) : Prop where
  h : ∃ r,OpR X (compareOp op) r∧CmpOK G F r g
theorem cm_lt : Cm X G F .Lt ltD:=⟨_,op_lt,ok_lt⟩
theorem cm_gt : Cm X G F .Gt gtD:=⟨_,op_gt,ok_gt⟩
theorem cm_eq (hk : X.K=G.K) (hu : X.A.units+64 < cLine) : Cm X G F .Eq eqD:=⟨_,hk ▸ op_eqD hu,ok_eq⟩
theorem cm_ne (hk : X.K=G.K) (hu : X.A.units+64 < cLine) : Cm X G F .NotEq neD:=⟨_,hk ▸ op_neD hu,ok_ne⟩
theorem cm_isN : Cm X G F .Is isN:=⟨_,op_isN,ok_isN⟩
theorem se_cmp {op : CmpOp} {g : D→D→M D} (hc : Cm X G F op g) (ha : SE X G F a ma) (hb : SE X G F b mb) (hm : behindInMarks op b=false) : SE X G F (.Compare a [op] [b] pos) (mBin ma mb g):=by
  obtain ⟨r,h1,h2⟩:=hc.h
  exact se_cmpR h1 h2 ha hb hm
theorem sb_cmp {op : CmpOp} {g : D→D→M D} (hc : Cm X G F op g) (ha : SE X G F a ma) (hb : SE X G F b mb) (hm : behindInMarks op b=false) : SB X G F (.Compare a [op] [b] pos) (mBoo (mBin ma mb g)):=by
  obtain ⟨r,h1,h2⟩:=hc.h
  exact sb_cmpR h1 h2 ha hb hm
theorem se_idx (hk : X.K=G.K) (ha : SE X G F a ma) (hb : SE X G F b mb) (hs : PlainIx b) : SE X G F (.Subscript a b pos) (mBin ma mb ixD):=se_ix hk (hk ▸ IxR.or ix_list ix_tup) ok_ix ha hb hs
structure Cb (X : Cx) (G : Gx) (F : Fy) (f : Value) (g : List D→M D) : Prop where
  h : ∃ r,CallR X f r∧CallOK G F r g
theorem cb_len (hk : X.K = G.K) : Cb X G F (.builtin "len") lenD := ⟨_, hk ▸ call_len_seq, ok_len⟩
theorem cb_abs : Cb X G F (.builtin "abs") absD := ⟨_, call_abs, ok_abs⟩
theorem cb_min (hc : X.calm = true) : Cb X G F (.builtin "min") minD := ⟨_, call_min2 hc, ok_min⟩
theorem cb_max (hc : X.calm = true) : Cb X G F (.builtin "max") maxD := ⟨_, call_max2 hc, ok_max⟩
theorem cb_all (hk : X.K = G.K) (hd : X.A.handled = none) : Cb X G F (.builtin "all") allD := ⟨_, hk ▸ call_allB hd, ok_all⟩
theorem cb_any (hk : X.K = G.K) (hd : X.A.handled = none) : Cb X G F (.builtin "any") anyD := ⟨_, hk ▸ call_anyB hd, ok_any⟩
theorem cb_int : Cb X G F (.type "int") intD := ⟨_, call_int1, ok_int⟩
theorem cb_tuple (hk : X.K = G.K) : Cb X G F (.type "tuple") tupF := ⟨_, hk ▸ call_tupX, ok_tupF⟩
theorem cb_list (hk : X.K = G.K) : Cb X G F (.type "list") listF := ⟨_, hk ▸ call_list_of, ok_listF⟩
theorem se_cb {x : Str} {p : Pos} {es : List Expr} {ms : List (M D)} {g : List D → M D} {id : String} (hk : X.K = G.K) (hc : Cb X G F (.builtin id) g) (hgl : Gl X x) (hm : X.mg x = none) (hv : bootBuiltins x = some (.builtin id)) (ha : SA X G F (e :: es) (mArgs ms)) (hn : x ≠ "__name__" := by decide) (hdb : (x == ("__debug__" : Str)) = false := by decide)
    (he : starEach (e :: es) X.env=(false,eval e X.env) :: starEach es X.env:=by rfl) (hpl : (backTo pos (starEach es X.env)).any (·.1)=false:=by rfl) : SE X G F (.Call (.Name x p) (e :: es) [] pos) (mCB ms g):=by
  obtain ⟨r,h1,h2⟩:=hc.h
  exact se_callB hk h1 h2 hgl hm hv ha hn hdb he hpl
theorem se_ct {x : Str} {p : Pos} {es : List Expr} {ms : List (M D)} {g : List D → M D} {T : String} (hk : X.K = G.K) (hc : Cb X G F (.type T) g) (hgl : Gl X x) (hm : X.mg x = none) (hv : bootBuiltins x = some (.type T)) (ha : SA X G F (e :: es) (mArgs ms)) (hn : x ≠ "__name__" := by decide) (hdb : (x == ("__debug__" : Str)) = false := by decide)
    (he : starEach (e :: es) X.env=(false,eval e X.env) :: starEach es X.env:=by rfl) (hpl : (backTo pos (starEach es X.env)).any (·.1)=false:=by rfl) : SE X G F (.Call (.Name x p) (e :: es) [] pos) (mCB ms g):=by
  obtain ⟨r,h1,h2⟩:=hc.h
  exact se_callTy hk h1 h2 hgl hm hv ha hn hdb he hpl
structure Cl (X : Cx) (G : Gx) (F : Fy) (id : String) (g : D→List D→M D) : Prop where
  h : ∃ r,MtR X id r∧MtOK G F r g
theorem cl_append : Cl X G F "list.append" appD := ⟨_, mt_append, ok_app⟩
theorem cl_extend (hk : X.K = G.K) : Cl X G F "list.extend" extD := ⟨_, hk ▸ mt_extN, ok_ext⟩
end
end Mi
namespace Mi
open PySem L2 PySem.Spec PyProof.Rows
section
variable {X : Cx} {G : Gx} {F : Fy} {e a b c : Expr} {pos : Pos}
noncomputable def isiAny (Ts : List String) (d : D) : Option Bool:=match Ts with
  | [] => some false
  | T :: r => match isiD T d,isiAny r d with
    | some b,some c => some (b || c)
    | _,_ => none
noncomputable def mIsiT (Ts : List String) (m : M D) : M D:=bd m fun d => match isiAny Ts d with | some b => rt (.bool b) | none => fl
end
end Mi
namespace Mi
open PySem L2
noncomputable def G0 (K : PySem.W.Frag) : Gx:=⟨K,fun _ => none,fun _ _ _ h => (by cases h),fun _ _ h => (by cases h)⟩
section
variable {X : Cx} {G : Gx} {F : Fy} {e o : Expr} {es : List Expr} {apos cpos : Pos}
theorem se_cl {name : Str} {id : String} {mo : M D} {ms : List (M D)} {g : D → List D → M D} (hk : X.K = G.K) (slot : Slot "list" name id) (hty : typeOf (.builtin id) = pure (.type "method_descriptor")) (hm : Cl X G F id g) (ho : SE X G F o mo) (ha : SA X G F (e :: es) (mArgs ms))
    (hbase : attributeBase o name X.env (eval o X.env)=eval o X.env:=by rfl)
    (hfew : ((backTo cpos (starEach (e :: es) X.env)).all (fun x => !x.1) && (backToKw cpos (keywordEach [] X.env)).all (fun x => x.1.isSome)
      && decide ((e :: es).length+([] : List Keyword).length+(if ([] : List Keyword).isEmpty then 0 else 1) < 30))=true:=by rfl)
    (hline : (apos.endLine == cpos.line)=true:=by rfl) (hs : starEach (e :: es) X.env=(false,eval e X.env) :: starEach es X.env:=by rfl) (hplain : (backTo cpos (starEach es X.env)).any (·.1)=false:=by rfl) : SE X G F (.Call (.Attribute o name apos) (e :: es) [] cpos) (mMeth mo ms g):=by
  obtain ⟨r,h1,h2⟩:=hm.h
  exact se_meth hk slot hty h1 h2 ho ha hbase hfew hline hs hplain
end
end Mi
namespace Mi
open PySem L2
inductive SEs (X : Cx) (G : Gx) (F : Fy) : List Expr→List (M D)→Prop
  | nil : SEs X G F [] []
  | cons {e : Expr} {m : M D} {es : List Expr} {ms : List (M D)} : SE X G F e m→nst e=true→SEs X G F es ms→SEs X G F (e :: es) (m :: ms)
theorem sa_of {X : Cx} {G : Gx} {F : Fy} {es : List Expr} {ms : List (M D)} (hk : X.K=G.K) (h : SEs X G F es ms) : SA X G F es (mArgs ms):=by
  induction h with
  | nil => exact sa_nil hk
  | cons h1 h2 _ ih => exact sa_cons hk h1 ih h2
end Mi
namespace Mi
open PySem L2
section
variable {X : Cx} {G : Gx} {F : Fy} {tg iter elt : Expr} {pos : Pos}
end
end Mi
namespace Mi
open PySem L2
section
variable {X : Cx} {G : Gx} {F : Fy} {a b tg : Expr} {pos : Pos}
end
end Mi
namespace Mi
open PySem L2
section
variable {X : Cx} {G : Gx} {F : Fy} {a b tg : Expr} {pos : Pos}
end
end Mi
namespace Mi
open PySem L2
section
variable {X : Cx} {G : Gx} {F : Fy} {a b tg : Expr} {pos : Pos}
mutual
theorem er_noDict : ∀ t : D,(er t).hasDict=false
  | .non | .bool _ | .int _ | .str _ | .dct _ _ _ | .obj _ _ _ _ | .exc _ | .fn _ | .fdc _ _ => by simp only [er,PyData.hasDict]
  | .tup ds => by simp only [er,PyData.hasDict]; exact erL_noDict ds
  | .ro ds => by simp only [er,PyData.hasDict]; exact erL_noDict ds
  | .lst _ ds => by simp only [er,PyData.hasDict]; exact erL_noDict ds
theorem erL_noDict : ∀ ts : List D,PyData.hasDictAll (erL ts)=false
  | [] => by simp only [erL,PyData.hasDictAll]
  | t :: ts => by simp only [erL,PyData.hasDictAll,er_noDict t,erL_noDict ts,Bool.or_self]
end
end
end Mi
namespace L2
open PySem PySem.Spec PyProof.Rows
section
variable {P : Program} {w : World} {H H' : Hp} {h h' : Heap} {a : Addr} {o : HO}
theorem ObjOk.here (x : ObjOk P w H h a o) : ∃ u,h.get? a=some u:=by
  cases o with
  | lst xs => obtain ⟨_,_,_,_,e⟩:=x; exact ⟨_,e⟩
  | tup xs => obtain ⟨_,_,_,ob,e,_⟩:=x; exact ⟨_,e⟩
  | dK kvs => obtain ⟨_,_,_,_,o,_,_,e,_⟩:=x; exact ⟨_,e⟩
  | dT kvs => obtain ⟨_,_,_,_,o,_,_,e,_⟩:=x; exact ⟨_,e⟩
  | set S n => obtain ⟨o,_,_,_,e,_⟩:=x; exact ⟨_,e⟩
  | ins C dx fs => obtain ⟨_,_,_,e,_⟩:=x; exact ⟨_,e⟩
  | own y => obtain ⟨_,e⟩:=x; exact ⟨_,e⟩
  | xd fs => obtain ⟨_,⟨_,_,_,e,_⟩,_⟩:=x; exact ⟨_,e⟩
  | rng lo hi => obtain ⟨_,_,_,e⟩:=x; exact ⟨_,e⟩
  | frz o u => exact ⟨_,x.1⟩
  | tbl ps => exact ⟨_,x⟩
  | met f y => exact ⟨_,x⟩
  | ext φ => obtain ⟨_,⟨_,e⟩,_⟩:=x; exact ⟨_,e⟩
theorem HOk.none_of (x : HOk P w H h) (e : h.get? a=none) : H a=none:=by
  cases q : H a with
  | none => rfl
  | some u => obtain ⟨v,z⟩:=(x a u q).here; rw [e] at z; cases z
end
structure Fly (P : Program) (w : World) (outer : List Env) (H : Hp) (s : Shared) (H' : Hp) (C : Value) (e : Addr) (s' : Shared) : Prop where
  os : s'.os=s.os
  bare : AllBare s'.gens
  un : Un (frs outer) [] H H' s.heap s'.heap
  hok : HOk P w H' s'.heap
  he : H' e=none
  se : s.heap.get? e=none
  tr : ∃ oe vs a0 T oT ts,s'.heap.get? e=some oe∧(oe.cls=C∧vs[0]?=some a0)∧oe.data=.fields vs∧vs[1]?=some (.ref T)∧T≠e∧s'.heap.get? T=some oT∧oT.data=.fields ts∧ts[3]?=some .none∧H' T=none∧s.heap.get? T=none
noncomputable def CX1 (P : Program) (w : World) : CXT:=fun outer H s E e s' => ∃ a C H',e=.ref a∧Fly P w outer H s H' C a s'∧E C none H'
section
variable {X : Cx} {pins : List (Addr×Obj)} {σ : St} {H : Hp} {s : Shared} {h' : Heap}
theorem Inv.frmem (I : Inv X pins σ H s) : ∀ env∈X.stack,∀ a,env.frame=some a→a∈frs X.stack:=fun env he a e => List.mem_filterMap.mpr ⟨env,he,e⟩
theorem fly_keep {ex : List Addr} (I : Inv X pins σ H s) (hx : ∀ x∈ex,H x=none) (st : (PySem.W.hideAll s.heap (frs X.stack++ex)).StaysIn h') : ∀ b u o,H b=some u→s.heap.get? b=some o→h'.get? b=some o:=fun b u o e q =>
  st b o (PySem.W.hideAll_get _ q fun hm => by
    rcases List.mem_append.mp hm with z | z
    · rw [I.stkFree b z] at e; cases e
    · rw [hx b z] at e; cases e)
theorem fly_hok {ex : List Addr} (I : Inv X pins σ H s) (hx : ∀ x∈ex,H x=none) (st : (PySem.W.hideAll s.heap (frs X.stack++ex)).StaysIn h') : HOk X.prog X.w H h':=fun a o e =>
  (I.hok a o e).stay (fun b u hb q => by
    rcases hb with rfl | hb
    · exact fly_keep I hx st _ _ _ e q
    · exact fly_keep I hx st _ _ _ hb q) (fun _ q => q) fun _ _ q => q
theorem fly_in {ex : List Addr} {t' : Nat} (I : Inv X pins σ H s) (hx : ∀ x∈ex,H x=none) (hxn : ∀ x∈ex,∀ o,s.heap.get? x=some o→(∃ o',h'.get? x=some o')∧x≠X.env.locals∧(∀ y c,X.env.cells.lookup y=some c→c≠x)∧(∀ p∈X.pn++pins,p.1≠x)∧(x∈X.ex∨X.s₀.heap.objs.size≤x)) (st : (PySem.W.hideAll s.heap (frs X.stack++ex)).StaysIn h') (up : s.heap.UpToSlots h') (hxs : ∀ x∈ex,∃ o,s.heap.get? x=some o) : Inv X pins σ H { s with heap:=h',toks:=t' }:=by
  refine I.call (g':=s.gens) (d':=s.drawn) (t':=t') (ch:=ex) ⟨fun b o q n hb hc => ?_,fun b o q n hb hc => ?_,fun _ _ _ n _ => n,fun b o q hc => ?_,fun _ _ q => q,fun _ _ _ q => q,fun b ps q => ⟨#[],by rw [q]; simp⟩⟩ (fly_hok I hx st) I.bare fun b hb => ?_
  · exact st b o (PySem.W.hideAll_get _ q fun hm => (List.mem_append.mp hm).elim hb hc)
  · obtain ⟨_,o',ho',hd⟩:=I.stack.mem hb
    rw [q] at ho'; cases ho'
    exact up b o q hd
  · by_cases hb : b∈frs X.stack
    · obtain ⟨_,o',ho',hd⟩:=I.stack.mem hb
      obtain ⟨sl,z⟩:=up b o' ho' hd
      exact ⟨_,z⟩
    · exact ⟨o,st b o (PySem.W.hideAll_get _ q fun hm => (List.mem_append.mp hm).elim hb hc)⟩
  · obtain ⟨o,q⟩:=hxs b hb
    obtain ⟨_,h1,h2,h3,h4⟩:=hxn b hb o q
    exact ⟨h4,h1,h2,h3⟩
theorem fly_out {ex : List Addr} (I : Inv X pins σ H s) (hex : X.ex=[]) (hx : ∀ x∈ex,H x=none) (hx0 : ∀ x∈ex,X.s₀.heap.get? x=none) (st : (PySem.W.hideAll s.heap (frs X.stack++ex)).StaysIn h') (up : s.heap.UpToSlots h') : Un (frs X.outer) [] X.H₀ H X.s₀.heap h':=by
  have nx : ∀ b : Addr,b ∉ X.ex:=fun b z => by rw [hex] at z; cases z
  have nst : ∀ b o,X.s₀.heap.get? b=some o→b ∉ frs X.outer→b ∉ frs X.stack++ex:=fun b o q hb hm => by
    rcases List.mem_append.mp hm with z | z
    · rcases List.mem_cons.mp (I.stkSub b z) with z | z
      · subst z; exact absurd (Heap.lt_size q) (Nat.not_lt.mpr I.ok.above)
      · exact hb z
    · rw [hx0 b z] at q; cases q
  have sl : ∀ b o,X.s₀.heap.get? b=some o→b∈frs X.outer→∃ sl,h'.get? b=some { o with slots:=sl }:=fun b o q hb => by
    obtain ⟨sl,z⟩:=I.base.slot b o q (I.ok.frf b hb) hb (nx b)
    obtain ⟨_,o',ho',hd⟩:=I.ok.funs.mem hb
    rw [q] at ho'; cases ho'
    obtain ⟨sl2,z2⟩:=up b { o with slots:=sl } z hd
    exact ⟨sl2,z2⟩
  refine ⟨fun b o q n hb _ => ?_,fun b o q n hb _ => sl b o q hb,fun b o q n _ => I.base.free b o q n (nx b),fun b o q _ => ?_,I.base.tups,I.base.frzs,I.base.tbls⟩
  · exact st b o (PySem.W.hideAll_get _ (I.base.keep b o q n hb (nx b)) (nst b o q hb))
  · by_cases hb : b∈frs X.outer
    · obtain ⟨sl,z⟩:=sl b o q hb; exact ⟨_,z⟩
    · obtain ⟨o',z⟩:=I.base.there b o q (nx b)
      exact ⟨o',st b o' (PySem.W.hideAll_get _ z (nst b o q hb))⟩
theorem fly_new (I : Inv X pins σ H s) (hex : X.ex=[]) {b : Addr} (e : s.heap.get? b=none) : X.s₀.heap.get? b=none:=by
  cases q : X.s₀.heap.get? b with
  | none => rfl
  | some o => obtain ⟨o',z⟩:=I.base.there b o q (by rw [hex]; simp); rw [e] at z; cases z
theorem fly_last {ex : List Addr} {e : Addr} {cls a0 : Value} (I : Inv X pins σ H s) (hex : X.ex=[]) (hx : ∀ x∈ex,H x=none) (hx0 : ∀ x∈ex,X.s₀.heap.get? x=none) (up : s.heap.UpToSlots h') (tr : h'.TracedW (PySem.W.hideAll s.heap (frs X.stack++ex)) e cls a0) :
    ∃ oe vs a0 T oT ts,h'.get? e=some oe∧(oe.cls=cls∧vs[0]?=some a0)∧oe.data=.fields vs∧vs[1]?=some (.ref T)∧T≠e∧h'.get? T=some oT∧oT.data=.fields ts∧ts[3]?=some .none∧H T=none∧X.s₀.heap.get? T=none:=by
  obtain ⟨oe,vs,T,oT,ts,h1,h2,h3,h4,h5,h6,h7,h8,h9⟩:=tr
  have nm : ∀ o,s.heap.get? T=some o→T∈ex:=fun o q => by
    by_cases hm : T∈frs X.stack++ex
    · rcases List.mem_append.mp hm with z | z
      · obtain ⟨_,o',ho',hd⟩:=I.stack.mem z
        obtain ⟨sl,z'⟩:=up T o' ho' hd
        rw [h7] at z'; cases z'
        exact absurd h8 (hd ts)
      · exact z
    · rw [PySem.W.hideAll_get _ q hm] at h5; cases h5
  have hT : H T=none:=by
    cases q : s.heap.get? T with
    | none => exact I.hok.none_of q
    | some o => exact hx T (nm o q)
  have hS : X.s₀.heap.get? T=none:=by
    cases q : s.heap.get? T with
    | none => exact fly_new I hex q
    | some o => exact hx0 T (nm o q)
  exact ⟨oe,vs,a0,T,oT,ts,h1,h2,h3,h4,h6,h7,h8,h9,hT,hS⟩
end
section
variable {P : Program} {w : World} {K : PySem.W.Frag} {mg : Str→Option Value} {base : Heap} {N : List Str} {qual : Str} {scope : Scope} {f : Addr} {cd : Value} {A : Around} {outer : List Env} {s : Shared} {H : Hp} {E : XK}
theorem fly_through : Passes (CX1 P w) (cxOf (CX1 P w) P w K mg base N qual scope f cd A outer s H E) E:=by
  intro pins σ H1 s1 e s2 I ⟨a,C,H2,e1,F,hE⟩
  subst e1
  have I2 : Inv (cxOf (CX1 P w) P w K mg base N qual scope f cd A outer s H E) pins σ H2 s2:=I.call' (ch:=[]) F.os F.un F.hok F.bare (fun b z => absurd z (by simp))
  obtain ⟨oe,vs,a0,T,oT,ts,h1,h2,h3,h4,h5,h6,h7,h8,h9,h10⟩:=F.tr
  have hx : ∀ x∈[a,T],H2 x=none:=fun x hx => by
    rcases List.mem_cons.mp hx with rfl | hx
    · exact F.he
    · rcases List.mem_cons.mp hx with rfl | hx
      · exact h9
      · cases hx
  have hx0 : ∀ x∈[a,T],s.heap.get? x=none:=fun x hx => by
    rcases List.mem_cons.mp hx with rfl | hx
    · exact fly_new I rfl F.se
    · rcases List.mem_cons.mp hx with rfl | hx
      · exact fly_new I rfl h10
      · cases hx
  refine wpAny_leaves_onW (base:=PySem.W.hideAll s2.heap (frs (cxOf (CX1 P w) P w K mg base N qual scope f cd A outer s H E).stack++[a,T])) (L:=s.heap.objs.size) (cls:=C) (a0:=a0) I2.ok.frames rfl ⟨fun b o q => PySem.W.of_hideAll _ q,PySem.W.hideAll_none _ (by simp),PySem.W.funFrames_hide I2.stack fun env he b hb => List.mem_append_left _ (I2.frmem env he b hb),oe,vs,T,oT,ts,h1,h2,h3,h4,PySem.W.hideAll_none _ (by simp),h5,h6,h7,h8⟩ fun h' fl up => ?_
  obtain ⟨k1,k2,k3,k4⟩:=fl
  exact ⟨a,C,H2,rfl,⟨F.os.trans I.os,F.bare,fly_out I2 rfl hx hx0 k1 up,fly_hok I2 hx k1,F.he,hx0 a (by simp),fly_last I2 rfl hx hx0 up k4⟩,hE⟩
theorem fly_up {pins : List (Addr×Obj)} {σ : St} {H1 : Hp} {s1 : Shared} {h' : Heap} {e : Addr} {C : Value} {args : List Value} (I : Inv (cxOf (CX1 P w) P w K mg base N qual scope f cd A outer s H E) pins σ H1 s1) (hx : Heap.MadeExcOf s1.heap h' e C args) (hE : E C none H1) :
    (cxOf (CX1 P w) P w K mg base N qual scope f cd A outer s H E).xe (.ref e) { s1 with heap:=h' }:=by
  have nn : ∀ x∈([] : List Addr),H1 x=none:=fun x z => absurd z (by simp)
  have nn0 : ∀ x∈([] : List Addr),s.heap.get? x=none:=fun x z => absurd z (by simp)
  refine wpAny_leaves_madeW (base:=PySem.W.hideAll s1.heap (frs (cxOf (CX1 P w) P w K mg base N qual scope f cd A outer s H E).stack++[])) (h:=s1.heap) (L:=s.heap.objs.size) I.ok.frames rfl (fun b o q => PySem.W.of_hideAll _ q) (PySem.W.funFrames_hide I.stack fun env he b hb => List.mem_append_left _ (I.frmem env he b hb)) hx fun h2 t fl tp bt up => ?_
  obtain ⟨k1,k2,k3,k4⟩:=fl
  have up2 : s1.heap.UpToSlots h2:=(Heap.UpToSlots.of_keeps hx.keeps).trans up
  exact ⟨e,C,H1,rfl,⟨I.os,I.bare,fly_out I rfl nn nn0 k1 up2,fly_hok I nn k1,I.hok.none_of hx.new,fly_new I rfl hx.new,fly_last I rfl nn nn0 up2 k4⟩,hE⟩
end
end L2
namespace L2
open PySem PySem.Spec PyProof.Rows
section
variable {X : Cx} {pins : List (Addr×Obj)} {σ : St} {H : Hp} {s : Shared} {h' : Heap}
theorem fly_inv {ex : List Addr} {t' : Nat} (I : Inv X pins σ H s) (hex : X.ex=[]) (hx : ∀ x∈ex,H x=none) (hx0 : ∀ x∈ex,X.s₀.heap.get? x=none) (hxp : ∀ p∈X.pn++pins,p.1 ∉ ex) (st : (PySem.W.hideAll s.heap (frs X.stack++ex)).StaysIn h') (up : s.heap.UpToSlots h') : Inv X pins σ H { s with heap:=h',toks:=t' }:=by
  have cellK : ∀ c v,s.heap.IsCell c v→h'.IsCell c v:=fun c v ⟨o,ho,hd⟩ => by
    obtain ⟨sl,q⟩:=up c o ho (fun vs z => by rw [hd] at z; cases z)
    exact ⟨_,q,hd⟩
  have un:=fly_out I hex hx hx0 st up
  refine ⟨I.ok,I.os,I.bare,by rw [hex]; exact un,?_,fun y c e => ?_,I.free,I.freeC,fun p hp => ?_,fly_hok I hx st,I.len⟩
  · obtain ⟨m,hn,hl⟩:=I.loc
    refine ⟨m,up.ns hn,fun i x v e1 e2 e3 => ?_⟩
    obtain ⟨u,r,l⟩:=hl i x v e1 e2 e3
    refine ⟨u,r,?_⟩
    rcases l with l | ⟨k,c,e,z⟩
    · exact .inl l
    · exact .inr ⟨k,c,e,cellK c _ z⟩
  · obtain ⟨v,z⟩:=I.cell y c e
    exact ⟨v,cellK c v z⟩
  · obtain ⟨e,n,ne,nf,d⟩:=I.pin p hp
    refine ⟨st p.1 p.2 (PySem.W.hideAll_get _ e fun hm => ?_),n,ne,nf,d⟩
    rcases List.mem_append.mp hm with z | z
    · rcases List.mem_cons.mp (I.stkSub p.1 z) with z | z
      · exact ne z
      · exact nf z
    · exact hxp p hp z
theorem Inv.track {a : Addr} {o : HO} (I : Inv X pins σ H s) (hn : H a=none) (h0 : X.s₀.heap.get? a=none) (hL : a≠X.env.locals) (hC : ∀ x c,X.env.cells.lookup x=some c→c≠a) (hp : ∀ p∈X.pn++pins,p.1≠a) (ok : ObjOk X.prog X.w (upd H a o) s.heap a o) : Inv X pins σ (upd H a o) s:=by
  have ne : ∀ b u,H b=some u→upd H a o b=some u:=fun b u e => by
    by_cases hb : b=a
    · subst hb; rw [hn] at e; cases e
    · rw [upd_ne hb]; exact e
  refine ⟨I.ok,I.os,I.bare,⟨I.base.keep,I.base.slot,fun b ob q n hx => ?_,I.base.there,fun b xs e => ne _ _ (I.base.tups b xs e),fun b u xs e => ne _ _ (I.base.frzs b u xs e),fun b ps e => ?_⟩,I.loc,I.cell,?_,fun x c e => ?_,fun p q => ?_,fun b u e => ?_,I.len⟩
  · rw [upd_ne (fun z => by rw [z,h0] at q; cases q)]; exact I.base.free b ob q n hx
  · obtain ⟨m,z⟩:=I.base.tbls b ps e
    exact ⟨m,ne _ _ z⟩
  · rw [upd_ne (Ne.symm hL)]; exact I.free
  · rw [upd_ne (hC x c e)]; exact I.freeC x c e
  · obtain ⟨e,n,r⟩:=I.pin p q
    exact ⟨e,by rw [upd_ne (hp p q)]; exact n,r⟩
  · by_cases hb : b=a
    · subst hb; rw [upd_same] at e; cases e; exact ok
    · rw [upd_ne hb] at e
      exact (I.hok b u e).stay (fun _ _ _ q => q) (fun c q => ne _ _ q) fun c xs q => ne _ _ q
noncomputable def noneS (N : List Str) : St:=List.replicate N.length none
theorem Inv.forget {m' : Str→Option Value} {t' : Nat} (I : Inv X pins σ H s) (hn : h'.Ns X.env.locals m') (hs : Heap.SameBut X.env.locals s.heap h') : Inv X pins (noneS X.N) H { s with heap:=h',toks:=t' }:=by
  have neL : ∀ b o,X.s₀.heap.get? b=some o→b≠X.env.locals:=fun b o e => Nat.ne_of_lt (Nat.lt_of_lt_of_le (Heap.lt_size e) I.ok.above)
  refine ⟨I.ok,I.os,I.bare,⟨fun b o e n hb hx => ?_,fun b o e n hb hx => ?_,I.base.free,fun b o e hx => ?_,I.base.tups,I.base.frzs,I.base.tbls⟩,⟨m',hn,fun i x v _ e => ?_⟩,fun y c e => ?_,I.free,I.freeC,fun p hp => ?_,fun b ob e => ?_,by simp [noneS]⟩
  · exact (hs.2 b (neL b o e)).trans (I.base.keep b o e n hb hx)
  · obtain ⟨sl,e1⟩:=I.base.slot b o e n hb hx
    exact ⟨sl,(hs.2 b (neL b o e)).trans e1⟩
  · obtain ⟨o',e1⟩:=I.base.there b o e hx
    exact ⟨o',(hs.2 b (neL b o e)).trans e1⟩
  · unfold noneS at e
    rw [List.getElem?_replicate] at e
    split at e <;> cases e
  · obtain ⟨w',z⟩:=I.cell y c e
    exact ⟨w',z.sameBut hs (I.cne y c e)⟩
  · obtain ⟨e,n,ne,nf,d⟩:=I.pin p hp
    exact ⟨(hs.2 p.1 ne).trans e,n,ne,nf,d⟩
  · refine (I.hok b ob e).stay (fun c w' hc q => (hs.2 c ?_).trans q) (fun _ q => q) fun _ _ q => q
    rintro rfl
    rcases hc with rfl | hc
    · rw [I.free] at e; cases e
    · rw [I.free] at hc; cases hc
end
noncomputable def bmV : List Value := [.type "ValueError", .type "Exception", .type "BaseException", .type "object"]
theorem excObj {K : PySem.W.Frag} {h : Heap} {C : Addr} {bmB : List Value} {newId : String} (X : K.In h) (q : PySem.W.excIn K C bmB newId=true) :
    ∃ bm N nm qn bs hd sn sub ab col dd k0 k1 k2 k3 k5 mN, h.get? C = some (excClassObj nm qn C N bs bm hd sn sub ab col dd k0 k1 k2 k3 k5 newId) ∧ h.Ns N mN ∧ mN "__init__" = none ∧ OwnTail h bmB bm := by
  unfold PySem.W.excIn at q
  split at q
  · rename_i dd cd sl ho
    split at q
    · rename_i C' bm k0 k1 k2 k3 n k5 hm hs
      simp only [Bool.and_eq_true,beq_iff_eq,Bool.not_eq_true'] at q
      obtain ⟨⟨⟨⟨⟨rfl,rfl⟩,hdel⟩,ht⟩,hok⟩,hni⟩:=q
      obtain ⟨nm,bs,mro,ns,qn,hd,sn,sub,ab,col,del⟩:=cd
      dsimp only at hm hdel hok hni
      subst hm hdel
      have hsl : sl=#[k0,k1,k2,k3,some (.builtin n),k5]:=by
        obtain ⟨l⟩:=sl
        simp only at hs
        rw [hs]
      subst hsl
      exact ⟨bm,ns,nm,qn,bs,hd,sn,sub,ab,col,dd,k0,k1,k2,k3,k5,_,X _ _ ho,.of_isNs (PySem.W.isNs_of_in X hok),PySem.W.nsMap_none_of_in X hok hni,PySem.W.tail_of_in X ht⟩
    · cases q
  · cases q
noncomputable def RaiseX (X : Cx) (E : St→XK) : Prop:=∀ (pins : List (Addr×Obj)) (σ : St) (H : Hp) (s : Shared) (h' : Heap) (e : Addr) (C : Value) (args : List Value),Inv X pins σ H s→Heap.MadeExcOf s.heap h' e C args→E σ C none H→X.xe (.ref e) { s with heap:=h' }
noncomputable def PassX (X : Cx) (E : St→XK) : Prop:=∀ (pins : List (Addr×Obj)) (σ : St) (H : Hp) (s : Shared) (e : Value) (s' : Shared),Inv X pins σ H s→CX1 X.prog X.w X.stack H s (E σ) e s'→X.xe e s'
section
variable {X : Cx} {C : Addr} {x y : Str} {np cpos pos p : Pos} {j : Nat} {E : St→XK}
noncomputable def tRaise (C : Addr) (E : St→XK) : TS:=fun _ σ H => E σ (.ref C) none H
theorem ps_raise (hh : X.A.handled = none) (hx : RaiseX X E) (hg : Gl X x) (hm : X.mg x = some (.ref C)) (hq : PySem.W.excIn X.K C bmV "ValueError.__new__" = true) (hd : (x == ("__debug__" : Str)) = false := by decide) :
    PS X (.Raise (some (.Call (.Name x np) [.Constant (.str y) j p] [] cpos)) none pos) (tRaise C E):=by
  intro pins s σ H D I h
  obtain ⟨bm,N,nm,qn,bs,hdc,sn,sub,ab,col,dd,k0,k1,k2,k3,k5,mN,hC,hN,hni,T⟩:=excObj I.ok.mod.kin hq
  refine wpAny_Raise_call_subU (C:=C) (nm:=nm) (q:=qn) (N:=N) (bs:=bs) (bm:=bm) (hdct:=hdc) (sn:=sn) (sub:=sub) (ab:=ab) (col:=col) (dd:=dd) (k0:=k0) (k1:=k1) (k2:=k2) (k3:=k3) (k5:=k5)
    F.excBase_ValueError (by decide +kernel) F.excBase_ValueError (mN:=mN) (T.hasType (by decide +kernel)) hh rfl hni (ld_glob I hg hm ⟨rfl,?_⟩ hd)
  have he : starEach [Expr.Constant (.str y) j p] X.env=(false,eval (.Constant (.str y) j p) X.env) :: starEach [] X.env:=by rfl
  rw [he]
  refine Calls.evalArgs_plain ?_
  have ha : PA X [Expr.Constant (.str y) j p] _:=pa_cons pe_str pa_nil he
  have hp:=ha cpos pins s σ H (fun vs H1 => vs.length≤sizeLine∧H1=H) I ⟨by show 1≤sizeLine; decide,rfl⟩
  rw [he] at hp
  refine wpAny_mono hp (fun us s2 ⟨vs,H1,I1,r,hl,e1⟩ => ?_) fun _ _ z => z
  subst e1
  exact ⟨rfl,by rw [← r.length]; exact hl,I1.bk _ _ hC,hN.keeps I1.bk,T.keeps I1.bk,fun h' e hm => hx pins σ H1 s2 h' e (.ref C) us I1 hm h⟩
end
section
variable {X : Cx} {k : Nat} {f : Addr} {fd : FuncData} {ps : List Str} {sp : Sp} {E : St→XK} {x : Str} {p pos : Pos} {e : Expr} {es : List Expr} {t : TA}
noncomputable def tCallX (sp : Sp) (E : St→XK) (t : TA) : TE:=fun σ H Q => t σ H fun vs H1 => sp vs H1 Q (E σ)
theorem pe_callX (F : FnOk X.prog X.w X.K X.mg X.base (CX1 X.prog X.w) k f fd ps sp) (hr : Room k X.A) (hg : Gl X x) (hm : X.mg x=some (.ref f)) (hk : PySem.W.keepIn X.K (.ref f)=true) (hb : Binds X.K fd ps []) (hx : PassX X E)
    (ha : PA X (e :: es) t) (hdb : (x == ("__debug__" : Str)) = false := by decide) (he : starEach (e :: es) X.env = (false, eval e X.env) :: starEach es X.env := by rfl) (hpl : (backTo pos (starEach es X.env)).any (·.1) = false := by rfl) :
    PE X (.Call (.Name x p) (e :: es) [] pos) (tCallX sp E t):=by
  intro pins s σ H Q I h
  refine wpAny_Call_Name_kw (ld_glob I hg hm ?_ hdb)
  refine PySem.W.callWith_K (h₀:=X.base) I.ok.mod.kin hk (thn (ha pos pins s σ H _ I h) fun us s1 ⟨vs,H1,I1,r,q⟩ => ⟨I1.kIn,?_⟩) he hpl
  have hl : us.length=ps.length:=by rw [← r.length]; exact F.len _ _ _ _ q
  have hb2:=hb s1 us I1.kIn (by rw [List.append_nil]; exact hl)
  rw [List.append_nil] at hb2
  refine wpAny_call (codeAny_mono (F.run X.A X.stack s1 H1 ⟨us,[]⟩ us vs Q (E σ) hr I1.env0 hb2 r q) fun r s' hq => ?_)
  cases r with
  | error e => exact hx pins σ H1 s1 e s' I1 hq
  | ok fl =>
    cases fl with
    | ret u => exact I1.after hq
    | next => exact False.elim hq
    | brk => exact False.elim hq
    | cont => exact False.elim hq
end
noncomputable abbrev Xt (X : Cx) (pl : List (Addr×Obj)) (E : Value→Shared→Prop) : Cx:={ X with pn:=pl,xe:=E }
theorem Cx.Ok.xt {X : Cx} (ok : X.Ok) (pl : List (Addr×Obj)) (E : Value→Shared→Prop) : (Xt X pl E).Ok :=
  ⟨ok.mod,ok.kind,ok.glob,ok.blt,ok.above,ok.inj,ok.has,ok.cab,ok.hd,ok.frames,ok.stk,ok.exf,ok.bs,ok.bsz,ok.noex,ok.exfs,ok.funs,ok.frf⟩
theorem Cx.Ok.unxt {X : Cx} {pl : List (Addr×Obj)} {E : Value→Shared→Prop} (ok : (Xt X pl E).Ok) : X.Ok :=
  ⟨ok.mod,ok.kind,ok.glob,ok.blt,ok.above,ok.inj,ok.has,ok.cab,ok.hd,ok.frames,ok.stk,ok.exf,ok.bs,ok.bsz,ok.noex,ok.exfs,ok.funs,ok.frf⟩
theorem Inv.xt {X : Cx} {pins : List (Addr×Obj)} {σ : St} {H : Hp} {s : Shared} {E : Value→Shared→Prop} (I : Inv X pins σ H s) : Inv (Xt X (X.pn++pins) E) [] σ H s:=⟨I.ok.xt _ _,I.os,I.bare,I.base,I.loc,I.cell,I.free,I.freeC,fun p hp => I.pin p (by rw [List.append_nil] at hp; exact hp),I.hok,I.len⟩
theorem Inv.unxt {X : Cx} {pins pins' : List (Addr×Obj)} {σ : St} {H : Hp} {s : Shared} {E : Value→Shared→Prop} (I : Inv (Xt X (X.pn++pins) E) pins' σ H s) : Inv X pins σ H s:=⟨I.ok.unxt,I.os,I.bare,I.base,I.loc,I.cell,I.free,I.freeC,fun p hp => I.pin p (List.mem_append_left _ hp),I.hok,I.len⟩
noncomputable abbrev Xm (X : Cx) (a : Addr) : Cx:={ X with A:=X.A.mark (some (.ref a)),calm:=false,xe:=fun _ _ => False }
theorem Cx.Ok.xm {X : Cx} (ok : X.Ok) (a : Addr) : (Xm X a).Ok :=
  ⟨ok.mod,ok.kind,ok.glob,ok.blt,ok.above,ok.inj,ok.has,ok.cab,fun z => Bool.noConfusion z,ok.frames,ok.stk,ok.exf,ok.bs,ok.bsz,ok.noex,ok.exfs,ok.funs,ok.frf⟩
section
variable {X : Cx} {pins : List (Addr×Obj)} {σ : St} {H : Hp} {s s' : Shared}
theorem Inv.xm (I : Inv X pins σ H s) (a : Addr) : Inv (Xm X a) pins σ H s:=⟨I.ok.xm a,I.os,I.bare,I.base,I.loc,I.cell,I.free,I.freeC,I.pin,I.hok,I.len⟩
theorem Inv.unxm {a : Addr} (ok : X.Ok) (I : Inv (Xm X a) pins σ H s) : Inv X pins σ H s:=⟨ok,I.os,I.bare,I.base,I.loc,I.cell,I.free,I.freeC,I.pin,I.hok,I.len⟩
noncomputable def excHO (o : Obj) : HO:=.frz o (.ext fun _ => True)
noncomputable def tHand (K : PySem.W.Frag) (CB : Addr) (ie : Nat) (th : TS) (D : Ends) : St→XK:=fun σ C _ H => PySem.W.exmOne K C (.ref CB)=some true∧∀ a o,H a=none→K.lookup a=none→o.cls=C→(∃ vs,o.data=.fields vs)→th { nx:=fun _ _ => False,rt:=D.rt } (σ.set ie (some (.ref a))) (upd H a (excHO o))
noncomputable def tryXe (X : Cx) (hs : List ExceptHandler) (Q : Flow→Shared→Prop) : Value→Shared→Prop:=fun e s₁ =>
  wpAny (model X.prog X.w) X.A (noteFrame e X.env) (fun _ s₂ => wpAny (model X.prog X.w) X.A (setFlight e none) (fun _ s₃ => wpAny (model X.prog X.w) X.A (handleBy e X.env hs) Q X.xe s₃) X.xe s₂) X.xe s₁
theorem try_land {CB : Addr} {x n : Str} {ie : Nat} {np hpos : Pos} {b₀ : Stmt} {suite : List Stmt} {th : TS} {D : Ends} (hst : X.stack=X.env :: X.outer) (hfr : X.env.frame=some X.env.locals) (hex : X.ex=[]) (hg : Gl X x) (hm : X.mg x=some (.ref CB)) (hN : X.N.Nodup) (hi : X.N[ie]?=some n) (hloc : X.env.scope.names.lookup n=some .local)
    (hb : ∀ a, PSs (Xm X a) (b₀ :: suite) th) (hd : (x == ("__debug__" : Str)) = false := by decide) {e : Value} (I : Inv X pins σ H s) (hc : CX1 X.prog X.w X.stack H s (tHand X.K CB ie th D σ) e s') :
    tryXe X [.ExceptHandler (some (.Name x np)) (some n) (b₀ :: suite) hpos] (SP X pins D) e s':=by
  obtain ⟨a,C,H2,e1,F,hE⟩:=hc
  subst e1
  have I2 : Inv X pins σ H2 s':=I.call' (ch:=[]) F.os F.un F.hok F.bare (fun b z => absurd z (by simp))
  obtain ⟨oe,vs,a0,T,oT,ts,h1,h2,h3,h4,h5,h6,h7,h8,h9,h10⟩:=F.tr
  have hx : ∀ x∈[a,T],H2 x=none:=fun x hx => by
    rcases List.mem_cons.mp hx with rfl | hx
    · exact F.he
    · rcases List.mem_cons.mp hx with rfl | hx
      · exact h9
      · cases hx
  have hs0 : ∀ x∈[a,T],s.heap.get? x=none:=fun x hx => by
    rcases List.mem_cons.mp hx with rfl | hx
    · exact F.se
    · rcases List.mem_cons.mp hx with rfl | hx
      · exact h10
      · cases hx
  have hx0 : ∀ x∈[a,T],X.s₀.heap.get? x=none:=fun x hx => fly_new I hex (hs0 x hx)
  have hxp : ∀ p∈X.pn++pins,p.1 ∉ [a,T]:=fun p hp z => by
    have:=(I.pin p hp).1
    rw [hs0 _ z] at this; cases this
  have aL : a≠X.env.locals:=fun z => by
    obtain ⟨m,⟨o,_,_,ho,_⟩,_⟩:=I.loc
    have:=F.se
    rw [z,ho] at this; cases this
  have aC : ∀ x c,X.env.cells.lookup x=some c→c≠a:=fun x c e z => by
    obtain ⟨v,o,ho,_⟩:=I.cell x c e
    have:=F.se
    rw [← z,ho] at this; cases this
  have fl0 : Heap.FlyingW (PySem.W.hideAll s'.heap (frs X.stack++[a,T])) (X.env :: X.outer) a C a0 s'.heap:=⟨fun b o q => PySem.W.of_hideAll _ q,PySem.W.hideAll_none _ (by simp),by rw [← hst]; exact PySem.W.funFrames_hide I2.stack fun env he b hb => List.mem_append_left _ (I2.frmem env he b hb),oe,vs,T,oT,ts,h1,h2,h3,h4,PySem.W.hideAll_none _ (by simp),h5,h6,h7,h8⟩
  unfold tryXe
  refine wpAny_looks_onW (by rw [← hst]; exact I2.ok.frames) hfr fl0 fun h4' held up4 => ?_
  refine wpAny_landsW held fun h5' fl5 up5 => ?_
  have up:=up4.trans up5
  have I5 : Inv X pins σ H2 { s' with heap:=h5' }:=fly_inv (t':=s'.toks) I2 hex hx hx0 hxp fl5.1 up
  obtain ⟨ob,hob,hobc⟩:=fl5.there
  refine wpAny_handleBy_cons (codeAny_handlers_test (ld_glob (X:=Xm X a) (I5.xm a) hg hm ?_ hd)) (by intro q; cases q)
  have LT : PySem.W.Looks (model X.prog X.w) h5' (typeOf (.ref a)) C:=hobc ▸ (PySem.W.Looks.ld hob).andThen .now
  refine (PySem.W.exm_one I5.kIn LT hE.1).here ?_
  refine codeAny_handlers_suite_as ?_
  refine lands_againW fl5 fun h6' fl6 up6 => ?_
  have I6 : Inv X pins σ H2 { s' with heap:=h6' }:=fly_inv (t':=s'.toks) I2 hex hx hx0 hxp fl6.1 (up.trans up6)
  obtain ⟨oe6,vs6,hoe6,hoec6,hoed6,_⟩:=fl6.first
  have I7 : Inv X pins σ (upd H2 a (excHO oe6)) { s' with heap:=h6' }:=I6.track F.he (hx0 a (by simp)) aL aC (fun p hp z => hxp p hp (by rw [z]; simp)) ⟨hoe6,trivial,⟨_,hoe6⟩,fun _ _ _ _ => trivial⟩
  refine store_ok (X:=Xm X a) (I7.xm a) hN hi (.inl hloc) (v:=.ref a) rfl (fun s8 I8 => ?_) (.inr hloc)
  refine wpAny_mono (hb a pins s8 _ _ _ I8 (hE.2 a oe6 F.he (by cases q : X.K.lookup a with | none => rfl | some u => have z:=I.kIn _ _ q; rw [F.se] at z; cases z) hoec6 ⟨_,hoed6⟩)) (fun fl s9 hq => ?_) fun _ _ z => z.elim
  have hkn : X.env.kindOf n=some .local:=hloc
  cases fl with
  | ret u =>
    obtain ⟨v,σ',H',I9,r,q⟩:=hq
    have J:=I9.unxm I.ok
    obtain ⟨m,hn,_⟩:=id J.loc
    refine wpAny_nameGoes hkn hn (by rw [I.ok.kind]; rfl) fun h10 m' hn' hs => ?_
    exact ⟨v,_,H',J.forget (t':=s9.toks+1) hn' hs,r,q⟩
  | next => obtain ⟨_,_,_,q⟩:=hq; exact q.elim
  | brk => obtain ⟨_,_,_,q⟩:=hq; exact q.elim
  | cont => obtain ⟨_,_,_,q⟩:=hq; exact q.elim
end
end L2
namespace L2
open PySem PySem.Spec PySem.Calls PyProof.Rows Builtin Builtin.ObjectAttr Builtin.Getset_descriptor
section
variable {prog : Program} {w : World} {A : Around} {E : Value→Shared→Prop} {h : Heap} {g : Array GenState} {d : Drawn} {t : Nat} {os : OsState} {a C : Addr} {K : PySem.W.Frag}
theorem xc_get {R : Result → Shared → Prop} {tp : Value} (X : K.In h) (L0 : PySem.W.Looks (model prog w) h (typeOf (.ref a)) (.ref C)) (hm : PySem.W.mroIn K C (.type "object") = some true) (hq : R (.ok (.ret (.ref C))) ⟨h, g, d, t, os⟩) :
    codeAny (model prog w) A (.call (.builtin "getset_descriptor.__get__") ⟨[.builtin "object.__class__", .ref a, tp], []⟩) R ⟨h, g, d, t, os⟩ := by
  have L1:=PySem.W.looks_mroIn (M:=model prog w) X hm
  refine codeAny_call_builtin PySem.W.KF.slot_gs.plain PySem.W.KF.entry_gs (PySem.W.KF.slot_gs.check _ _ _ _ _ _ _ _ PySem.W.KF.type_class (PySem.W.KF.args_gs _ _ _) ?_)
  unfold Builtin.«getset_descriptor.__get__» descrGet
  rw [PySem.W.dga_obj]
  refine wpAny_bind (wpAny_pure ?_)
  unfold descrGetter descrCheckInstance descrNameAndClass isInstance
  simp only [PySem.W.KF.owner_class]
  repeat lk
  refine ⟨Code.quiet_builtin _ (by decide +kernel),codeAny_builtin PySem.W.KF.entry_class ?_⟩
  unfold Builtin.«object.__class__» shownTypeOf
  repeat lk
  exact hq
theorem xc_entry {tk : Tok} {Q : Fin → Shared → Prop} (X : K.In h) (L0 : PySem.W.Looks (model prog w) h (typeOf (.ref a)) (.ref C)) (hm : PySem.W.mroIn K C (.type "object") = some true) (f3 : PySem.W.findIn K (.ref C) "__class__" = some (some (.builtin "object.__class__"))) (hq : Q (.done (.ret (.ref C))) ⟨h, g, d, t, os⟩) :
    wpAny (model prog w) A (Builtin.«object.__getattribute__» ⟨[.ref a, .str "__class__" tk], []⟩) Q E ⟨h, g, d, t, os⟩ := by
  have L3:=PySem.W.looks_findIn (M:=model prog w) X f3
  have hT5 : (⟨h, g, d, t, os⟩ : Shared).TypeIs (.builtin "object.__class__") "getset_descriptor" := F.typeOf_object_class
  have f5:=F.typeOf_object_class
  have f6:=F.slot_gs_get.lookup
  have f7:=F.slot_gs_set.lookup
  repeat (any_goals (first | assumption | with_reducible refine L0.at ?_ | with_reducible refine L3.at ?_ | wp_step))
  refine xc_get X L0 hm ?_
  repeat (any_goals (first | assumption | wp_step))
theorem xc_check {M : Model} {nameV : Value} {Q : Unit → Shared → Prop} (X : K.In h) (L0 : PySem.W.Looks M h (typeOf (.ref a)) (.ref C)) (hm : PySem.W.mroIn K C (.type "BaseException") = some true) (hq : Q () ⟨h, g, d, t, os⟩) :
    wpAny M A (checkBuiltinCall "BaseException.__getattribute__" ⟨[.ref a, nameV], []⟩) Q E ⟨h, g, d, t, os⟩ := by
  have hk : builtinKind "BaseException.__getattribute__" = some .slot := by decide +kernel
  have hsplit : splitId "BaseException.__getattribute__" = some ("BaseException", "__getattribute__") := by decide +kernel
  have ha:=F.args_bexc_ga (.ref a) nameV
  have L1:=PySem.W.looks_mroIn (M:=M) X hm
  simp only [checkBuiltinCall,hk,hsplit]
  refine wpAny_bind ?_
  · unfold isInstance
    repeat (first | with_reducible refine L0.at ?_ | with_reducible refine L1.at ?_ | wp_step)
    exact hq
theorem xc_call {tk : Tok} {R : Result → Shared → Prop} (X : K.In h) (L0 : PySem.W.Looks (model prog w) h (typeOf (.ref a)) (.ref C)) (hm : PySem.W.mroIn K C (.type "object") = some true) (hb : PySem.W.mroIn K C (.type "BaseException") = some true) (f3 : PySem.W.findIn K (.ref C) "__class__" = some (some (.builtin "object.__class__"))) (hq : R (.ok (.ret (.ref C))) ⟨h, g, d, t, os⟩) :
    codeAny (model prog w) A (.call (.builtin "BaseException.__getattribute__") ⟨[.ref a, .str "__class__" tk], []⟩) R ⟨h, g, d, t, os⟩ :=
  codeAny_call_builtin F.excAttr_ValueError.ga.plain F.entry_bexc_ga (xc_check X L0 hb (xc_entry X L0 hm f3 hq))
theorem xc_by {tk : Tok} {fill expr : Bool} {Q : Value → Shared → Prop} (X : K.In h) (L0 : PySem.W.Looks (model prog w) h (typeOf (.ref a)) (.ref C)) (hm : PySem.W.mroIn K C (.type "object") = some true) (hb : PySem.W.mroIn K C (.type "BaseException") = some true) (f1 : PySem.W.findIn K (.ref C) "__getattribute__" = some (some (.builtin "BaseException.__getattribute__"))) (f2 : PySem.W.findIn K (.ref C) "__getattr__" = some none) (f3 : PySem.W.findIn K (.ref C) "__class__" = some (some (.builtin "object.__class__"))) (hq : Q (.ref C) ⟨h, g, d, t, os⟩) :
    wpAny (model prog w) A (getAttrBy (.ref a) (.str "__class__" tk) fill expr) Q E ⟨h, g, d, t, os⟩ := by
  have L1:=PySem.W.looks_findIn (M:=model prog w) X f1
  have L2:=PySem.W.looks_findIn (M:=model prog w) X f2
  have f3':=F.excAttr_ValueError.ga.bind (.ref a)
  have hx0 : (expr && onTheHeap (Value.builtin "BaseException.__getattribute__")) = false := by cases expr <;> rfl
  have hx2 : (Value.builtin "BaseException.__getattribute__" == Value.builtin "object.__getattribute__") = false := by decide +kernel
  have hx1 : (onTheHeap (Value.ref C) && Value.builtin "BaseException.__getattribute__" == Value.builtin "object.__getattribute__") = false := by rw [hx2]; rfl
  repeat (any_goals (first | assumption | with_reducible refine L0.at ?_ | with_reducible refine L1.at ?_ | with_reducible refine L2.at ?_ | wp_step))
  refine xc_call X L0 hm hb f3 ?_
  repeat (any_goals (first | assumption | wp_step))
theorem xc_attr {Q : Option Value → Shared → Prop} (X : K.In h) (L0 : PySem.W.Looks (model prog w) h (typeOf (.ref a)) (.ref C)) (hm : PySem.W.mroIn K C (.type "object") = some true) (hb : PySem.W.mroIn K C (.type "BaseException") = some true) (f1 : PySem.W.findIn K (.ref C) "__getattribute__" = some (some (.builtin "BaseException.__getattribute__"))) (f2 : PySem.W.findIn K (.ref C) "__getattr__" = some none) (f3 : PySem.W.findIn K (.ref C) "__class__" = some (some (.builtin "object.__class__"))) (hq : Q (some (.ref C)) ⟨h, g, d, t + 1, os⟩) :
    wpAny (model prog w) A (getAttr? (.ref a) "__class__") Q E ⟨h, g, d, t, os⟩ := by
  unfold getAttr? getAttrBy?
  repeat (any_goals (first | assumption | with_reducible apply xc_by X L0 hm hb f1 f2 f3 | wp_step))
end
structure XCls (K : PySem.W.Frag) (C : Addr) : Prop where
  ob : PySem.W.mroIn K C (.type "object") = some true
  ba : PySem.W.mroIn K C (.type "BaseException") = some true
  f1 : PySem.W.findIn K (.ref C) "__getattribute__" = some (some (.builtin "BaseException.__getattribute__"))
  f2 : PySem.W.findIn K (.ref C) "__getattr__" = some none
  f3 : PySem.W.findIn K (.ref C) "__class__" = some (some (.builtin "object.__class__"))
theorem kitx_exc {K : PySem.W.Frag} {a C : Addr} (Z : XCls K C) : PySem.W.KitX K (.ref a) (.ref C) (fun h => ∃ o,h.get? a=some o∧o.cls=.ref C) where
  ty:=fun M h _ ⟨o,e,c⟩ => c ▸ (PySem.W.Looks.ld e).andThen .now
  it:=fun M h X _ => by
    obtain ⟨cd,hc,_⟩:=Option.bind_eq_some_iff.mp Z.ob
    unfold PySem.W.clsIn at hc
    split at hc
    · rename_i c' d' cd' sl' ho
      intro A' Q' E' s' k q
      unfold isType loadHead
      exact wpAny_bind (wpAny_loadPart (k _ _ (X _ _ ho)) (wpAny_pure q))
    · cases hc
  ne:=fun h tp dd its n sl X htp => by
    obtain ⟨cd,hc,_⟩:=Option.bind_eq_some_iff.mp Z.ob
    refine Bool.eq_false_iff.mpr fun q => ?_
    have e : C=tp:=Value.ref.inj (beq_iff_eq.mp q)
    subst e
    unfold PySem.W.clsIn at hc
    split at hc
    · rename_i c' d' cd' sl' ho
      have z:=(X _ _ ho).symm.trans htp
      cases z
    · cases hc
  ca:=fun {prog w A E Q s} X ⟨o,e,c⟩ k => by
    obtain ⟨hh,g,d,t,os⟩:=s
    exact xc_attr X (c ▸ (PySem.W.Looks.ld e).andThen .now) Z.ob Z.ba Z.f1 Z.f2 Z.f3 k
end L2
namespace L2
open PySem PySem.Spec PySem.Calls PyProof.Rows
noncomputable def cvV : V→Value
  | .ref a => .ref a | .ty n => .type n | _ => .none
noncomputable def clsV : V→Bool
  | .ref _ => true | .ty _ => true | _ => false
theorem vals_cls : ∀ {cs : List V} {us : List Value},(∀ c∈cs,clsV c=true)→Vals cs us→us=cs.map cvV
  | [],_,_,.nil => rfl
  | c :: cs,_,h,.cons r rs => by
    rw [List.map_cons,← vals_cls (fun x hx => h x (List.mem_cons_of_mem _ hx)) rs]
    have hc:=h c (List.mem_cons_self ..)
    cases c <;> first | (cases hc; done) | (have r : _=_:=r; rw [r]; rfl)
noncomputable def clO (p : Addr) (us : List Value) : HO := .ext fun h => h.get? p = some { cls := .type "tuple", data := .seq us.toArray }
section
variable {X : Cx} {pos : Pos}
noncomputable def tCls (us : List Value) : TE:=fun _ H Q => ∀ p,H p=none→Q (.ref p) (upd H p (clO p us))
theorem pe_clTup {es : List Expr} {k} {cs : List V} {t : TA} (h : PA X es t) (ht : ∀ σ H Q,Q cs H→t σ H Q) (hca : cs.all clsV=true) (hl : Nat.ble cs.length 40=true) : PE X (.Tuple es k pos) (tCls (cs.map cvV)):=by
  have hc : ∀ c∈cs,clsV c=true:=List.all_eq_true.mp hca
  have hl : cs.length≤40:=Nat.le_of_ble_eq_true hl
  intro pins s σ H Q I hq
  refine wpAny_Tuple_spliced (thn (h pos pins s σ H (fun vs H1 => vs=cs∧H1=H) I (ht _ _ _ ⟨rfl,rfl⟩)) fun us s1 ⟨xs,H1,I1,r,e1,e2⟩ => ⟨?_,?_⟩)
  · rw [← r.length,e1,sizeLine_eq]; omega
  · subst e1 e2
    have hu:=vals_cls hc r
    subst hu
    have hf : H1 s1.heap.objs.size=none:=I1.hok.fresh (Nat.le_refl _)
    refine ⟨.ref s1.heap.objs.size,upd H1 s1.heap.objs.size (clO s1.heap.objs.size (xs.map cvV)),I1.laid (t':=s1.toks) (fun b u e => Heap.get?_push_of_some _ e) (Nat.le_refl _) ?_,rfl,hq _ hf⟩
    exact ⟨Heap.get?_push_size _ rfl,⟨_,Heap.get?_push_size _ rfl⟩,fun h1 h2 q k => k _ q⟩
noncomputable def rIsX1 (K : PySem.W.Frag) (c : V) : List V→Hp→VK→Prop:=fun xs H Q => ∃ a o C b,xs=[.ref a,c]∧H a=some (excHO o)∧o.cls=.ref C∧XCls K C∧PySem.W.kitOne K (.ref C) (cvV c)=some b∧Q (.bl b) H
theorem call_isX1 {c : V} (hc : clsV c = true) : CallR X (.builtin "isinstance") (rIsX1 X.K c) := by
  intro pins s σ H xs us Q I r ⟨a,o,C,b,e,hx,ho,Z,hk,q⟩
  subst e
  cases r with
  | cons r1 r2 =>
    cases r2 with
    | cons r2 r3 =>
      cases r3
      have e1 : _=Value.ref a:=r1
      subst e1
      have e2:=vals_cls (cs:=[c]) (fun x hx => by cases hx with | head => exact hc | tail _ h => cases h) (.cons r2 .nil)
      cases e2
      have hob : s.heap.get? a=some o:=(I.hok a _ hx).1
      exact PySem.W.kia_one (kitx_exc Z) I.kIn ⟨o,hob,ho⟩ hk (by intro z; cases z) fun tk => ⟨.bl b,H,I.tok tk,rfl,q⟩
noncomputable def rIsXT (K : PySem.W.Frag) (us : List Value) : List V→Hp→VK→Prop:=fun xs H Q => ∃ a o C p b,xs=[.ref a,.ref p]∧H a=some (excHO o)∧o.cls=.ref C∧XCls K C∧H p=some (clO p us)∧PySem.W.kitAny K (.ref C) us=some b∧Q (.bl b) H
theorem call_isXT {us : List Value} : CallR X (.builtin "isinstance") (rIsXT X.K us) := by
  intro pins s σ H xs vs Q I r ⟨a,o,C,p,b,e,hx,ho,Z,hp,hk,q⟩
  subst e
  cases r with
  | cons r1 r2 =>
    cases r2 with
    | cons r2 r3 =>
      cases r3
      have e1 : _=Value.ref a:=r1
      subst e1
      have e2 : _=Value.ref p:=r2
      subst e2
      have hob : s.heap.get? a=some o:=(I.hok a _ hx).1
      have htp : s.heap.get? p = some { cls := .type "tuple", data := .seq us.toArray } := (I.hok p _ hp).1
      exact PySem.W.kia_tup (kitx_exc Z) I.kIn ⟨o,hob,ho⟩ htp hk (by intro z; cases z) fun tk => ⟨.bl b,H,I.tok tk,rfl,q⟩
end
end L2
namespace L2
open PySem PySem.Spec PySem.SeqAt PySem.Calls PyProof.Rows
theorem vals_bl : ∀ {bs : List Bool} {us : List Value},Vals (bs.map V.bl) us→us=bs.map Value.bool
  | [],_,.nil => rfl
  | b :: bs,_,.cons r rs => by
    have r : _=_:=r
    rw [List.map_cons,← vals_bl rs,r]
theorem eq_bl (k : Bool) (bs : List Bool) (A : Around) (s : Shared) : ∀ y,y∈(bs.map Value.bool).toArray→EqAt A s y (.bool k) (isBoolOf k y):=fun y hy => by
  simp only [List.mem_toArray,List.mem_map] at hy
  obtain ⟨b,_,rfl⟩:=hy
  exact EqAt.bool_bool b k
theorem countP_bl (k : Bool) : ∀ bs : List Bool,(bs.map Value.bool).countP (isBoolOf k)=bs.count k
  | [] => rfl
  | b :: bs => by rw [List.map_cons,List.countP_cons,countP_bl k bs,List.count_cons]; rfl
section
variable {X : Cx}
noncomputable def rCount (K : PySem.W.Frag) : V→List V→Hp→VK→Prop:=fun x vs H Q => ∃ (p : Addr) (bs : List Bool) (k : Bool),x=.ref p∧vs=[.bl k]∧SqL K H p (bs.map V.bl)∧Q (.int (bs.count k : Nat)) H
theorem mt_count : MtM X "list.count" (rCount X.K) := by
  intro pins s σ H x vs v us Q I rx rv h
  obtain ⟨p,bs,k,rfl,rfl,hs,q⟩:=h
  cases rx
  obtain ⟨u,rfl,ru⟩:=rv.one
  have ru : _=_:=ru
  subst ru
  obtain ⟨its,r,pl,_⟩:=I.list hs
  have e:=vals_bl r
  subst e
  obtain ⟨⟨cls,dd,data,sl⟩,ho,hc,n,hd⟩:=pl.isList
  simp only at hc hd
  subst hc hd
  refine call_meets PySem.F.slot_list_count ⟨_,ho,rfl⟩ PySem.F.entry_list_count (PySem.F.args_list_count_2 _ _) (list_countAt p _ n dd sl (.bool k) (isBoolOf k)) ⟨ho,eq_bl k bs _ _,?_⟩
  exact ⟨.int (bs.count k : Nat),H,I.tok _,⟨s.toks,by rw [← countP_bl]⟩,q⟩
noncomputable def rIndex (K : PySem.W.Frag) : V→List V→Hp→VK→Prop:=fun x vs H Q => ∃ (p : Addr) (bs : List Bool) (k : Bool),x=.ref p∧vs=[.bl k]∧SqL K H p (bs.map V.bl)∧k∈bs∧Q (.int (bs.idxOf k : Nat)) H
theorem mt_index : MtM X "list.index" (rIndex X.K) := by
  intro pins s σ H x vs v us Q I rx rv h
  obtain ⟨p,bs,k,rfl,rfl,hs,hk,q⟩:=h
  cases rx
  obtain ⟨u,rfl,ru⟩:=rv.one
  have ru : _=_:=ru
  subst ru
  obtain ⟨its,r,pl,hz⟩:=I.list hs
  have e:=vals_bl r
  subst e
  obtain ⟨⟨cls,dd,data,sl⟩,ho,hc,n,hd⟩:=pl.isList
  simp only at hc hd
  subst hc hd
  have hj : bs.idxOf k < bs.length:=List.idxOf_lt_length_iff.mpr hk
  have hn:=line63
  have hz' : bs.length≤sizeLine:=by simpa using hz
  refine call_meets PySem.F.slot_list_index ⟨_,ho,rfl⟩ PySem.F.entry_list_index (PySem.F.args_list_index_2 _ _)
    (list_indexAt p _ n dd sl (.bool k) (isBoolOf k) (bs.idxOf k) (by simpa using hj) (by omega) ?_ ?_) ⟨ho,eq_bl k bs _ _,⟨.int (bs.idxOf k : Nat),H,I.tok _,⟨s.toks,rfl⟩,q⟩⟩
  · simp [isBoolOf]
  · intro j hjs hlt
    have : bs[j]'(by simpa using hjs)≠k:=fun h => by
      have:=List.not_of_lt_findIdx (p:=(· == k)) (xs:=bs) hlt
      simp [h] at this
    simp [isBoolOf,this]
end
end L2
namespace L2
open PySem PySem.Spec PySem.Calls PyProof.Rows
structure RoomH (k : Nat) (A : Around) : Prop where
  dp : A.depth+3 * k+5 < recursionLimit
  un : A.units+16 * k+200 < cLine
  gd : A.guards=some []
theorem RoomH.mono {j k : Nat} {A : Around} (r : RoomH k A) (h : j≤k) : RoomH j A:=⟨by have:=r.dp; omega,by have:=r.un; omega,r.gd⟩
theorem RoomH.deeper {k : Nat} {A : Around} (r : RoomH (k+1) A) (env : Env) : RoomH k (A.deeper env) :=
  ⟨by have:=r.dp; show A.depth+1+3 * k+5 < _; omega,by have:=r.un; show A.units+3+16 * k+200 < _; omega,r.gd⟩
theorem Room.h {k : Nat} {A : Around} (r : Room k A) (o : Option Value) : RoomH k (A.mark o):=⟨r.dp,r.un,r.gd⟩
theorem RoomH.units {k : Nat} {A : Around} (r : RoomH k A) : A.units+64 < cLine:=by have:=r.un; omega
theorem RoomH.depth {k : Nat} {A : Around} (r : RoomH k A) : A.depth < recursionLimit:=by have:=r.dp; omega
noncomputable abbrev cxH (CX : CXT) (P : Program) (w : World) (K : PySem.W.Frag) (mg : Str→Option Value) (base : Heap) (N : List Str) (qual : Str) (scope : Scope) (f : Addr) (cd : Value) (A : Around) (outer : List Env) (s : Shared) (H : Hp) (E : XK) : Cx :=
  { cxOf CX P w K mg base N qual scope f cd A outer s H E with calm:=false }
structure FnOkH (P : Program) (w : World) (K : PySem.W.Frag) (mg : Str→Option Value) (base : Heap) (CX : CXT) (k : Nat) (f : Addr) (fd : FuncData) (ps : List Str) (sp : Sp) : Prop where
  len : ∀ vs H Q E,sp vs H Q E→vs.length=ps.length
  run : ∀ (A : Around) (outer : List Env) (s : Shared) (H : Hp) (args : Args) (us : List Value) (vs : List V) (Q : VK) (E : XK),RoomH k A→Env0 P w K mg base A outer s H→BindsTo s fd args (ps.zip us)→Vals vs us→sp vs H Q E →
    codeAny (model P w) A (.call (.ref f) args) (CR CX outer P w H s Q E) s
theorem FnOkH.mono {P : Program} {w : World} {K : PySem.W.Frag} {mg : Str→Option Value} {base : Heap} {CX : CXT} {j k : Nat} {f : Addr} {fd : FuncData} {ps : List Str} {sp : Sp} (F : FnOkH P w K mg base CX j f fd ps sp) (h : j≤k) :
    FnOkH P w K mg base CX k f fd ps sp:=⟨F.len,fun A outer s H args us vs Q E hr => F.run A outer s H args us vs Q E (hr.mono h)⟩
theorem Env0.nohd {P : Program} {w : World} {K : PySem.W.Frag} {mg : Str→Option Value} {base : Heap} {A : Around} {outer : List Env} {s : Shared} {H : Hp} (e : Env0 P w K mg base A outer s H) :
    Env0 P w K mg base { A with handled:=none } outer s H:=⟨e.frames,e.mod,e.bs,e.bsz,e.funs,e.frf,e.hok,e.bare⟩
theorem inv_startH {CX : CXT} {P : Program} {w : World} {K : PySem.W.Frag} {mg : Str→Option Value} {base : Heap} {N ps : List Str} {qual : Str} {scope : Scope} {f : Addr} {cd : Value} {A : Around} {outer : List Env} {s s1 : Shared} {H : Hp} {E : XK} {us : List Value} {vs : List V}
    (S : FnScope N ps scope) (e0 : Env0 P w K mg base A outer s H) (hl : vs.length=ps.length) (r : Vals vs us)
    (x : InCallC s s.heap.objs.size (bindL (envOfC qual scope s.heap.objs.size f cd).kindOf (ps.zip us) fun _ => none) (cellsFrom (s.heap.objs.size+1) scope.names []) (bindC (envOfC qual scope s.heap.objs.size f cd).kindOf (ps.zip us) fun _ => none) s1) :
    Inv (cxH CX P w K mg base N qual scope f cd A outer s H E) [] (start N vs) H s1:=by
  have I:=inv_start (A:={ A with handled:=none }) (CX:=CX) (E:=E) S rfl e0.nohd hl r x
  have ok:=I.ok
  exact ⟨⟨ok.mod,ok.kind,ok.glob,ok.blt,ok.above,ok.inj,ok.has,ok.cab,fun z => Bool.noConfusion z,Around.frames_deeper e0.frames,ok.stk,ok.exf,ok.bs,ok.bsz,ok.noex,ok.exfs,ok.funs,ok.frf⟩,I.os,I.bare,I.base,I.loc,I.cell,I.free,I.freeC,I.pin,I.hok,I.len⟩
theorem fn_ofH {CX : CXT} {P : Program} {w : World} {K : PySem.W.Frag} {mg : Str→Option Value} {base : Heap} {k : Nat} {f : Addr} {name qual : Str} {params : Arguments} {body : List Stmt} {scope : Scope} {dV kV doc pm cdv ct oc : Value} {an od : Option Addr}
    {osl : Array (Option Value)} {N ps : List Str} {sp : Sp} (lk : K.lookup f=some ⟨oc,od,.func (PySem.W.fnOf name qual params body scope dV kV doc pm an cdv ct),osl⟩) (hcd : PySem.W.codeIn K cdv qual=true) (S : FnScope N ps scope)
    (len : ∀ vs H Q E,sp vs H Q E→vs.length=ps.length)
    (hbody : ∀ (A : Around) (outer : List Env) (s : Shared) (H : Hp) (vs : List V) (Q : VK) (E : XK),RoomH k (A.deeper (envOfC qual scope s.heap.objs.size f cdv))→sp vs H Q E →
      ∃ t,PSs (cxH CX P w K mg base N qual scope f cdv A outer s H E) body t∧t { nx:=fun _ H' => Q .non H',rt:=Q } (start N vs) H) :
    FnOkH P w K mg base CX (k+1) f (PySem.W.fnOf name qual params body scope dV kV doc pm an cdv ct) ps sp:=by
  refine ⟨len,fun A outer s H args us vs Q E hr e0 hb r hsp => ?_⟩
  have hl:=len _ _ _ _ hsp
  have KX : K.In s.heap:=e0.mod.kin.keeps fun b o e => (e0.bs b o e).1
  have lim : s.heap.NoLimit:=e0.mod.nolimit.keeps fun b o e => (e0.bs b o e).1
  have hkind : ∀ y∈ps.zip us,scope.names.lookup y.1=some .local∨(scope.names.lookup y.1=some .cell∧((cellsFrom (s.heap.objs.size+1) scope.names []).lookup y.1).isSome=true):=fun ⟨n,v⟩ hy => by
    rcases S.par n (List.of_mem_zip hy).1 with q | q
    · exact .inl q
    · exact .inr ⟨q,PySem.W.cellsFrom_some _ _ _ (.inl q)⟩
  refine codeAny_call_function hr.depth (KX _ _ lk) rfl S.co S.gen rfl (PySem.W.codeRec_of KX hcd) (hb _ _ _ _ ?_)
  refine wpAny_newFunctionEnv_cells S.kind hkind fun env he s1 x => ?_
  subst he
  refine ⟨lim.keeps x.toInCall.keep,codeAny_func ?_⟩
  obtain ⟨t,ht,hq⟩:=hbody A outer s H vs Q E (hr.deeper _) hsp
  have I : Inv (cxH CX P w K mg base N qual scope f cdv A outer s H E) [] (start N vs) H s1:=inv_startH S e0 hl r x
  refine wpAny_mono (ht [] s1 (start N vs) H _ I hq) (fun fl s' hs => ?_) fun e s' hs => hs
  have fin : ∀ {σ' : St} {H' : Hp} {v : V} {u : Value},Inv (cxH CX P w K mg base N qual scope f cdv A outer s H E) [] σ' H' s'→RelV v u→Q v H'→CE outer P w H s Q u s' :=
    fun {σ' H' v u} J rv q => ⟨v,H',J.os,J.bare,J.base,J.hok,rv,q⟩
  cases fl with
  | ret u =>
    obtain ⟨v,σ',H',J,rv,q⟩:=hs
    exact fin J rv q
  | next =>
    obtain ⟨σ',H',J,q⟩:=hs
    exact fin (v:=V.non) (u:=Value.none) J rfl q
  | brk =>
    obtain ⟨_,_,_,q⟩:=hs
    exact False.elim q
  | cont =>
    obtain ⟨_,_,_,q⟩:=hs
    exact False.elim q
section
variable {P : Program} {w : World} {K : PySem.W.Frag} {mg : Str→Option Value} {base : Heap}
theorem Fun.okH {x qual : Str} {st : Stmt} {f : Addr} {fd : FuncData} {N ps : List Str} {k : Nat} {sp : Sp} (F : Fun K x qual st f fd) (S : FnScope N ps (defScope st)) (len : ∀ vs H Q E,sp vs H Q E→vs.length=ps.length)
    (hbody : ∀ (cdv : Value) (A : Around) (outer : List Env) (s : Shared) (H : Hp) (vs : List V) (Q : VK) (E : XK),RoomH k (A.deeper (envOfC qual (defScope st) s.heap.objs.size f cdv))→sp vs H Q E →
      ∃ t,PSs (cxH CX0 P w K mg base N qual (defScope st) f cdv A outer s H E).nox (defBody st) t∧t { nx:=fun _ H' => Q .non H',rt:=Q } (start N vs) H) : FnOkH P w K mg base CX0 (k+1) f fd ps sp:=by
  obtain ⟨oc,od,kV,doc,pm,an,cdv,ct,osl,rfl,lk,hcd⟩:=F.ex
  refine fn_ofH lk hcd S len fun A outer s H vs Q E hr hsp => ?_
  obtain ⟨t,h,q⟩:=hbody cdv A outer s H vs Q E hr hsp
  exact ⟨t,h.nox,q⟩
end
section
variable {X : Cx} {CX : CXT} {k : Nat} {f C : Addr} {fd : FuncData} {ps : List Str} {sp : Sp} {dvs : List V} {ds : List Value} {E : XK} {x m : Str} {p pos apos : Pos} {e o : Expr} {es : List Expr} {ta : TE} {t : TA}
theorem run_fnH {pins : List (Addr×Obj)} {σ : St} {H : Hp} {s : Shared} {Q : VK} {us : List Value} {vs : List V} (F : FnOkH X.prog X.w X.K X.mg X.base CX k f fd ps sp) (hr : RoomH k X.A) (hb : Binds X.K fd ps ds) (hd : Vals dvs ds) (hx : Passes CX X E)
    (I : Inv X pins σ H s) (r : Vals vs us) (h : sp (vs++dvs) H Q E) : wpAny (model X.prog X.w) X.A (call (.ref f) us) (EP X pins σ Q) X.xe s:=by
  have r2 : Vals (vs++dvs) (us++ds):=r.append hd
  have hl : (us++ds).length=ps.length:=by rw [← r2.length]; exact F.len _ _ _ _ h
  refine wpAny_call (codeAny_mono (F.run X.A X.stack s H ⟨us,[]⟩ (us++ds) (vs++dvs) Q E hr I.env0 (hb s us I.kIn hl) r2 h) fun r s' hq => ?_)
  cases r with
  | error e => exact hx pins σ H s e s' I hq
  | ok fl =>
    cases fl with
    | ret u => exact I.after hq
    | next => exact False.elim hq
    | brk => exact False.elim hq
    | cont => exact False.elim hq
theorem pe_callH (F : FnOkH X.prog X.w X.K X.mg X.base CX k f fd ps sp) (hr : RoomH k X.A) (hg : Gl X x) (hm : X.mg x=some (.ref f)) (hk : PySem.W.keepIn X.K (.ref f)=true) (hb : Binds X.K fd ps ds) (hd : Vals dvs ds) (hx : Passes CX X E)
    (ha : PA X (e :: es) t) (hdb : (x == ("__debug__" : Str)) = false := by decide) (he : starEach (e :: es) X.env = (false, eval e X.env) :: starEach es X.env := by rfl) (hpl : (backTo pos (starEach es X.env)).any (·.1) = false := by rfl) :
    PE X (.Call (.Name x p) (e :: es) [] pos) (tCall sp dvs E t):=by
  intro pins s σ H Q I h
  refine wpAny_Call_Name_kw (ld_glob I hg hm ?_ hdb)
  refine PySem.W.callWith_K (h₀:=X.base) I.ok.mod.kin hk (thn (ha pos pins s σ H _ I h) fun us s1 ⟨vs,H1,I1,r,q⟩ => ⟨I1.kIn,?_⟩) he hpl
  exact run_fnH F hr hb hd hx I1 r q
end
end L2
namespace L2
open PySem PySem.Spec PyProof.Rows
section
variable {X : Cx}
noncomputable def tDisp1k (K : PySem.W.Frag) (tk tv : TE) : TE:=fun σ H Q => ∀ p,H p=none→(∀ a o,K.lookup a=some o→upd H p (.dT []) a=none)→tPairs [(tk,tv)] σ (upd H p (.dT [])) fun ps H2 => ∃ b y ks,ps=[(.ref b,y)]∧H2 p=some (.dT [])∧H2 b=some (.tup (ks.map kV))∧Q (.ref p) (upd H2 p (.dT [(ks,y)]))
theorem pe_disp1k {k v : Expr} {pos : Pos} {tk tv : TE} (hu : X.A.units+1 < cLine) (hk : PE X k tk) (hv : PE X v tv) : PE X (.Dict [some k] [v] pos) (tDisp1k X.K tk tv):=by
  intro pins s σ H Q I q
  have hn:=I.hok.fresh (Nat.le_refl s.heap.objs.size)
  have I1 := I.laid (a := s.heap.objs.size) (o := .dT []) (h' := s.heap.push { cls := .type "dict", data := .dict #[] }) (t' := s.toks) (fun _ _ q => Heap.get?_push_of_some _ q) (Nat.le_refl _) (dt_empty s.heap I.big)
  have hall : ([some k] : List (Option Expr)).all (·.isSome)=true:=rfl
  have hshape:=zip_pairTrees [some k] [v] X.env pos hall rfl
  rw [arm_eval_Dict,hshape,dictDisplay_pairs (pairTrees [some k] [v] X.env pos) (by intro z; exact nomatch z) (by show 1 < 17; decide)]
  refine wpAny_bind (wpAny_standAt (wpAny_bind ?_))
  unfold subDict
  refine wpAny_bind (wpAny_alloc ?_)
  refine wpAny_bind (wpAny_holding ?_)
  rw [if_pos (by show 1≤15; decide)]
  refine wpAny_bind (thn (pps_cons hk hv pps_nil pins _ σ _ _ I1 (q _ hn fun a o e => (I1.bs a o (I1.ok.mod.kin a o e)).2)) fun ws s2 ⟨ps,H2,I2,rel,hD⟩ => ?_)
  obtain ⟨b,y,ks,rfl,hp,hb,q2⟩:=hD
  cases rel with
  | @cons _ w1 _ _ r1 r2 =>
    cases r2
    obtain ⟨kv,vv⟩:=w1
    obtain ⟨rk,rv⟩:=r1
    cases (show kv=Value.ref b from rk)
    refine wpAny_holding ?_
    obtain ⟨z,hd,xs,rel,dd⟩:=dt_of I2.hok hp
    cases rel
    show wpAny _ _ (forIn [(Value.ref b,vv)] PUnit.unit _ >>= _) _ _ _
    rw [List.forIn_cons]
    refine wpAny_bind (wpAny_bind (wpAny_bind (wpAny_dictSet_heap (hsz:=Nat.zero_le _) (show X.A.units < cLine by omega) (key_of I2.hok hb) dd fun h' dd' hs => wpAny_pure ?_)))
    refine wpAny_pure (a:=PUnit.unit) (wpAny_pure (wpAny_pure (wpAny_pure ?_)))
    obtain ⟨o,es,ep,hq,h2,h3,h4,_,h5⟩:=dd'
    refine ⟨.ref s.heap.objs.size,_,d_write (ob:=.dT [(ks,y)]) I2 (by rw [hp]; exact True.intro) hs ⟨o,hq⟩ ⟨?_,hd,_,((KT.put (k:=ks) (H:=H2) (kvs:=[]) .nil hb rv)).keeps fun c ys ec => ?_,o,es,ep,hq,h2,h3,h4,h5⟩,rfl,q2⟩
    · rw [sizeLine_eq,List.length_singleton]; decide
    · rw [upd_ne (ne_of ec hp (fun z => nomatch z))]
      exact ec
end
end L2
namespace Mi
open PySem L2 PySem.Spec
open PyProof.Rows (envOfC)
structure XP (X : Cx) (G : Gx) (F : Fy) (E : L2.St→XK) : Prop where
  ps : PassX X E
  xw : ∀ c s',F.xw (.exc c) s'→∀ ρ σv tv H C,F.tv0 <:+ tv→MR G F.toFx ρ H σv tv s'→G.cl c=some C→E σv (.ref C) none H
  no : ∀ d s',F.xw d s'→∃ c,d=.exc c
section
variable {X : Cx} {G : Gx} {F : Fy} {E : L2.St→XK} {C : Addr} {x y : Str} {np cpos pos p : Pos} {j : Nat}
end
open Classical in
noncomputable def callKX (r : RF) (ts : List D) : M D:=fun s => match r with
  | .ok t ts' n' => if ts'=ts then .ok t { s with n:=n' } else
      if ∀ l∈labsS s,l∈labsL ts→(findL l ts').isSome=true then .ok t { σ:=rpO (fun l => findL l ts') s.σ,tm:=rpO (fun l => findL l ts') s.tm,n:=n' } else .no
  | .ex d ts' n' => if ts'=ts then .ex d { s with n:=n' } else
      if ∀ l∈labsS s,l∈labsL ts→(findL l ts').isSome=true then .ex d { σ:=rpO (fun l => findL l ts') s.σ,tm:=rpO (fun l => findL l ts') s.tm,n:=n' } else .no
  | .no => .no
noncomputable def spX (G : Gx) (np : Nat) (f : FM) : Sp:=fun vs H Q E => vs.length=np∧∃ ρ n ts,RDs G ρ H ts vs∧(∀ i j,i < n→j < n→ρ i=ρ j→i=j)∧(∀ l,l < n→∃ o,H (ρ l)=some o)∧(∀ l∈labsL ts,l < n)∧KD G.K H∧match f ts n with
  | .ok t ts' n' => ∀ ρ' v H',CallP G ρ n ts vs H ρ' n' ts' H'→RD G ρ' H' t v→(∀ l∈labs t,l < n'∧(l < n→l∈labsL ts))→Q v H'
  | .ex d ts' n' => ∃ c,d=.exc c∧∀ ρ' H' C,CallP G ρ n ts vs H ρ' n' ts' H'→G.cl c=some C→E (.ref C) none H'
  | .no => False
section
variable {X : Cx} {G : Gx} {F : Fy} {E : L2.St→XK} {ρ : Nat→Addr} {H : Hp} {σv tv : List (Option V)} {s : Stt} {np : Nat}
end
noncomputable def lastN (k : Nat) (tm : List (Option D)) : List (Option D):=tm.drop (tm.length - k)
section
variable {X : Cx} {G : Gx} {F : Fy} {np hpos pos : Pos} {b₀ : Stmt} {suite body : List Stmt} {x n : Str} {ie : Nat} {CB : Addr} {mb mh : MS} {k : Str→Bool}
end
end Mi
namespace Mi
open PySem L2 PySem.Spec
inductive Al (Φ : Addr→Prop) : List (Str×Addr)→Prop
  | nil : Al Φ []
  | cons {c : Str} {a : Addr} {l : List (Str×Addr)} : Φ a→Al Φ l→Al Φ ((c,a) :: l)
inductive Al2 {β : Type} (Φ : Addr→β→Prop) : List (Str×Addr)→List (Str×β)→Prop
  | nil : Al2 Φ [] []
  | cons {c : Str} {a : Addr} {b : β} {l : List (Str×Addr)} {r : List (Str×β)} : Φ a b→Al2 Φ l r→Al2 Φ ((c,a) :: l) ((c,b) :: r)
  | skip {c : Str} {a : Addr} {l : List (Str×Addr)} {r : List (Str×β)} : r.lookup c=none→Al2 Φ l r→Al2 Φ ((c,a) :: l) r
section
variable {X : Cx} {G : Gx} {F : Fy} {E : L2.St→XK}
structure FnV (X : Cx) (G : Gx) (np : Nat) (a : Addr) (f : FM) : Prop where
  ex : ∃ k fd ps,ps.length=np∧FnOk X.prog X.w X.K X.mg X.base (CX1 X.prog X.w) k a fd ps (spX G np f)∧Room k X.A∧PySem.W.keepIn X.K (.ref a)=true∧Binds X.K fd ps []
end
end Mi
namespace Mi
open PySem L2 PySem.Spec
open PyProof.Rows (envOfC)
section
variable {G : Gx} {ρ ρ' : Nat→Addr} {H H' : Hp}
variable {F : Fy} {σv tv : List (Option V)} {s : Stt} {np : Nat}
end
section
variable {X : Cx} {G : Gx} {F : Fy}
end
end Mi
namespace Mi
open PySem L2 PySem.Spec
noncomputable def keyOf : D→Option Key
  | .int i => some (.inl i)
  | .str x => some (.inr x)
  | _ => none
noncomputable def keysOf : List D→Option (List Key)
  | [] => some []
  | d :: ds => match keyOf d with
    | some k => match keysOf ds with
      | some ks => some (k :: ks)
      | none => none
    | none => none
noncomputable def tkey : D→Option (List Key)
  | .tup ds => keysOf ds
  | _ => none
noncomputable def isT : List D→Bool
  | .non :: _ => false
  | _ => true
section
variable {G : Gx} {ρ : Nat→Addr} {H : Hp}
theorem keyOf_rd {d : D} {v : V} {k : Key} (h : RD G ρ H d v) (e : keyOf d=some k) : v=kV k∧d=keyD k:=by
  cases d <;> simp only [keyOf] at e <;> cases e <;> (simp only [RD] at h; exact ⟨h,rfl⟩)
theorem keysOf_rd : ∀ {ds : List D} {xs : List V} {ks : List Key},RDs G ρ H ds xs→keysOf ds=some ks→xs=ks.map kV∧ds=ks.map keyD
  | [],xs,ks,h,e => by simp only [RDs] at h; simp only [keysOf] at e; cases e; exact ⟨h,rfl⟩
  | d :: ds,xs,ks,h,e => by
    simp only [RDs] at h
    obtain ⟨x,r,rfl,h1,h2⟩:=h
    simp only [keysOf] at e
    cases e1 : keyOf d with
    | none => rw [e1] at e; cases e
    | some k =>
      rw [e1] at e
      cases e2 : keysOf ds with
      | none => simp only [e2] at e; cases e
      | some ks' =>
        simp only [e2] at e
        cases e
        obtain ⟨a1,a2⟩:=keyOf_rd h1 e1
        obtain ⟨b1,b2⟩:=keysOf_rd h2 e2
        rw [a1,b1,a2,b2]
        exact ⟨rfl,rfl⟩
theorem tkey_rd {t : D} {v : V} {k : List Key} (h : RD G ρ H t v) (e : tkey t=some k) : ∃ b,v=.ref b∧H b=some (.tup (k.map kV))∧t=dkD k:=by
  cases t <;> simp only [tkey] at e <;> try cases e
  simp only [RD] at h
  obtain ⟨a,xs,e1,s,r⟩:=h
  obtain ⟨b1,b2⟩:=keysOf_rd r e
  exact ⟨a,e1,b1 ▸ s,by rw [b2]; rfl⟩
theorem keysOf_map : ∀ k : List Key,keysOf (k.map keyD)=some k
  | [] => rfl
  | k :: ks => by
    simp only [List.map_cons,keysOf]
    have : keyOf (keyD k)=some k:=by cases k <;> rfl
    rw [this,keysOf_map ks]
theorem tkey_dk (k : List Key) : tkey (dkD k)=some k:=keysOf_map k
noncomputable def rdD : D→Option (List D×List D)
  | .dct _ ks vs => if isT ks=true then some (ks,vs) else none
  | .fdc ks vs => some (ks,vs)
  | _ => none
theorem RD.rdq {t : D} {ks vs : List D} {v : V} (h : RD G ρ H t v) (e : rdD t=some (ks,vs)) : ∃ a kvs,v=.ref a∧Rd H a (.dT kvs)∧ks=kvs.map (fun p : List Key×V => dkD p.1)∧RDs G ρ H vs (kvs.map (·.2))∧∀ l∈labsL vs,l∈labs t:=by
  cases t <;> simp only [rdD] at e <;> try cases e
  · rename_i l ks' vs'
    by_cases hT : isT ks'=true
    · rw [if_pos hT] at e; cases e
      simp only [RD] at h
      obtain ⟨e,⟨kvs,s,s2,r⟩ | ⟨kvs,s,s2,r⟩⟩:=h
      · rw [s2] at hT; cases hT
      · exact ⟨ρ l,kvs,e,.inl s,s2,r,fun j hj => by simp only [labs]; exact List.mem_cons_of_mem _ (List.mem_append_right _ hj)⟩
    · rw [if_neg hT] at e; cases e
  · simp only [RD] at h
    obtain ⟨a,o,kvs,e,s,s2,r⟩:=h
    exact ⟨a,kvs,e,.inr ⟨o,s⟩,s2,r,fun j hj => by simp only [labs]; exact hj⟩
theorem RD.dctq {l : Nat} {ks vs : List D} {v : V} (h : RD G ρ H (.dct l ks vs) v) (hn : isT ks=true) : v=.ref (ρ l)∧∃ kvs : List (List Key×V),H (ρ l)=some (.dT kvs)∧ks=kvs.map (fun p => dkD p.1)∧RDs G ρ H vs (kvs.map (·.2)):=by
  simp only [RD] at h
  obtain ⟨e,⟨kvs,s,s2,r⟩ | h⟩:=h
  · rw [s2] at hn; cases hn
  · exact ⟨e,h⟩
noncomputable def findK : List D→List D→List Key→Option D
  | d :: ks,v :: vs,k => if tkey d=some k then some v else findK ks vs k
  | _,_,_ => none
theorem findK_some {k : List Key} : ∀ (kvs : List (List Key×V)) (vs : List D) (t : D),RDs G ρ H vs (kvs.map (·.2))→findK (kvs.map fun p => dkD p.1) vs k=some t→∃ v,valV kvs k=some v∧RD G ρ H t v∧t∈vs
  | [],_,_,_,e => by simp only [List.map_nil,findK] at e; cases e
  | p :: kvs,[],_,_,e => by simp only [List.map_cons,findK] at e; cases e
  | p :: kvs,w :: vs,t,h,e => by
    simp only [List.map_cons,RDs] at h
    obtain ⟨x,r,e1,h1,h2⟩:=h
    cases e1
    simp only [List.map_cons,findK,tkey_dk,Option.some.injEq] at e
    by_cases hk : p.1=k
    · rw [if_pos hk] at e; cases e
      exact ⟨_,valV_pos hk,h1,List.mem_cons_self ..⟩
    · rw [if_neg hk] at e
      obtain ⟨v,a,b,c⟩:=findK_some kvs vs t h2 e
      exact ⟨v,by rw [valV_neg hk]; exact a,b,List.mem_cons_of_mem _ c⟩
theorem findK_none {k : List Key} : ∀ (kvs : List (List Key×V)) (vs : List D),RDs G ρ H vs (kvs.map (·.2))→findK (kvs.map fun p => dkD p.1) vs k=none→valV kvs k=none
  | [],_,_,_ => rfl
  | p :: kvs,[],h,_ => by simp only [List.map_cons,RDs] at h; cases h
  | p :: kvs,w :: vs,h,e => by
    simp only [List.map_cons,RDs] at h
    obtain ⟨x,r,e1,h1,h2⟩:=h
    cases e1
    simp only [List.map_cons,findK,tkey_dk,Option.some.injEq] at e
    by_cases hk : p.1=k
    · rw [if_pos hk] at e; cases e
    · rw [if_neg hk] at e
      rw [valV_neg hk]; exact findK_none kvs vs h2 e
noncomputable def putKs (ks : List D) (k : List Key) : List D:=if (ks.any fun d => decide (tkey d=some k))=true then ks else ks++[dkD k]
noncomputable def putVs (ks vs : List D) (k : List Key) (v : D) : List D:=if (ks.any fun d => decide (tkey d=some k))=true then List.zipWith (fun d w => if tkey d=some k then v else w) ks vs else vs++[v]
theorem any_dk {k : List Key} (kvs : List (List Key×V)) : ((kvs.map fun p => dkD p.1).any fun d => decide (tkey d=some k))=kvs.any fun kv => decide (kv.1=k):=by
  rw [List.any_map]
  congr 1
  funext p
  simp only [Function.comp,tkey_dk,Option.some.injEq]
theorem zip_put {k : List Key} {t : D} {v : V} (h : RD G ρ H t v) : ∀ (kvs : List (List Key×V)) (vs : List D),RDs G ρ H vs (kvs.map (·.2)) →
    RDs G ρ H (List.zipWith (fun d w => if tkey d=some k then t else w) (kvs.map fun p => dkD p.1) vs) ((kvs.map (fun kv => if kv.1=k then (kv.1,v) else kv)).map (·.2))
  | [],[],_ => by simp [RDs]
  | [],_ :: _,h => by simp only [List.map_nil,RDs] at h; obtain ⟨_,_,e,_⟩:=h; cases e
  | p :: kvs,[],h => by simp only [List.map_cons,RDs] at h; cases h
  | p :: kvs,w :: vs,h' => by
    simp only [List.map_cons,RDs] at h'
    obtain ⟨x,r,e1,h1,h2⟩:=h'
    cases e1
    simp only [List.map_cons,List.zipWith_cons_cons,RDs,tkey_dk,Option.some.injEq]
    by_cases hk : p.1=k
    · rw [if_pos hk,if_pos hk]; exact ⟨_,_,rfl,h,zip_put h kvs vs h2⟩
    · rw [if_neg hk,if_neg hk]; exact ⟨_,_,rfl,h1,zip_put h kvs vs h2⟩
theorem put_rd {k : List Key} {t : D} {v : V} {kvs : List (List Key×V)} {vs : List D} (h : RD G ρ H t v) (r : RDs G ρ H vs (kvs.map (·.2))) :
    putKs (kvs.map fun p => dkD p.1) k=(putK kvs k v).map (fun p => dkD p.1)∧RDs G ρ H (putVs (kvs.map fun p => dkD p.1) vs k t) ((putK kvs k v).map (·.2)):=by
  unfold putKs putVs putK
  rw [any_dk]
  cases e : kvs.any fun kv => decide (kv.1=k) with
  | true =>
    simp only [if_true]
    refine ⟨?_,zip_put h kvs vs r⟩
    rw [List.map_map]
    refine List.map_congr_left fun p _ => ?_
    simp only [Function.comp]
    split <;> rfl
  | false =>
    simp only [Bool.false_eq_true,if_false,List.map_append,List.map_cons,List.map_nil]
    exact ⟨trivial,r.append (RDs.one h)⟩
end
section
variable {X : Cx} {G : Gx} {F : Fy} {a b e : Expr} {ma mb : M D} {pos : Pos}
noncomputable def dgtD (o t : D) : M D:=match rdD o with
  | some (ks,vs) => match tkey t with
    | some k => (match findK ks vs k with | some d => rt d | none => fl)
    | none => fl
  | none => fl
theorem ok_dgt : OpOK G F (fun x y H Q => ∃ a v,x=.ref a∧DGet H a y (some v)∧Q v H) dgtD:=by
  intro ρ s t t' v u H σv tv Q M W
  obtain ⟨h1,h2⟩:=M.rd2
  obtain ⟨l1,l2⟩:=M.lb2
  unfold dgtD at W
  cases er : rdD t with
  | none => rw [er] at W; exact False.elim W
  | some p =>
    obtain ⟨ks,vs⟩:=p
    rw [er] at W
    dsimp only at W
    cases ek : tkey t' with
    | none => rw [ek] at W; exact False.elim W
    | some k =>
      rw [ek] at W
      dsimp only at W
      obtain ⟨a,kvs,rfl,hx,rfl,r,sub⟩:=h1.rdq er
      obtain ⟨b,rfl,hb,_⟩:=tkey_rd h2 ek
      cases ef : findK (kvs.map fun p => dkD p.1) vs k with
      | none => rw [ef] at W; exact False.elim W
      | some d =>
        rw [ef] at W
        obtain ⟨w,hv,hd,hm⟩:=findK_some kvs vs d r ef
        exact ⟨a,w,rfl,.inr ⟨kvs,k,b,hx,rfl,hb,hv.symm⟩,fun _ => W.out M.m hd fun j hj => l1 j (sub j (labsL_mem hm j hj))⟩
theorem se_dgt (hk : X.K=G.K) (hu : X.A.units+64 < cLine) (ha : SE X G F a ma) (hb : SE X G F b mb) (hs : PlainIx b) : SE X G F (.Subscript a b pos) (mBin ma mb dgtD) :=
  PE.imp hk (pe_dget (show X.A.units+1 < cLine by omega) ha hb hs) fun _ _ _ h => bin_imp ok_dgt h
noncomputable def dninD (t o : D) : M D:=match rdD o with
  | some (ks,vs) => match tkey t with
    | some k => rt (.bool (!(findK ks vs k).isSome))
    | none => fl
  | none => fl
theorem has_k {ρ : Nat→Addr} {H : Hp} {k : List Key} {kvs : List (List Key×V)} {vs : List D} (r : RDs G ρ H vs (kvs.map (·.2))) : (findK (kvs.map fun p => dkD p.1) vs k).isSome=(valV kvs k).isSome:=by
  cases ef : findK (kvs.map fun p => dkD p.1) vs k with
  | none => rw [findK_none kvs vs r ef]; rfl
  | some d => obtain ⟨w,hv,_⟩:=findK_some kvs vs d r ef; rw [hv]; rfl
theorem ok_dnin : CmpOK G F (fun y x H Q => ∃ a o,x=.ref a∧DGet H a y o∧Q (.bl (!o.isSome)) H) dninD:=by
  intro ρ s t t' v u H σv tv Q M W
  obtain ⟨h1,h2⟩:=M.rd2
  unfold dninD at W
  cases er : rdD t' with
  | none => rw [er] at W; exact False.elim W
  | some p =>
    obtain ⟨ks,vs⟩:=p
    rw [er] at W
    dsimp only at W
    cases ek : tkey t with
    | none => rw [ek] at W; exact False.elim W
    | some k =>
      rw [ek] at W
      dsimp only at W
      obtain ⟨a,kvs,rfl,hx,rfl,r,sub⟩:=h2.rdq er
      obtain ⟨b,rfl,hb,_⟩:=tkey_rd h1 ek
      refine ⟨a,_,rfl,.inr ⟨kvs,k,b,hx,rfl,hb,rfl⟩,?_⟩
      rw [← has_k r]
      exact W.flat M.m rfl
theorem op_dnin (hu : X.A.units+64 < cLine) : OpR X (compareOp .NotIn) (fun y x H Q => ∃ a o,x=.ref a∧DGet H a y o∧Q (.bl (!o.isSome)) H):=by
  intro pins s σ H y x iv u Q I ry rx h
  obtain ⟨a,o,rfl,g,q⟩:=h
  obtain rfl : u=Value.ref a:=rx
  exact d_notIn (show X.A.units+1 < cLine by omega) I g ry fun s3 I3 => ⟨.bl (!o.isSome),H,I3,rfl,q⟩
theorem cm_dnin (hu : X.A.units+64 < cLine) : Cm X G F .NotIn dninD:=⟨_,op_dnin hu,ok_dnin⟩
noncomputable def dnewM : M D:=fun s => .ok (.dct s.n [] []) s.nxt
theorem se_dnew (hk : X.K=G.K) : SE X G F (.Dict [] [] pos) dnewM :=
  PE.imp hk pe_dnewT fun σ H Q ⟨tv,hs,ρ,s,M,W⟩ p hp k => by
    refine wM.out (ρ:=ext ρ s.n p) W (M.new hp k) ?_ fun l hl => ?_
    · simp only [RD]
      rw [ext_new]
      exact ⟨rfl,.inr ⟨[],upd_same,rfl,by simp [RDs]⟩⟩
    · simp only [labs,labsL,List.append_nil,List.mem_singleton] at hl
      rw [hl]
      exact ⟨Nat.lt_succ_self _,by rw [ext_new]; exact .inr (M.fresh0 hp)⟩
noncomputable def dputD (o i v : D) : MS:=fun s => match o with
  | .dct l ks vs => match tkey i with
    | some k => if isT ks=true∧ks.length < sizeLine∧labs v=[]∧labsL vs=[] then .nx (s.put l (.dct l (putKs ks k) (putVs ks vs k v))) else .no
    | none => .no
  | _ => .no
theorem labs_key : ∀ k : List Key,labsL (k.map keyD)=[]
  | [] => rfl
  | k :: ks => by simp only [List.map_cons,labsL,labs_key ks]; cases k <;> rfl
theorem labs_dks : ∀ kvs : List (List Key×V),labsL (kvs.map fun p => dkD p.1)=[]
  | [] => rfl
  | p :: kvs => by
    have e : labs (dkD p.1)=[]:=labs_key p.1
    simp only [List.map_cons,labsL,e,labs_dks kvs]; rfl
theorem labsL_nil : ∀ {ds : List D},(∀ d∈ds,labs d=[])→labsL ds=[]
  | [],_ => rfl
  | d :: ds,h => by simp only [labsL,h d (List.mem_cons_self ..),labsL_nil fun x hx => h x (List.mem_cons_of_mem _ hx)]; rfl
theorem of_labsL_nil {ds : List D} (h : labsL ds=[]) : ∀ d∈ds,labs d=[]:=fun d hd => by
  cases e : labs d with
  | nil => rfl
  | cons l r => exact absurd (labsL_mem hd l (by rw [e]; exact List.mem_cons_self ..)) (by rw [h]; exact List.not_mem_nil)
theorem labs_put {ks vs : List D} {k : List Key} {v : D} (hv : labs v=[]) (h : labsL vs=[]) : labsL (putVs ks vs k v)=[]:=by
  have h':=of_labsL_nil h
  unfold putVs
  split
  · refine labsL_nil fun d hd => ?_
    obtain ⟨i,hi,e⟩:=List.getElem_of_mem hd
    rw [List.getElem_zipWith] at e
    subst e
    split
    · exact hv
    · exact h' _ (List.getElem_mem _)
  · refine labsL_nil fun d hd => ?_
    rcases List.mem_append.mp hd with q | q
    · exact h' d q
    · rw [List.mem_singleton.mp q]; exact hv
theorem ok_dput {ρ : Nat→Addr} {s : Stt} {t1 t2 t3 : D} {v o i : V} {H : Hp} {σv tv : List (Option V)} {Dd : Ends} (M : MRL G F.toFx ρ H σv tv s [t1,t2,t3] [v,o,i]) (W : wS G F tv (dputD t2 t3 t1 s) Dd) : ∃ a H4,o=.ref a∧DPut H a i v H4∧Dd.nx σv H4:=by
  have h:=M.rd
  simp only [RDs] at h
  obtain ⟨_,_,e,h1,_,_,e2,h2,_,_,e3,h3,_⟩:=h
  cases e; cases e2; cases e3
  have b2 : LB F.toFx ρ s.n (labs t2):=fun l h => M.lb l (by simp only [labsL]; exact List.mem_append_right _ (List.mem_append_left _ h))
  unfold dputD at W
  cases t2 with
  | dct l ks vs =>
    dsimp only at W
    cases ek : tkey t3 with
    | none => rw [ek] at W; exact False.elim W
    | some k =>
      rw [ek] at W
      dsimp only at W
      by_cases hc : isT ks=true∧ks.length < sizeLine∧labs t1=[]∧labsL vs=[]
      · rw [if_pos hc] at W
        obtain ⟨hT,hz,hv,hvs⟩:=hc
        obtain ⟨rfl,kvs,hx,rfl,r⟩:=h2.dctq hT
        obtain ⟨b,rfl,hb,_⟩:=tkey_rd h3 ek
        have bl:=b2 l (by simp only [labs]; exact List.mem_cons_self ..)
        have st : Stays H (upd H (ρ l) (.dT (putK kvs k v))) :=
          ⟨fun b ys q => by rw [upd_ne (ne_of q hx (by intro z; cases z))]; exact q,fun b o u q => by rw [upd_ne (ne_of q hx (by intro z; cases z))]; exact q⟩
        have pr:=put_rd (k:=k) h1 r
        refine ⟨ρ l,_,rfl,DPut.t hx hb (by simpa using hz),W ρ σv _ (M.m.put2 bl.1 bl.2 st (upd_kd M.m.kd hx) ?_ fun j hj => ?_)⟩
        · simp only [RD]
          refine ⟨trivial,.inr ⟨putK kvs k v,upd_same,pr.1,?_⟩⟩
          exact RDs.stay st _ _ pr.2 fun j hj => by rw [labs_put hv hvs] at hj; cases hj
        · simp only [labs,pr.1,labs_dks,labs_put hv hvs,List.append_nil,List.mem_singleton] at hj
          rw [hj]; exact bl
      · rw [if_neg hc] at W; exact False.elim W
  | _ => exact False.elim W
theorem ss_dput {ob ix : Expr} {pos tpos : Pos} {mo mi me : M D} (hu : X.A.units+64 < cLine) (he : SE X G F e me) (ho : SE X G F ob mo) (hi : SE X G F ix mi) (hs : swapsWith e (some (.Subscript ob ix tpos)) pos.line X.env=pure false:=by rfl) :
    SS X G F (.Assign [.Subscript ob ix tpos] e pos) (mTri me mo mi dputD):=by
  refine PS.imp0 (ps_dput (show X.A.units+1 < cLine by omega) ho hi he hs) fun Dd σ H ⟨tv,h⟩ => ?_
  exact (tri_imp h).mono fun v H1 h1 => h1.mono fun o H2 h2 => h2.mono fun i H3 ⟨ρ,s,t1,t2,t3,M,W⟩ => ok_dput M W
end
end Mi
namespace Mi
open PySem L2 PySem.Spec
noncomputable def dctAt (i : Nat) : List (Option D)→Option (Option D)
  | some (.fdc ks _) :: _ => some ks[i]?
  | _ => none
noncomputable def dctLen : List (Option D)→Nat
  | some (.fdc ks _) :: _ => ks.length
  | _ => 0
noncomputable def kDct : ItK:=⟨1,dctAt,dctLen⟩
noncomputable def mDctI (m : M D) : M ItK:=bd m fun d s => match d with
  | .dct l ks vs => if isT ks=true∧labsL vs=[] then .ok kDct ((s.put l (.fdc ks vs)).psh (.fdc ks vs)) else .no
  | _ => .no
noncomputable def Fy.frz (F : Fy) (a : Addr) (o : HO) (ha : F.A0 a∨F.H0 a=none) (hz : ¬ F.Z a) : Fy where
  A0:=fun x => F.A0 x∧x≠a
  H0:=upd F.H0 a o
  Z:=F.Z
  zA:=fun x z => by
    have hn : x≠a:=fun e => hz (e ▸ z)
    obtain ⟨⟨o',e⟩,n⟩:=F.zA x z
    exact ⟨⟨o',by rw [upd_ne hn]; exact e⟩,fun q => n q.1⟩
  aH:=fun x q => by
    obtain ⟨o',e⟩:=F.aH x q.1
    exact ⟨o',by rw [upd_ne q.2]; exact e⟩
  n0:=F.n0
  ρ0:=F.ρ0
  tv0:=F.tv0
  xw:=F.xw
section
variable {G : Gx} {F : Fy} {ρ : Nat→Addr} {H : Hp} {σv tv : List (Option V)} {s : Stt} {a : Addr} {o : HO} {ha : F.A0 a∨F.H0 a=none} {hz : ¬ F.Z a}
theorem sl_mut : ∀ {os : List (Option D)} {vs : List (Option V)},Sl G ρ H os vs→∀ l∈labsO os,∃ o,H (ρ l)=some o∧(∀ xs,o≠.tup xs)∧∀ u w,o≠.frz u w
  | [],_,_,l,hl => by simp only [labsO] at hl; cases hl
  | none :: os,_,h,l,hl => by
    simp only [Sl,labsO] at h hl
    obtain ⟨_,_,_,h⟩:=h
    exact sl_mut h l hl
  | some d :: os,_,h,l,hl => by
    simp only [Sl,labsO] at h hl
    obtain ⟨v,_,_,h1,h2⟩:=h
    rcases List.mem_append.mp hl with q | q
    · exact lab_mut d v h1 l q
    · exact sl_mut h2 l q
theorem MR.frzIn (M : MR G F.toFx ρ H σv tv s) (h : H a=some o) (hm : ∃ u w,o=.frz u w) : MR G (F.frz a o ha hz).toFx ρ H σv tv s:=by
  have ne : ∀ l∈labsS s,ρ l≠a:=fun l hl e => by
    obtain ⟨u,w,rfl⟩:=hm
    have : ∃ o,H (ρ l)=some o∧(∀ xs,o≠.tup xs)∧∀ u w,o≠.frz u w:=by
      rcases List.mem_append.mp hl with q | q
      · exact sl_mut M.sl l q
      · exact sl_mut M.tm l q
    obtain ⟨o',e1,_,e3⟩:=this
    rw [e,h] at e1
    cases e1
    exact e3 _ _ rfl
  refine ⟨M.sl,M.tm,M.inj,M.dom,M.lab,fun l hl => ?_,fun x o' e => ?_,M.kd,M.frb,M.bas⟩
  · rcases M.own l hl with q | q
    · exact .inl ⟨q,ne l hl⟩
    · exact .inr (by show upd F.H0 a o (ρ l)=none; rw [upd_ne (ne l hl)]; exact q)
  · have e : upd F.H0 a o x=some o':=e
    by_cases hx : x=a
    · subst hx
      rw [upd_same] at e
      cases e
      exact ⟨⟨o,h⟩,fun _ => h⟩
    · rw [upd_ne hx] at e
      obtain ⟨q1,q2⟩:=M.frm x o' e
      exact ⟨q1,fun n => q2 fun z => n ⟨z,hx⟩⟩
theorem MR.frzOut (M : MR G (F.frz a o ha hz).toFx ρ H σv tv s) : MR G F.toFx ρ H σv tv s:=by
  refine ⟨M.sl,M.tm,M.inj,M.dom,M.lab,fun l hl => ?_,fun x o' e => ?_,M.kd,M.frb,M.bas⟩
  · rcases M.own l hl with q | q
    · exact .inl q.1
    · have q : upd F.H0 a o (ρ l)=none:=q
      by_cases hx : ρ l=a
      · rw [hx,upd_same] at q; cases q
      · rw [upd_ne hx] at q; exact .inr q
  · by_cases hx : x=a
    · subst hx
      have q:=(M.frm x o upd_same).1
      refine ⟨q,fun n => ?_⟩
      rcases ha with z | z
      · exact absurd z n
      · rw [z] at e; cases e
    · obtain ⟨q1,q2⟩:=M.frm x o' (by show upd F.H0 a o x=some o'; rw [upd_ne hx]; exact e)
      exact ⟨q1,fun n => q2 fun z => n z.1⟩
theorem MRL.frzOut {ts : List D} {vs : List V} (M : MRL G (F.frz a o ha hz).toFx ρ H σv tv s ts vs) : MRL G F.toFx ρ H σv tv s ts vs:=by
  refine ⟨M.m.frzOut,M.rd,fun l hl => ?_⟩
  obtain ⟨q1,q⟩:=M.lb l hl
  refine ⟨q1,?_⟩
  rcases q with q | q
  · exact .inl q.1
  · have q : upd F.H0 a o (ρ l)=none:=q
    by_cases hx : ρ l=a
    · rw [hx,upd_same] at q; cases q
    · rw [upd_ne hx] at q; exact .inr q
theorem MR.frzAt' {A1 : Addr} {ys : List V} {hf : (F.frz a o ha hz).H0 A1=none} (M : MR G ((F.frz a o ha hz).prot A1 ys hf).toFx ρ H σv tv s) : H a=some o:=by
  have hne : a≠A1:=fun e => by
    have : upd F.H0 a o A1=none:=hf
    rw [e,upd_same] at this; cases this
  exact (M.frm a o (by show upd (upd F.H0 a o) A1 (.lst ys) a=some o; rw [upd_ne hne,upd_same])).2 fun z => z.2 rfl
theorem at_dct {u : Obj} {kvs : List (List Key×V)} {tvp : List (Option V)} {F' : Fx} (M : MR G F' ρ H σv (tvp++([some (.ref a)]++tv)) s) (h : H a=some (.frz u (.dT kvs))) (i : Nat) : match kDct.at' i (s.tm.drop tvp.length) with
  | none => True
  | some none => (ItD a u kvs).stop i H
  | some (some d) => (ItD a u kvs).go i H∧∀ x H',(ItD a u kvs).yld i H x H'→MRL G F' ρ H' σv (tvp++([some (.ref a)]++tv)) s [d] [x]:=by
  dsimp only [kDct]
  cases e : s.tm.drop tvp.length with
  | nil => trivial
  | cons c0 r =>
    cases c0 with
    | none => trivial
    | some c =>
      obtain ⟨hc,lb⟩:=MR.head (s:=s.popn tvp.length) M.popn e
      cases c with
      | fdc ks vs =>
        simp only [dctAt]
        simp only [RD] at hc
        obtain ⟨a',u',kvs',ea,hx,hk,_⟩:=hc
        cases ea
        rw [h] at hx
        cases hx
        subst hk
        cases e2 : (kvs.map fun p => dkD p.1)[i]? with
        | none =>
          refine ⟨?_,h⟩
          have:=List.getElem?_eq_none_iff.mp e2
          simpa using this
        | some d =>
          rw [List.getElem?_map] at e2
          cases e3 : kvs[i]? with
          | none => rw [e3] at e2; cases e2
          | some p =>
            rw [e3] at e2
            cases e2
            refine ⟨⟨(List.getElem?_eq_some_iff.mp e3).1,h⟩,?_⟩
            rintro x H' ⟨rfl,b,k,v,rfl,hk,hb⟩
            rw [hk] at e3
            cases e3
            refine ⟨M,RDs.one ?_,fun l hl => ?_⟩
            · show RD G ρ _ (dkD k) (.ref b)
              unfold dkD
              simp only [RD]
              refine ⟨b,k.map kV,rfl,hb,?_⟩
              clear hk hb
              induction k with
              | nil => simp [RDs]
              | cons x k ih =>
                simp only [List.map_cons,RDs]
                exact ⟨_,_,rfl,by cases x <;> simp only [keyD,RD,kV],ih⟩
            · have e : labsL [dkD k]=[]:=by simp only [labsL,List.append_nil]; exact labs_key k
              rw [e] at hl; cases hl
      | _ => trivial
end
section
variable {X : Cx} {G : Gx} {F : Fy} {tg iter elt : Expr} {pos : Pos}
theorem comp_impD {K : PySem.W.Frag} {k : Nat} {ix : List Nat} {m0 : M D} {g : Tg} {mt : M Bool} {me : M D} {σ : St} {H : Hp} {Q : VK} (hk : K=G.K) (h : tM G F (mComp (mDctI m0) g mt me k ix) σ H Q) : tComp2 K (iDict (tM G F m0)) (tGx G g) (tBx G mt) (tMx G me) k ix σ H Q:=by
  obtain ⟨tv,hsf,ρ,s,M,W⟩:=h
  refine ⟨tv,hsf,ρ,s,M,?_⟩
  unfold mComp mDctI bd at W
  cases em : m0 s with
  | ex d s1 => rw [em] at W; exact W
  | no => rw [em] at W; exact W
  | ok t s0 =>
    rw [em] at W
    dsimp only at W
    intro ρ1 v H1 M0
    cases t with
    | dct l ks vs =>
      dsimp only at W
      by_cases hc : isT ks=true∧labsL vs=[]
      · rw [if_pos hc] at W
        dsimp only at W
        obtain ⟨hT,hvs⟩:=hc
        have rd0:=M0.rd1
        obtain ⟨rfl,kvs,hx,hks,r⟩:=rd0.dctq hT
        have bl:=M0.lb1 l (by simp only [labs]; exact List.mem_cons_self ..)
        refine ⟨ρ1 l,kvs,rfl,hx,fun u A1 hA1 kd => ?_⟩
        have st : Stays H1 (upd H1 (ρ1 l) (.frz u (.dT kvs))) :=
          ⟨fun b ys q => by rw [upd_ne (ne_of q hx (by intro z; cases z))]; exact q,fun b o w q => by rw [upd_ne (ne_of q hx (by intro z; cases z))]; exact q⟩
        have rdF : RD G ρ1 (upd H1 (ρ1 l) (.frz u (.dT kvs))) (.fdc ks vs) (.ref (ρ1 l)):=by
          simp only [RD]
          exact ⟨ρ1 l,u,kvs,rfl,upd_same,hks,RDs.stay st _ _ r fun j hj => by rw [hvs] at hj; cases hj⟩
        have lbF : ∀ j∈labs (.fdc ks vs),j < s0.n∧(F.A0 (ρ1 j)∨F.H0 (ρ1 j)=none):=fun j hj => by simp only [labs,hvs] at hj; cases hj
        have M2 : MR G F.toFx ρ1 (upd H1 (ρ1 l) (.frz u (.dT kvs))) σ tv (s0.put l (.fdc ks vs)):=M0.m.put2 bl.1 bl.2 st (upd_kd M0.m.kd hx) rdF lbF
        have M3 : MR G F.toFx ρ1 (upd H1 (ρ1 l) (.frz u (.dT kvs))) σ (some (.ref (ρ1 l)) :: tv) ((s0.put l (.fdc ks vs)).psh (.fdc ks vs)) :=
          MRL.push ⟨M2,RDs.one rdF,fun j hj => by simp only [labsL,List.append_nil] at hj; exact lbF j hj⟩
        have M1 : MR G (F.frz (ρ1 l) (.frz u (.dT kvs)) bl.2 (M0.m.frb l bl.1)).toFx ρ1 (upd H1 (ρ1 l) (.frz u (.dT kvs))) σ ([some (.ref (ρ1 l))]++tv) ((s0.put l (.fdc ks vs)).psh (.fdc ks vs)):=M3.frzIn upd_same ⟨_,_,rfl⟩
        generalize hs1 : (s0.put l (.fdc ks vs)).psh (.fdc ks vs)=s1 at M1 W
        generalize hF1 : F.frz (ρ1 l) (.frz u (.dT kvs)) bl.2 (M0.m.frb l bl.1)=F1 at M1
        have out : ∀ {ρ H s ts vs},MRL G F1.toFx ρ H σ tv s ts vs→MRL G F.toFx ρ H σ tv s ts vs:=by subst hF1; exact fun h => h.frzOut
        subst hk
        have kd : KD G.K (upd (upd H1 (ρ1 l) (.frz u (.dT kvs))) A1 (.lst [])):=kd
        have hf:=M1.fresh0 hA1
        refine ⟨fun i m ys σ' H' => ∃ ρ s,MR G (F1.prot A1 ys hf).toFx ρ H' σ' ((ys.reverse.map some)++(σ++([some (.ref (ρ1 l))]++tv))) s∧wM G F σ tv (compGo kDct g mt me s1.σ.length m i ys.length s) Q,⟨_,ρ1,_,M1.enter hA1 kd k ix,W⟩,?_⟩
        rintro i m ys σ' H' ⟨ρ2,s2,M2',W2⟩
        have hD:=(MR.turnD (ys':=ys) M2').1
        refine ⟨hD,?_⟩
        have ol : s1.σ.length=σ.length:=M1.sl.length
        have hfz : H' (ρ1 l)=some (.frz u (.dT kvs)):=by subst hF1; exact MR.frzAt' M2'
        have ok:=at_dct (tvp:=(ys.reverse.map some)++σ) (a:=ρ1 l) (tv:=tv) (by rw [List.append_assoc]; exact M2') hfz i
        simp only [List.length_append,List.length_map,List.length_reverse,← ol,List.append_assoc] at ok
        unfold compGo at W2
        cases e : kDct.at' i (s2.tm.drop (ys.length+s1.σ.length)) with
        | none => simp only [e] at W2; exact False.elim W2
        | some o =>
          rw [e] at ok
          cases o with
          | none =>
            simp only [e] at W2 ok
            refine .inl ⟨ok,?_⟩
            cases ea : allSome (s2.tm.take ys.length).reverse with
            | none => simp only [ea] at W2; exact False.elim W2
            | some ds =>
              simp only [ea] at W2
              exact W2 _ _ _ (out (MR.leave M2' (kk:=kDct.k) rfl _ ol.symm ea))
          | some d =>
            simp only [e] at W2 ok
            cases m with
            | zero => exact False.elim W2
            | succ f =>
              dsimp only at W2
              cases e2 : asg g d s2.σ with
              | none => simp only [e2] at W2; exact False.elim W2
              | some σ3 =>
                simp only [e2] at W2
                refine .inr ⟨ok.1,fun x H2 y => ?_⟩
                have hx:=ok.2 x H2 y
                refine ⟨F1.prot A1 ys hf,_,ρ2,s2,d,hx,σ3,e2,fun σv' M3 => ⟨F1.prot A1 ys hf,_,List.nil_suffix,ρ2,_,M3,?_⟩⟩
                cases e3 : mt { s2 with σ:=σ3 } with
                | ex d s4 => simp only [e3] at W2; exact False.elim W2
                | no => simp only [e3] at W2; exact False.elim W2
                | ok b s4 =>
                  intro ρ4 H4 M4
                  cases b with
                  | false =>
                    simp only [e3] at W2
                    rw [if_neg Bool.false_ne_true]
                    exact ⟨f,Nat.lt_succ_self _,ρ4,s4,M4,W2⟩
                  | true =>
                    simp only [e3] at W2
                    rw [if_pos rfl]
                    by_cases hz : ys.length < sizeLine
                    · rw [if_pos hz] at W2
                      refine ⟨F1.prot A1 ys hf,_,List.nil_suffix,ρ4,s4,M4,?_⟩
                      cases e5 : me s4 with
                      | ex d s5 => simp only [e5] at W2; exact False.elim W2
                      | no => simp only [e5] at W2; exact False.elim W2
                      | ok y s5 =>
                        simp only [e5] at W2
                        intro ρ5 v H5 M5
                        obtain ⟨hD5,M6⟩:=MR.turnD (ys':=ys++[v]) M5.push
                        refine ⟨hD5,hz,f,Nat.lt_succ_self _,ρ5,s5.psh y,?_,?_⟩
                        · rw [List.reverse_append,List.reverse_cons,List.reverse_nil,List.nil_append,List.map_append]
                          exact M6
                        · rw [List.length_append]; exact W2
                    · rw [if_neg hz] at W2; exact False.elim W2
      · rw [if_neg hc] at W; exact False.elim W
    | _ => exact False.elim W
theorem se_compD {scope : Scope} {own frees : List Str} {ix : List Nat} {ifs : List Expr} {m0 : M D} {g : Tg} {mt : M Bool} {me : M D} (hk : X.K=G.K) (hc : X.calm=true) (S : CompScope X.env.scope scope own frees X.N ix) (hi : SE X G F iter m0)
    (hg : ∀ (F : Fy) cl C s₀ H₀ fp pn,SG (compCx X scope own frees cl C s₀ H₀ fp pn) G F tg g) (ht : ∀ (F : Fy) cl C s₀ H₀ fp pn,STs (compCx X scope own frees cl C s₀ H₀ fp pn) G F ifs mt) (he : ∀ (F : Fy) cl C s₀ H₀ fp pn,SE (compCx X scope own frees cl C s₀ H₀ fp pn) G F elt me)
    (hs : ∀ x,foldedSetIterable iter X.env x=pure x:=by intro _; rfl) : SE X G F (.ListComp elt [⟨tg,iter,ifs,0⟩] scope pos) (mComp (mDctI m0) g mt me own.length ix) :=
  PE.imp0 (pe_lcomp2 (g:=tGx G g) (tt:=tBx G mt) (te:=tMx G me) hc S (pi_dict hi) (fun cl C s₀ H₀ fp pn pins s σ H v u Q I r ⟨F',q⟩ => hg F' cl C s₀ H₀ fp pn pins s σ H v u Q I r q)
    (fun cl C s₀ H₀ fp pn pins s σ H Q I ⟨F',q⟩ => ht F' cl C s₀ H₀ fp pn pins s σ H Q I q) (fun cl C s₀ H₀ fp pn pins s σ H Q I ⟨F',q⟩ => he F' cl C s₀ H₀ fp pn pins s σ H Q I q) hs) fun σ H Q h => comp_impD hk h
end
end Mi
namespace Mi
open PySem L2 PySem.Spec
section
variable {X : Cx} {G : Gx} {F : Fy} {pos : Pos} {kx vx : Expr}
noncomputable def dp1 (d k v : D) : M D:=fun s => match d with
  | .dct l [] [] => match tkey k with
    | some ks => if labs v=[] then .ok (.dct l [dkD ks] [v]) (s.put l (.dct l [dkD ks] [v])) else .no
    | none => .no
  | _ => .no
noncomputable def mDisp1 (mk mv : M D) : M D:=fun s => match mk (s.nxt.psh (.dct s.n [] [])) with
  | .ok k s2 => (match mv (s2.psh k) with
    | .ok v s3 => (match s3.tm with
      | some k' :: some d' :: r => dp1 d' k' v { s3 with tm:=r }
      | _ => .no)
    | .ex d s' => .ex d s'
    | .no => .no)
  | .ex d s' => .ex d s'
  | .no => .no
theorem disp_imp {mk mv : M D} {σ : St} {H : Hp} {Q : VK} (h : tM G F (mDisp1 mk mv) σ H Q) : tDisp1k G.K (tM G F mk) (tM G F mv) σ H (fun v H' => KD G.K H'→Q v H'):=by
  obtain ⟨tv,hs,ρ,s,M,W⟩:=h
  intro p hp kd
  have rd : RD G (ext ρ s.n p) (upd H p (.dT [])) (.dct s.n [] []) (.ref p):=by
    simp only [RD]
    rw [ext_new]
    exact ⟨rfl,.inr ⟨[],upd_same,rfl,by simp [RDs]⟩⟩
  have M1 : MR G F.toFx (ext ρ s.n p) (upd H p (.dT [])) σ (some (.ref p) :: tv) (s.nxt.psh (.dct s.n [] [])):=MRL.push ⟨M.new hp kd,RDs.one rd,fun l hl => by
    simp only [labs,labsL,List.append_nil,List.mem_singleton] at hl
    rw [hl]
    exact ⟨Nat.lt_succ_self _,by rw [ext_new]; exact .inr (M.fresh0 hp)⟩⟩
  unfold mDisp1 at W
  show tM G F mk σ _ fun x H1 => tM G F mv σ H1 fun y H2 => _
  refine ⟨some (.ref p) :: tv,suf1 hs,_,_,M1,?_⟩
  cases e1 : mk (s.nxt.psh (.dct s.n [] [])) with
  | ex d s' => rw [e1] at W; exact W
  | no => rw [e1] at W; exact W
  | ok k s2 =>
    rw [e1] at W
    dsimp only at W
    intro ρ2 x H2 M2
    refine ⟨some x :: some (.ref p) :: tv,suf1 (suf1 hs),ρ2,s2.psh k,M2.push,?_⟩
    cases e2 : mv (s2.psh k) with
    | ex d s' => rw [e2] at W; exact W
    | no => rw [e2] at W; exact W
    | ok v s3 =>
      rw [e2] at W
      dsimp only at W
      intro ρ3 y H3 M3
      cases e3 : s3.tm with
      | nil => simp only [e3] at W; exact False.elim W
      | cons o3 r3 =>
        cases o3 with
        | none => simp only [e3] at W; exact False.elim W
        | some x3 =>
          simp only [e3] at W
          cases r3 with
          | nil => exact False.elim W
          | cons o4 r4 =>
            cases o4 with
            | none => exact False.elim W
            | some x4 =>
              dsimp only at W
              have M4:=M3.down e3
              have M5:=M4.down (s':={ s3 with tm:=some x4 :: r4 }) rfl
              show ∃ b y' ks,_
              have h:=M5.rd
              simp only [RDs] at h
              obtain ⟨_,_,ee,h1,_,_,ee2,h2,_,_,ee3,h3,_⟩:=h
              cases ee; cases ee2; cases ee3
              unfold dp1 at W
              cases x4 with
              | dct l ks vs =>
                cases ks with
                | cons _ _ => exact False.elim W
                | nil =>
                  cases vs with
                  | cons _ _ => exact False.elim W
                  | nil =>
                    dsimp only at W
                    cases ek : tkey x3 with
                    | none => rw [ek] at W; exact False.elim W
                    | some kk =>
                      rw [ek] at W
                      dsimp only at W
                      by_cases hv : labs v=[]
                      · rw [if_pos hv] at W
                        obtain ⟨ep,kvs,hx,hks,r⟩:=h1.dctq rfl
                        have e0 : kvs=[]:=by cases kvs with | nil => rfl | cons _ _ => simp at hks
                        subst e0
                        obtain ⟨b,rfl,hb,_⟩:=tkey_rd h2 ek
                        have ep : p=ρ3 l:=by cases ep; rfl
                        subst ep
                        refine ⟨b,_,kk,rfl,hx,hb,fun kd' => ?_⟩
                        have bl : l < s3.n∧(F.A0 (ρ3 l)∨F.H0 (ρ3 l)=none):=M5.lb l (by simp only [labsL,labs]; exact List.mem_append_left _ (List.mem_cons_self ..))
                        have st : Stays H3 (upd H3 (ρ3 l) (.dT [(kk,y)])) :=
                          ⟨fun b ys q => by rw [upd_ne (ne_of q hx (by intro z; cases z))]; exact q,fun b o u q => by rw [upd_ne (ne_of q hx (by intro z; cases z))]; exact q⟩
                        have rd2 : RD G ρ3 (upd H3 (ρ3 l) (.dT [(kk,y)])) (.dct l [dkD kk] [v]) (.ref (ρ3 l)):=by
                          simp only [RD]
                          refine ⟨trivial,.inr ⟨[(kk,y)],upd_same,rfl,?_⟩⟩
                          refine RDs.stay st _ _ (RDs.one h3) fun j hj => ?_
                          simp only [labsL,hv,List.append_nil] at hj; cases hj
                        have lb2 : ∀ j∈labs (.dct l [dkD kk] [v]),j < s3.n∧(F.A0 (ρ3 j)∨F.H0 (ρ3 j)=none):=fun j hj => by
                          have e : labs (dkD kk)=[]:=labs_key kk
                          simp only [labs,labsL,e,hv,List.append_nil,List.mem_singleton] at hj
                          rw [hj]; exact bl
                        exact W.out (M5.m.put2 bl.1 bl.2 st kd' rd2 lb2) rd2 lb2
                      · rw [if_neg hv] at W; exact False.elim W
              | _ => exact False.elim W
theorem se_disp1 {mk mv : M D} (hK : X.K=G.K) (hu : X.A.units+64 < cLine) (hk : SE X G F kx mk) (hv : SE X G F vx mv) : SE X G F (.Dict [some kx] [vx] pos) (mDisp1 mk mv) :=
  PE.imp hK (pe_disp1k (show X.A.units+1 < cLine by omega) hk hv) fun _ _ _ h => hK ▸ disp_imp h
end
end Mi
namespace My
open PySem L2 PySem.Spec PyProof.Rows Mi
@[irreducible] noncomputable def SE (X : Cx) (G : Gx) (F : Fy) (e : Expr) (m : M D) : Prop:=Mi.SE X G F e m
theorem eSE (X : Cx) (G : Gx) (F : Fy) (e : Expr) (m : M D) : SE X G F e m=Mi.SE X G F e m:=by unfold SE; rfl
@[irreducible] noncomputable def SA (X : Cx) (G : Gx) (F : Fy) (e : List Expr) (m : M (List D)) : Prop:=Mi.SA X G F e m
theorem eSA (X : Cx) (G : Gx) (F : Fy) (e : List Expr) (m : M (List D)) : SA X G F e m=Mi.SA X G F e m:=by unfold SA; rfl
@[irreducible] noncomputable def SB (X : Cx) (G : Gx) (F : Fy) (e : Expr) (m : M Bool) : Prop:=Mi.SB X G F e m
theorem eSB (X : Cx) (G : Gx) (F : Fy) (e : Expr) (m : M Bool) : SB X G F e m=Mi.SB X G F e m:=by unfold SB; rfl
@[irreducible] noncomputable def SW (X : Cx) (G : Gx) (F : Fy) (e : Expr) (m : M Bool) : Prop:=Mi.SW X G F e m
theorem eSW (X : Cx) (G : Gx) (F : Fy) (e : Expr) (m : M Bool) : SW X G F e m=Mi.SW X G F e m:=by unfold SW; rfl
@[irreducible] noncomputable def SS (X : Cx) (G : Gx) (F : Fy) (e : Stmt) (m : MS) : Prop:=Mi.SS X G F e m
theorem eSS (X : Cx) (G : Gx) (F : Fy) (e : Stmt) (m : MS) : SS X G F e m=Mi.SS X G F e m:=by unfold SS; rfl
@[irreducible] noncomputable def SSs (X : Cx) (G : Gx) (F : Fy) (e : List Stmt) (m : MS) : Prop:=Mi.SSs X G F e m
theorem eSSs (X : Cx) (G : Gx) (F : Fy) (e : List Stmt) (m : MS) : SSs X G F e m=Mi.SSs X G F e m:=by unfold SSs; rfl
@[irreducible] noncomputable def SG (X : Cx) (G : Gx) (F : Fy) (e : Expr) (m : Tg) : Prop:=Mi.SG X G F e m
theorem eSG (X : Cx) (G : Gx) (F : Fy) (e : Expr) (m : Tg) : SG X G F e m=Mi.SG X G F e m:=by unfold SG; rfl
@[irreducible] noncomputable def SGs (X : Cx) (G : Gx) (F : Fy) (e : List Expr) (m : List Tg) : Prop:=Mi.SGs X G F e m
theorem eSGs (X : Cx) (G : Gx) (F : Fy) (e : List Expr) (m : List Tg) : SGs X G F e m=Mi.SGs X G F e m:=by unfold SGs; rfl
@[irreducible] noncomputable def SI (X : Cx) (G : Gx) (F : Fy) (tg e : Expr) (m : M ItK) : Prop:=Mi.SI X G F tg e m
theorem eSI (X : Cx) (G : Gx) (F : Fy) (tg e : Expr) (m : M ItK) : SI X G F tg e m=Mi.SI X G F tg e m:=by unfold SI; rfl
@[irreducible] noncomputable def SO (X : Cx) (G : Gx) (F : Fy) (e : Option Expr) (m : Option (M D)) : Prop:=Mi.SO X G F e m
theorem eSO (X : Cx) (G : Gx) (F : Fy) (e : Option Expr) (m : Option (M D)) : SO X G F e m=Mi.SO X G F e m:=by unfold SO; rfl
@[irreducible] noncomputable def STs (X : Cx) (G : Gx) (F : Fy) (e : List Expr) (m : M Bool) : Prop:=Mi.STs X G F e m
theorem eSTs (X : Cx) (G : Gx) (F : Fy) (e : List Expr) (m : M Bool) : STs X G F e m=Mi.STs X G F e m:=by unfold STs; rfl
local macro_rules | `(tactic| walk_at "go") => `(tactic| (simp only [eSE, eSA, eSB, eSW, eSS, eSSs, eSG, eSGs, eSI, eSO, eSTs] at *))
set_option Elab.async false
set_option linter.all false
set_option maxRecDepth 100000
set_option maxHeartbeats 4000000
section
variable {G : Gx} {F : Fy} {ρ ρ' : Nat→Addr} {H H' : Hp} {σv tv : List (Option V)} {s : Stt} {t t' : D} {v u : V} {ts : List D} {vs : List V} {Q : VK}
end
section
variable {X : Cx} {G : Gx} {F : Fy} {e a b c : Expr} {pos : Pos}
theorem se_var (i : Nat) {x : Str} (hk : X.K=G.K) (h : PE X (.Name x pos) (tVar i)) : SE X G F (.Name x pos) (mVar i):=by
  walk_at "go"
  exact Mi.se_var i hk h
theorem se_c {d : D} {v : V} (hk : X.K=G.K) (h : PE X e (tC v)) (hd : cV d=some v:=by rfl) : SE X G F e (mC d):=by
  walk_at "go"
  exact Mi.se_c hk h hd
end
set_option Elab.async false
set_option linter.all false
set_option maxRecDepth 100000
set_option maxHeartbeats 4000000
section
end
section
end
section
variable {G : Gx} {F : Fy} {ρ : Nat→Addr} {H H' : Hp} {σv tv : List (Option V)} {s : Stt} {t t' : D} {v u : V} {ts ds : List D} {vs xs : List V} {Q : VK}
section
end
end
section
variable {G : Gx} {F : Fy}
end
set_option Elab.async false
set_option linter.all false
set_option maxRecDepth 100000
set_option maxHeartbeats 4000000
section
variable {X : Cx} {G : Gx} {F : Fy} {e a b c : Expr} {pos : Pos}
theorem so_none : SO X G F none none:=by
  walk_at "go"
  exact Mi.so_none
theorem so_some {m : M D} (h : SE X G F e m) : SO X G F (some e) (some m):=by
  walk_at "go"
  exact Mi.so_some h
theorem se_slice {lo hi : Option Expr} {p2 : Pos} {m : M D} {ml mh : Option (M D)} (hk : X.K=G.K) (he : SE X G F e m) (hl : SO X G F lo ml) (hh : SO X G F hi mh) : SE X G F (.Subscript e (.Slice lo hi none p2) pos) (mSl m ml mh):=by
  walk_at "go"
  exact Mi.se_slice hk he hl hh
theorem se_tup {es : List Expr} {ms : List (M D)} {x1} (hk : X.K=G.K) (h : SA X G F es (mArgs ms)) : SE X G F (.Tuple es x1 pos) (mCB ms tupD):=by
  walk_at "go"
  exact Mi.se_tup hk h
theorem se_lst {es : List Expr} {ms : List (M D)} (hk : X.K=G.K) (h : SA X G F es (mArgs ms)) : SE X G F (.List es pos) (mCB ms lstM):=by
  walk_at "go"
  exact Mi.se_lst hk h
theorem sb_truth {m : M D} (hk : X.K=G.K) (ha : SE X G F a m) (he : ∀ whole,isTrue a X.env whole=(do let v ← whole; standAt a.pos; holding [v] (truthy v)):=by intro _; rfl) : SB X G F a (mTest m):=by
  walk_at "go"
  exact Mi.sb_truth hk ha he
theorem SW.sb {m : M Bool} (h : SW X G F e m) : SB X G F e m:=by
  walk_at "go"
  exact Mi.SW.sb h
theorem sw_and1 {m : M Bool} (h : SB X G F a m) : SW X G F (.BoolOp .And [a] pos) m:=by
  walk_at "go"
  exact Mi.sw_and1 h
theorem sw_or1 {m : M Bool} (h : SB X G F a m) : SW X G F (.BoolOp .Or [a] pos) m:=by
  walk_at "go"
  exact Mi.sw_or1 h
theorem sw_and {rest : List Expr} {m m' : M Bool} (ha : SB X G F a m) (hb : SW X G F (.BoolOp .And (b :: rest) pos) m') : SW X G F (.BoolOp .And (a :: b :: rest) pos) (mAnd m m'):=by
  walk_at "go"
  exact Mi.sw_and ha hb
theorem sw_or {rest : List Expr} {m m' : M Bool} (ha : SB X G F a m) (hb : SW X G F (.BoolOp .Or (b :: rest) pos) m') : SW X G F (.BoolOp .Or (a :: b :: rest) pos) (mOr m m'):=by
  walk_at "go"
  exact Mi.sw_or ha hb
theorem sb_not {m : M Bool} (ha : SB X G F a m) : SB X G F (.UnaryOp .Not a pos) (mNot m):=by
  walk_at "go"
  exact Mi.sb_not ha
theorem se_one {op} {m : M D} (h : SE X G F a m) : SE X G F (.BoolOp op [a] pos) m:=by
  walk_at "go"
  exact Mi.se_one h
theorem se_and {rest : List Expr} {m m' : M D} (ha : SE X G F a m) (hb : SE X G F (.BoolOp .And (b :: rest) pos) m') : SE X G F (.BoolOp .And (a :: b :: rest) pos) (mAndV m m'):=by
  walk_at "go"
  exact Mi.se_and ha hb
theorem se_not {m : M D} (ha : SE X G F a m) : SE X G F (.UnaryOp .Not a pos) (mNotV m):=by
  walk_at "go"
  exact Mi.se_not ha
end
set_option Elab.async false
set_option linter.all false
set_option maxRecDepth 100000
set_option maxHeartbeats 4000000
section
variable {X : Cx} {G : Gx} {F : Fy} {e a b c : Expr} {pos : Pos}
theorem se_isi {p : Pos} {x y : Expr} {T : String} {m : M D} (hk : X.K = G.K) (hT : T = "int" ∨ T = "bool" ∨ T = "tuple" ∨ T = "list" ∨ T = "str") (hgl : Gl X "isinstance") (hm : X.mg "isinstance" = none) (ha : SE X G F x m) (hy : PE X y (tC (.ty T)))
    (he : starEach [x, y] X.env = (false, eval x X.env) :: starEach [y] X.env := by rfl) (he2 : starEach [y] X.env = (false, eval y X.env) :: starEach [] X.env := by rfl) (hpl : (backTo pos (starEach [y] X.env)).any (·.1) = false := by rfl) : SE X G F (.Call (.Name "isinstance" p) [x, y] [] pos) (mIsi T m) := by
  walk_at "go"
  exact Mi.se_isi hk hT hgl hm ha hy he he2 hpl
end
set_option Elab.async false
set_option linter.all false
set_option maxRecDepth 100000
set_option maxHeartbeats 4000000
section
end
section
variable {X : Cx} {G : Gx} {F : Fy} {e a b c : Expr} {st : Stmt} {sts rest : List Stmt} {pos : Pos}
theorem ss_nil : SSs X G F [] sNx:=by
  walk_at "go"
  exact Mi.ss_nil
theorem ss_cons {m m' : MS} (h1 : SS X G F st m) (h2 : SSs X G F rest m') : SSs X G F (st :: rest) (seqS m m'):=by
  walk_at "go"
  exact Mi.ss_cons h1 h2
theorem ss_one {m : MS} (h1 : SS X G F st m) : SSs X G F [st] m:=by
  walk_at "go"
  exact Mi.ss_one h1
theorem ss_expr {m : M D} (he : SE X G F e m) (hs : swapsWith e none pos.line X.env=pure false:=by rfl) : SS X G F (.Expr e pos) (sExpr m):=by
  walk_at "go"
  exact Mi.ss_expr he hs
theorem ss_ret {m : M D} (he : SE X G F e m) : SS X G F (.Return (some e) pos) (sRet m):=by
  walk_at "go"
  exact Mi.ss_ret he
theorem ss_if {x y : List Stmt} {mc : M Bool} {m m' : MS} (hc : SB X G F c mc) (ha : SSs X G F x m) (hb : SSs X G F y m') : SS X G F (.If c x y pos) (sIf mc m m'):=by
  walk_at "go"
  exact Mi.ss_if hc ha hb
theorem sg_name {i : Nat} {x : Str} {p : Pos} (h : PG X (.Name x p) (gName i)) : SG X G F (.Name x p) (.nm i):=by
  walk_at "go"
  exact Mi.sg_name h
theorem sgs_nil : SGs X G F [] []:=by
  walk_at "go"
  exact Mi.sgs_nil
theorem sgs_cons {es : List Expr} {g : Tg} {gs : List Tg} (h1 : SG X G F e g) (h2 : SGs X G F es gs) (hs : (assignEach (e :: es) X.env).map (·.2)=assign e X.env :: (assignEach es X.env).map (·.2):=by rfl) : SGs X G F (e :: es) (g :: gs):=by
  walk_at "go"
  exact Mi.sgs_cons h1 h2 hs
theorem sg_tup {es : List Expr} {k : Nat} {gs : List Tg} (hk : X.K=G.K) (hc : X.calm=true) (h : SGs X G F es gs) (hn : (assignEach es X.env).length=gs.length:=by rfl) (hst : (assignEach es X.env).findIdx? (·.1)=none:=by rfl) : SG X G F (.Tuple es k pos) (.tp gs):=by
  walk_at "go"
  exact Mi.sg_tup hk hc h hn hst
theorem ss_asg {tg : Expr} {g : Tg} {m : M D} (he : SE X G F e m) (hg : SG X G F tg g) (hs : swapsWithSole [tg] e pos.line X.env=pure false:=by rfl) (hw : swappedStores [tg] e X.env=pure none:=by rfl)
    (h1 : (assignEach [tg] X.env).map (·.2)=[assign tg X.env]:=by rfl) : SS X G F (.Assign [tg] e pos) (sAsg g m):=by
  walk_at "go"
  exact Mi.ss_asg he hg hs hw h1
theorem ss_set {i : Nat} {x : Str} {p : Pos} {m : M D} (h : ∀ {te : TE},PE X e te→PS X (.Assign [.Name x p] e pos) (tAsg te (gName i))) (he : SE X G F e m) : SS X G F (.Assign [.Name x p] e pos) (sAsg (.nm i) m):=by
  walk_at "go"
  exact Mi.ss_set h he
theorem ss_while {body : List Stmt} {mc : M Bool} {mb : MS} {fuel : Stt→Nat} (hp : PassesOwn (model X.prog X.w) X.A X.env X.xe) (hc : SB X G F c mc) (hb : SSs X G F body mb) : SS X G F (.While c body [] pos) (sWhile fuel mc mb):=by
  walk_at "go"
  exact Mi.ss_while hp hc hb
end
set_option Elab.async false
set_option linter.all false
set_option maxRecDepth 100000
set_option maxHeartbeats 4000000
section
variable {X : Cx} {G : Gx} {F : Fy} {e a b c tg iter : Expr} {pos : Pos}
theorem si_seq {m : M D} (hk : X.K=G.K) (h : SE X G F e m) : SI X G F tg e (mSeqI m):=by
  walk_at "go"
  exact Mi.si_seq hk h
theorem si_rng1 {p : Pos} {ms : List (M D)} (hg : Gl X "range") (hm : X.mg "range" = none) (ha : SA X G F [a] (mArgs ms)) (hs : starEach [a] X.env = [(false, eval a X.env)] := by rfl) : SI X G F tg (.Call (.Name "range" p) [a] [] pos) (mRng1 ms) := by
  walk_at "go"
  exact Mi.si_rng1 hg hm ha hs
theorem si_rng2 {p : Pos} {ms : List (M D)} (hg : Gl X "range") (hm : X.mg "range" = none) (ha : SA X G F [a, b] (mArgs ms)) (hs : starEach [a, b] X.env = [(false, eval a X.env), (false, eval b X.env)] := by rfl) (hs2 : starEach [b] X.env = [(false, eval b X.env)] := by rfl) : SI X G F tg (.Call (.Name "range" p) [a, b] [] pos) (mRng2 ms) := by
  walk_at "go"
  exact Mi.si_rng2 hg hm ha hs hs2
theorem ss_for {body : List Stmt} {mi : M ItK} {g : Tg} {mb : MS} (hp : PassesOwn (model X.prog X.w) X.A X.env X.xe) (hc : X.calm=true) (hi : SI X G F tg iter mi) (hg : SG X G F tg g) (hb : SSs X G F body mb) (hst : ∀ x,foldedSetIterable iter X.env x=pure x:=by intro _; rfl) : SS X G F (.For tg iter body [] pos) (sFor mi g mb):=by
  walk_at "go"
  exact Mi.ss_for hp hc hi hg hb hst
end
set_option Elab.async false
set_option linter.all false
set_option maxRecDepth 100000
set_option maxHeartbeats 4000000
section
variable {X : Cx} {G : Gx} {F : Fy} {e a b c tg iter elt : Expr} {pos : Pos}
theorem sts_nil : STs X G F [] (rt true):=by
  walk_at "go"
  exact Mi.sts_nil
theorem se_comp {scope : Scope} {own frees : List Str} {ix : List Nat} {ifs : List Expr} {mi : M ItK} {g : Tg} {mt : M Bool} {me : M D} (hk : X.K=G.K) (hc : X.calm=true) (S : CompScope X.env.scope scope own frees X.N ix) (hi : SI X G F tg iter mi)
    (hg : ∀ (F : Fy) cl C s₀ H₀ fp pn,SG (compCx X scope own frees cl C s₀ H₀ fp pn) G F tg g) (ht : ∀ (F : Fy) cl C s₀ H₀ fp pn,STs (compCx X scope own frees cl C s₀ H₀ fp pn) G F ifs mt) (he : ∀ (F : Fy) cl C s₀ H₀ fp pn,SE (compCx X scope own frees cl C s₀ H₀ fp pn) G F elt me)
    (hs : ∀ x,foldedSetIterable iter X.env x=pure x:=by intro _; rfl) : SE X G F (.ListComp elt [⟨tg,iter,ifs,0⟩] scope pos) (mComp mi g mt me own.length ix):=by
  walk_at "go"
  exact Mi.se_comp hk hc S hi hg ht he hs
theorem ss_comp {y : Str} {py spos : Pos} {i : Nat} {scope : Scope} {own frees : List Str} {ix : List Nat} {ifs : List Expr} {mi : M ItK} {g : Tg} {mt : M Bool} {me : M D} (hk : X.K=G.K) (hN : X.N.Nodup) (hy : X.N[i]?=some y) (hx : Loc X.env.scope y) (hfn : X.fn y=true∨X.env.scope.names.lookup y=some .local) (hsw : swapsWith (.ListComp elt [⟨tg,iter,ifs,0⟩] scope pos) (some (.Name y py)) spos.line X.env=pure true)
    (hc : X.calm=true) (S : CompScope X.env.scope scope own frees X.N ix) (hi : SI X G F tg iter mi)
    (hg : ∀ (F : Fy) cl C s₀ H₀ fp pn,SG (compCx X scope own frees cl C s₀ H₀ fp pn) G F tg g) (ht : ∀ (F : Fy) cl C s₀ H₀ fp pn,STs (compCx X scope own frees cl C s₀ H₀ fp pn) G F ifs mt) (he : ∀ (F : Fy) cl C s₀ H₀ fp pn,SE (compCx X scope own frees cl C s₀ H₀ fp pn) G F elt me)
    (hs : ∀ x,foldedSetIterable iter X.env x=pure x:=by intro _; rfl) : SS X G F (.Assign [.Name y py] (.ListComp elt [⟨tg,iter,ifs,0⟩] scope pos) spos) (sAsg (.nm i) (mComp mi g mt me own.length ix)):=by
  walk_at "go"
  exact Mi.ss_comp hk hN hy hx hfn hsw hc S hi hg ht he hs
end
set_option Elab.async false
set_option linter.all false
set_option maxRecDepth 100000
set_option maxHeartbeats 4000000
section
end
section
variable {G : Gx} {ρ : Nat→Addr} {H : Hp}
section
end
section
variable (k : KD G.K H) {n : Nat} (inj : ∀ i j,i < n→j < n→ρ i=ρ j→i=j)
include k inj
section
end
end
end
set_option Elab.async false
set_option linter.all false
set_option maxRecDepth 100000
set_option maxHeartbeats 4000000
section
variable {G : Gx} {ρ ρ' : Nat→Addr} {H H' : Hp}
section
end
section
end
section
variable (k : KD G.K H) {n : Nat} (inj : ∀ i j,i < n→j < n→ρ i=ρ j→i=j) {ts : List D} {vs : List V} (r : RDs G ρ H ts vs) (lb : ∀ l∈labsL ts,l < n)
include k inj r lb
section
end
end
variable {F : Fy} {σv tv : List (Option V)} {s : Stt} {np : Nat}
theorem se_call {X : Cx} {e : Expr} {es : List Expr} {pos p : Pos} {CX : CXT} {k : Nat} {fa : Addr} {fd : FuncData} {ps : List Str} {x : Str} {E : XK} {f : FM} {ms : List (M D)} (hk : X.K=G.K) (Fn : FnOk X.prog X.w X.K X.mg X.base CX k fa fd ps (spM G ps.length f)) (hr : Room k X.A) (hg : Gl X x) (hm : X.mg x=some (.ref fa)) (hkp : PySem.W.keepIn X.K (.ref fa)=true) (hb : Binds X.K fd ps []) (hx : Passes CX X E)
    (ha : SA X G F (e :: es) (mArgs ms)) (hln : ms.length = ps.length) (hdb : (x == ("__debug__" : Str)) = false := by decide) (he : starEach (e :: es) X.env = (false, eval e X.env) :: starEach es X.env := by rfl) (hpl : (backTo pos (starEach es X.env)).any (·.1) = false := by rfl) :
    SE X G F (.Call (.Name x p) (e :: es) [] pos) (mCall f ms):=by
  walk_at "go"
  exact Mi.se_call hk Fn hr hg hm hkp hb hx ha hln hdb he hpl
theorem fn_M {P : Program} {w : World} {K : PySem.W.Frag} {mg : Str→Option Value} {base : Heap} {x qual : Str} {st : Stmt} {fa : Addr} {fd : FuncData} {N ps : List Str} {k : Nat} {mb : MS} (Fn : Fun K x qual st fa fd) (S : FnScope N ps (defScope st)) (hG : G.K=K)
    (hb : ∀ (cdv : Value) (A : Around) (outer : List Env) (s : Shared) (H : Hp) (E : XK) (F : Fy),Room k (A.deeper (envOfC qual (defScope st) s.heap.objs.size fa cdv))→SSs (cxOf CX0 P w K mg base N qual (defScope st) fa cdv A outer s H E).nox G F (defBody st) mb) :
    FnOk P w K mg base CX0 (k+1) fa fd ps (spM G ps.length (runF N.length mb)):=by
  walk_at "go"
  exact Mi.fn_M Fn S hG hb
end
set_option Elab.async false
set_option linter.all false
set_option maxRecDepth 100000
set_option maxHeartbeats 4000000
section
end
section
end
section
variable {G : Gx} {F : Fy} {ρ : Nat→Addr} {H : Hp} {σv tv : List (Option V)} {s : Stt} {t : D} {ts ds es : List D} {v : V} {vs xs ys : List V} {l : Nat} {Q : VK}
end
section
variable {X : Cx} {G : Gx} {F : Fy} {e o : Expr} {es : List Expr} {apos cpos : Pos}
theorem ss_setI {ob ix : Expr} {pos tpos : Pos} {mo mi me : M D} (he : SE X G F e me) (ho : SE X G F ob mo) (hi : SE X G F ix mi) (hg : ∀ {to ti : TE},PE X ob to→PE X ix ti→PG X (.Subscript ob ix tpos) (gSub to ti rSetL)) (hs : swapsWithSole [.Subscript ob ix tpos] e pos.line X.env=pure false:=by rfl) (hw : swappedStores [.Subscript ob ix tpos] e X.env=pure none:=by rfl)
    (h1 : (assignEach [.Subscript ob ix tpos] X.env).map (·.2)=[assign (.Subscript ob ix tpos) X.env]:=by rfl) : SS X G F (.Assign [.Subscript ob ix tpos] e pos) (mTri me mo mi setD):=by
  walk_at "go"
  exact Mi.ss_setI he ho hi hg hs hw h1
end
set_option Elab.async false
set_option linter.all false
set_option maxRecDepth 100000
set_option maxHeartbeats 4000000
section
variable {X : Cx} {G : Gx} {F : Fy} {e a b c : Expr} {pos : Pos} {ma mb mc m : M D}
theorem se_add (hk : X.K=G.K) (ha : SE X G F a ma) (hb : SE X G F b mb) : SE X G F (.BinOp a .Add b pos) (mBin ma mb addD):=by
  walk_at "go"
  exact Mi.se_add hk ha hb
theorem se_mul (hk : X.K=G.K) (ha : SE X G F a ma) (hb : SE X G F b mb) : SE X G F (.BinOp a .Mult b pos) (mBin ma mb mulD):=by
  walk_at "go"
  exact Mi.se_mul hk ha hb
theorem se_fdiv (hk : X.K=G.K) (ha : SE X G F a ma) (hb : SE X G F b mb) : SE X G F (.BinOp a .FloorDiv b pos) (mBin ma mb fdivD):=by
  walk_at "go"
  exact Mi.se_fdiv hk ha hb
theorem se_mod (hk : X.K=G.K) (ha : SE X G F a ma) (hb : SE X G F b mb) : SE X G F (.BinOp a .Mod b pos) (mBin ma mb modD):=by
  walk_at "go"
  exact Mi.se_mod hk ha hb
theorem se_pow (hk : X.K=G.K) (ha : SE X G F a ma) (hb : SE X G F b mb) : SE X G F (.BinOp a .Pow b pos) (mBin ma mb powD):=by
  walk_at "go"
  exact Mi.se_pow hk ha hb
theorem se_cmp {op : CmpOp} {g : D→D→M D} (hc : Cm X G F op g) (ha : SE X G F a ma) (hb : SE X G F b mb) (hm : behindInMarks op b=false) : SE X G F (.Compare a [op] [b] pos) (mBin ma mb g):=by
  walk_at "go"
  exact Mi.se_cmp hc ha hb hm
theorem sb_cmp {op : CmpOp} {g : D→D→M D} (hc : Cm X G F op g) (ha : SE X G F a ma) (hb : SE X G F b mb) (hm : behindInMarks op b=false) : SB X G F (.Compare a [op] [b] pos) (mBoo (mBin ma mb g)):=by
  walk_at "go"
  exact Mi.sb_cmp hc ha hb hm
theorem se_idx (hk : X.K=G.K) (ha : SE X G F a ma) (hb : SE X G F b mb) (hs : PlainIx b) : SE X G F (.Subscript a b pos) (mBin ma mb ixD):=by
  walk_at "go"
  exact Mi.se_idx hk ha hb hs
theorem se_cb {x : Str} {p : Pos} {es : List Expr} {ms : List (M D)} {g : List D → M D} {id : String} (hk : X.K = G.K) (hc : Cb X G F (.builtin id) g) (hgl : Gl X x) (hm : X.mg x = none) (hv : bootBuiltins x = some (.builtin id)) (ha : SA X G F (e :: es) (mArgs ms)) (hn : x ≠ "__name__" := by decide) (hdb : (x == ("__debug__" : Str)) = false := by decide)
    (he : starEach (e :: es) X.env=(false,eval e X.env) :: starEach es X.env:=by rfl) (hpl : (backTo pos (starEach es X.env)).any (·.1)=false:=by rfl) : SE X G F (.Call (.Name x p) (e :: es) [] pos) (mCB ms g):=by
  walk_at "go"
  exact Mi.se_cb hk hc hgl hm hv ha hn hdb he hpl
theorem se_ct {x : Str} {p : Pos} {es : List Expr} {ms : List (M D)} {g : List D → M D} {T : String} (hk : X.K = G.K) (hc : Cb X G F (.type T) g) (hgl : Gl X x) (hm : X.mg x = none) (hv : bootBuiltins x = some (.type T)) (ha : SA X G F (e :: es) (mArgs ms)) (hn : x ≠ "__name__" := by decide) (hdb : (x == ("__debug__" : Str)) = false := by decide)
    (he : starEach (e :: es) X.env=(false,eval e X.env) :: starEach es X.env:=by rfl) (hpl : (backTo pos (starEach es X.env)).any (·.1)=false:=by rfl) : SE X G F (.Call (.Name x p) (e :: es) [] pos) (mCB ms g):=by
  walk_at "go"
  exact Mi.se_ct hk hc hgl hm hv ha hn hdb he hpl
end
set_option Elab.async false
set_option linter.all false
set_option maxRecDepth 100000
set_option maxHeartbeats 4000000
section
variable {X : Cx} {G : Gx} {F : Fy} {e a b c : Expr} {pos : Pos}
end
set_option Elab.async false
set_option linter.all false
set_option maxRecDepth 100000
set_option maxHeartbeats 4000000
section
variable {X : Cx} {G : Gx} {F : Fy} {e o : Expr} {es : List Expr} {apos cpos : Pos}
theorem se_cl {name : Str} {id : String} {mo : M D} {ms : List (M D)} {g : D → List D → M D} (hk : X.K = G.K) (slot : Slot "list" name id) (hty : typeOf (.builtin id) = pure (.type "method_descriptor")) (hm : Cl X G F id g) (ho : SE X G F o mo) (ha : SA X G F (e :: es) (mArgs ms))
    (hbase : attributeBase o name X.env (eval o X.env)=eval o X.env:=by rfl)
    (hfew : ((backTo cpos (starEach (e :: es) X.env)).all (fun x => !x.1) && (backToKw cpos (keywordEach [] X.env)).all (fun x => x.1.isSome)
      && decide ((e :: es).length+([] : List Keyword).length+(if ([] : List Keyword).isEmpty then 0 else 1) < 30))=true:=by rfl)
    (hline : (apos.endLine == cpos.line)=true:=by rfl) (hs : starEach (e :: es) X.env=(false,eval e X.env) :: starEach es X.env:=by rfl) (hplain : (backTo cpos (starEach es X.env)).any (·.1)=false:=by rfl) : SE X G F (.Call (.Attribute o name apos) (e :: es) [] cpos) (mMeth mo ms g):=by
  walk_at "go"
  exact Mi.se_cl hk slot hty hm ho ha hbase hfew hline hs hplain
end
set_option Elab.async false
set_option linter.all false
set_option maxRecDepth 100000
set_option maxHeartbeats 4000000
section
variable {X : Cx} {G : Gx} {F : Fy} {tg iter elt : Expr} {pos : Pos}
end
set_option Elab.async false
set_option linter.all false
set_option maxRecDepth 100000
set_option maxHeartbeats 4000000
section
variable {X : Cx} {G : Gx} {F : Fy} {a b tg : Expr} {pos : Pos}
end
set_option Elab.async false
set_option linter.all false
set_option maxRecDepth 100000
set_option maxHeartbeats 4000000
section
variable {X : Cx} {G : Gx} {F : Fy} {a b tg : Expr} {pos : Pos}
end
set_option Elab.async false
set_option linter.all false
set_option maxRecDepth 100000
set_option maxHeartbeats 4000000
section
variable {X : Cx} {G : Gx} {F : Fy} {a b tg : Expr} {pos : Pos}
section
end
end
set_option Elab.async false
set_option linter.all false
set_option maxRecDepth 100000
set_option maxHeartbeats 4000000
section
variable {X : Cx} {G : Gx} {F : Fy} {E : L2.St→XK} {C : Addr} {x y : Str} {np cpos pos p : Pos} {j : Nat}
end
section
variable {X : Cx} {G : Gx} {F : Fy} {E : L2.St→XK} {ρ : Nat→Addr} {H : Hp} {σv tv : List (Option V)} {s : Stt} {np : Nat}
end
section
variable {X : Cx} {G : Gx} {F : Fy} {np hpos pos : Pos} {b₀ : Stmt} {suite body : List Stmt} {x n : Str} {ie : Nat} {CB : Addr} {mb mh : MS} {k : Str→Bool}
end
set_option Elab.async false
set_option linter.all false
set_option maxRecDepth 100000
set_option maxHeartbeats 4000000
section
variable {X : Cx} {G : Gx} {F : Fy} {E : L2.St→XK}
end
set_option Elab.async false
set_option linter.all false
set_option maxRecDepth 100000
set_option maxHeartbeats 4000000
section
variable {G : Gx} {ρ ρ' : Nat→Addr} {H H' : Hp}
variable {F : Fy} {σv tv : List (Option V)} {s : Stt} {np : Nat}
end
section
variable {X : Cx} {G : Gx} {F : Fy}
end
set_option Elab.async false
set_option linter.all false
set_option maxRecDepth 100000
set_option maxHeartbeats 4000000
section
variable {G : Gx} {ρ : Nat→Addr} {H : Hp}
end
section
variable {X : Cx} {G : Gx} {F : Fy} {a b e : Expr} {ma mb : M D} {pos : Pos}
theorem se_dgt (hk : X.K=G.K) (hu : X.A.units+64 < cLine) (ha : SE X G F a ma) (hb : SE X G F b mb) (hs : PlainIx b) : SE X G F (.Subscript a b pos) (mBin ma mb dgtD):=by
  walk_at "go"
  exact Mi.se_dgt hk hu ha hb hs
theorem se_dnew (hk : X.K=G.K) : SE X G F (.Dict [] [] pos) dnewM:=by
  walk_at "go"
  exact Mi.se_dnew hk
theorem ss_dput {ob ix : Expr} {pos tpos : Pos} {mo mi me : M D} (hu : X.A.units+64 < cLine) (he : SE X G F e me) (ho : SE X G F ob mo) (hi : SE X G F ix mi) (hs : swapsWith e (some (.Subscript ob ix tpos)) pos.line X.env=pure false:=by rfl) :
    SS X G F (.Assign [.Subscript ob ix tpos] e pos) (mTri me mo mi dputD):=by
  walk_at "go"
  exact Mi.ss_dput hu he ho hi hs
end
set_option Elab.async false
set_option linter.all false
set_option maxRecDepth 100000
set_option maxHeartbeats 4000000
section
variable {G : Gx} {F : Fy} {ρ : Nat→Addr} {H : Hp} {σv tv : List (Option V)} {s : Stt} {a : Addr} {o : HO} {ha : F.A0 a∨F.H0 a=none} {hz : ¬ F.Z a}
end
section
variable {X : Cx} {G : Gx} {F : Fy} {tg iter elt : Expr} {pos : Pos}
theorem se_compD {scope : Scope} {own frees : List Str} {ix : List Nat} {ifs : List Expr} {m0 : M D} {g : Tg} {mt : M Bool} {me : M D} (hk : X.K=G.K) (hc : X.calm=true) (S : CompScope X.env.scope scope own frees X.N ix) (hi : SE X G F iter m0)
    (hg : ∀ (F : Fy) cl C s₀ H₀ fp pn,SG (compCx X scope own frees cl C s₀ H₀ fp pn) G F tg g) (ht : ∀ (F : Fy) cl C s₀ H₀ fp pn,STs (compCx X scope own frees cl C s₀ H₀ fp pn) G F ifs mt) (he : ∀ (F : Fy) cl C s₀ H₀ fp pn,SE (compCx X scope own frees cl C s₀ H₀ fp pn) G F elt me)
    (hs : ∀ x,foldedSetIterable iter X.env x=pure x:=by intro _; rfl) : SE X G F (.ListComp elt [⟨tg,iter,ifs,0⟩] scope pos) (mComp (mDctI m0) g mt me own.length ix):=by
  walk_at "go"
  exact Mi.se_compD hk hc S hi hg ht he hs
end
set_option Elab.async false
set_option linter.all false
set_option maxRecDepth 100000
set_option maxHeartbeats 4000000
section
variable {X : Cx} {G : Gx} {F : Fy} {pos : Pos} {kx vx : Expr}
theorem se_disp1 {mk mv : M D} (hK : X.K=G.K) (hu : X.A.units+64 < cLine) (hk : SE X G F kx mk) (hv : SE X G F vx mv) : SE X G F (.Dict [some kx] [vx] pos) (mDisp1 mk mv):=by
  walk_at "go"
  exact Mi.se_disp1 hK hu hk hv
end
inductive SEs (X : Cx) (G : Gx) (F : Fy) : List Expr→List (M D)→Prop
  | nil : SEs X G F [] []
  | cons {e : Expr} {m : M D} {es : List Expr} {ms : List (M D)} : SE X G F e m→nst e=true→SEs X G F es ms→SEs X G F (e :: es) (m :: ms)
theorem eSEs {X : Cx} {G : Gx} {F : Fy} {es : List Expr} {ms : List (M D)} (h : SEs X G F es ms) : Mi.SEs X G F es ms:=by
  induction h with
  | nil => exact .nil
  | cons h n _ ih => rw [eSE] at h; exact .cons h n ih
theorem sa_of {X : Cx} {G : Gx} {F : Fy} {es : List Expr} {ms : List (M D)} (hk : X.K=G.K) (h : SEs X G F es ms) : SA X G F es (mArgs ms):=by
  rw [eSA]; exact Mi.sa_of hk (eSEs h)
end My
namespace My
open PySem L2 Mi
noncomputable def top (i : Nat) : Stmt:=PySem.Challenge.pw_signbench_k03_whole_keys_pressed_one_by.main.body.getD i (.Pass ⟨0,0,0,0⟩)
noncomputable abbrev s_p_read_keys : Stmt:=top 1
noncomputable abbrev s_p_read_step : Stmt:=top 2
noncomputable abbrev s_p_longest_row : Stmt:=top 3
noncomputable abbrev s_p_press : Stmt:=top 4
noncomputable abbrev s_p_may_wait : Stmt:=top 5
noncomputable abbrev s_p_end_keys : Stmt:=top 6
noncomputable abbrev s_l_bag : Stmt:=top 8
noncomputable abbrev s_l_take : Stmt:=top 9
noncomputable abbrev s_l_table : Stmt:=top 10
noncomputable abbrev s_l_pressed : Stmt:=top 11
noncomputable abbrev s_l_step : Stmt:=top 12
noncomputable abbrev s_l_read : Stmt:=top 13
noncomputable abbrev s_l_starts : Stmt:=top 14
noncomputable abbrev s_l_press : Stmt:=top 15
noncomputable abbrev s_l_whole : Stmt:=top 16
noncomputable abbrev s_l_are_lists : Stmt:=top 17
noncomputable abbrev s_l_told : Stmt:=top 18
noncomputable abbrev s_law : Stmt:=top 19
theorem sc_p_read_keys : FnScope ["table", "keys", "sounds", "lost", "rest", "told", "gone"] ["table", "keys"] (defScope s_p_read_keys) := ⟨rfl, rfl, rfl, by decide +kernel, rfl, by decide +kernel, by decide +kernel⟩
theorem sc_p_read_step : FnScope ["table", "keys", "row"] ["table", "keys"] (defScope s_p_read_step) := ⟨rfl, rfl, rfl, by decide +kernel, rfl, by decide +kernel, by decide +kernel⟩
theorem sc_p_longest_row : FnScope ["table", "keys", "best", "row"] ["table", "keys"] (defScope s_p_longest_row) := ⟨rfl, rfl, rfl, by decide +kernel, rfl, by decide +kernel, by decide +kernel⟩
theorem sc_p_press : FnScope ["table", "waiting", "key", "sounds", "lost", "rest", "told", "gone"] ["table", "waiting", "key"] (defScope s_p_press) := ⟨rfl, rfl, rfl, by decide +kernel, rfl, by decide +kernel, by decide +kernel⟩
theorem sc_p_may_wait : FnScope ["table", "keys"] ["table", "keys"] (defScope s_p_may_wait) := ⟨rfl, rfl, rfl, by decide +kernel, rfl, by decide +kernel, by decide +kernel⟩
theorem sc_p_end_keys : FnScope ["table", "waiting"] ["table", "waiting"] (defScope s_p_end_keys) := ⟨rfl, rfl, rfl, by decide +kernel, rfl, by decide +kernel, by decide +kernel⟩
theorem sc_l_bag : FnScope ["_law_script", "_law_at", "_law_cell", "_law_mix", "_law_k"] ["_law_script", "_law_at"] (defScope s_l_bag) := ⟨rfl, rfl, rfl, by decide +kernel, rfl, by decide +kernel, by decide +kernel⟩
theorem sc_l_take : FnScope ["_law_bag_here", "_law_many", "_law_digit"] ["_law_bag_here", "_law_many"] (defScope s_l_take) := ⟨rfl, rfl, rfl, by decide +kernel, rfl, by decide +kernel, by decide +kernel⟩
theorem sc_l_table : FnScope ["_law_bag_here", "_law_wide", "_law_letters", "_law_first", "_law_top", "_law_found", "_law_k", "_law_turn", "_law_keys", "_law_sounds", "_law_left"] ["_law_bag_here"] (defScope s_l_table) := ⟨rfl, rfl, rfl, by decide +kernel, rfl, by decide +kernel, by decide +kernel⟩
theorem sc_l_pressed : FnScope ["_law_bag_here", "_law_table_here", "_law_most", "_law_some", "_law_keys", "_law_sounds", "_law_left", "_law_found", "_law_k", "_law_other"] ["_law_bag_here", "_law_table_here", "_law_most"] (defScope s_l_pressed) := ⟨rfl, rfl, rfl, by decide +kernel, rfl, by decide +kernel, by decide +kernel⟩
theorem sc_l_step : FnScope ["_law_table_here", "_law_keys", "_law_best", "_law_told_here", "_law_left", "_law_row"] ["_law_table_here", "_law_keys"] (defScope s_l_step) := ⟨rfl, rfl, rfl, by decide +kernel, rfl, by decide +kernel, by decide +kernel⟩
theorem sc_l_read : FnScope ["_law_table_here", "_law_keys", "_law_sounds", "_law_lost", "_law_left", "_law_more", "_law_gone"] ["_law_table_here", "_law_keys"] (defScope s_l_read) := ⟨rfl, rfl, rfl, by decide +kernel, rfl, by decide +kernel, by decide +kernel⟩
theorem sc_l_starts : FnScope ["_law_table_here", "_law_found", "_law_row", "_law_length"] ["_law_table_here"] (defScope s_l_starts) := ⟨rfl, rfl, rfl, by decide +kernel, rfl, by decide +kernel, by decide +kernel⟩
theorem sc_l_press : FnScope ["_law_table_here", "_law_starts_here", "_law_waiting", "_law_key", "_law_sounds", "_law_lost", "_law_left", "_law_more", "_law_gone"] ["_law_table_here", "_law_starts_here", "_law_waiting", "_law_key"] (defScope s_l_press) := ⟨rfl, rfl, rfl, by decide +kernel, rfl, by decide +kernel, by decide +kernel⟩
theorem sc_l_whole : FnScope ["_law_thing"] ["_law_thing"] (defScope s_l_whole) := ⟨rfl, rfl, rfl, by decide +kernel, rfl, by decide +kernel, by decide +kernel⟩
theorem sc_l_are_lists : FnScope ["_law_told_here", "_law_one", "_law_many"] ["_law_told_here"] (defScope s_l_are_lists) := ⟨rfl, rfl, rfl, by decide +kernel, rfl, by decide +kernel, by decide +kernel⟩
theorem sc_l_told : FnScope ["_law_table_here", "_law_starts_here", "_law_waiting", "_law_key", "_law_due", "_law_handed", "_law_turn", "_law_told_here"] ["_law_table_here", "_law_starts_here", "_law_waiting", "_law_key"] (defScope s_l_told) := ⟨rfl, rfl, rfl, by decide +kernel, rfl, by decide +kernel, by decide +kernel⟩
theorem sc_law : FnScope ["_law_script", "_law_k", "_law_bag_here", "_law_tables", "_law_rows", "_law_starts_here", "_law_waiting", "_law_sums", "_law_at", "_law_side", "_law_told_here", "_law_sounds", "_law_lost", "_law_both"] ["_law_script"] (defScope s_law) := ⟨rfl, rfl, rfl, by decide +kernel, rfl, by decide +kernel, by decide +kernel⟩
structure Dx (K : PySem.W.Frag) (mg : Str→Option Value) (x : Str) (st : Stmt) (ps : List Str) where
  f : Addr
  d : FuncData
  F : Fun K x x st f d
  b : Binds K d ps []
  m : mg x=some (.ref f)
set_option genInjectivity false in
set_option genSizeOf false in
set_option genSizeOfSpec false in
structure Wd (K : PySem.W.Frag) (mg : Str→Option Value) where
  x_p_read_keys : Dx K mg "read_keys" s_p_read_keys ["table", "keys"]
  x_p_read_step : Dx K mg "read_step" s_p_read_step ["table", "keys"]
  x_p_longest_row : Dx K mg "longest_row" s_p_longest_row ["table", "keys"]
  x_p_press : Dx K mg "press" s_p_press ["table", "waiting", "key"]
  x_p_may_wait : Dx K mg "may_wait" s_p_may_wait ["table", "keys"]
  x_p_end_keys : Dx K mg "end_keys" s_p_end_keys ["table", "waiting"]
  x_l_bag : Dx K mg "_law_bag" s_l_bag ["_law_script", "_law_at"]
  x_l_take : Dx K mg "_law_take" s_l_take ["_law_bag_here", "_law_many"]
  x_l_table : Dx K mg "_law_table" s_l_table ["_law_bag_here"]
  x_l_pressed : Dx K mg "_law_pressed" s_l_pressed ["_law_bag_here", "_law_table_here", "_law_most"]
  x_l_step : Dx K mg "_law_step" s_l_step ["_law_table_here", "_law_keys"]
  x_l_read : Dx K mg "_law_read" s_l_read ["_law_table_here", "_law_keys"]
  x_l_starts : Dx K mg "_law_starts" s_l_starts ["_law_table_here"]
  x_l_press : Dx K mg "_law_press" s_l_press ["_law_table_here", "_law_starts_here", "_law_waiting", "_law_key"]
  x_l_whole : Dx K mg "_law_whole" s_l_whole ["_law_thing"]
  x_l_are_lists : Dx K mg "_law_are_lists" s_l_are_lists ["_law_told_here"]
  x_l_told : Dx K mg "_law_told" s_l_told ["_law_table_here", "_law_starts_here", "_law_waiting", "_law_key"]
  x_law : Dx K mg "law" s_law ["_law_script"]
  n_abs : mg "abs" = none
  n_all : mg "all" = none
  n_any : mg "any" = none
  n_bool : mg "bool" = none
  n_int : mg "int" = none
  n_isinstance : mg "isinstance" = none
  n_len : mg "len" = none
  n_list : mg "list" = none
  n_max : mg "max" = none
  n_min : mg "min" = none
  n_range : mg "range" = none
  n_tuple : mg "tuple" = none
end My
namespace My
open PySem L2 Mi
section
variable {P : Program} {w : World} {K : PySem.W.Frag} {mg : Str→Option Value} {base : Heap}
noncomputable def m_p_longest_row : MS:=(seqS (sAsg (.nm 2) (mC .non))
    (seqS (sFor (mSeqI (mVar 0)) (.nm 3) (sIf (mAnd (mBoo (mBin (mSl (mVar 1) none (some (mCB [(mBin (mVar 3) (mC (.int 0)) ixD)] lenD))) (mBin (mVar 3) (mC (.int 0)) ixD) eqD)) (mOr (mBoo (mBin (mVar 2) (mC .non) isN)) (mBoo (mBin (mCB [(mBin (mVar 3) (mC (.int 0)) ixD)] lenD) (mCB [(mBin (mVar 2) (mC (.int 0)) ixD)] lenD) gtD)))) (sAsg (.nm 2) (mVar 3)) sNx))
    (sRet (mVar 2))))
noncomputable def f_p_longest_row : FM:=runF 4 m_p_longest_row
theorem ok_p_longest_row (T : Wd K mg) : FnOk P w K mg base CX0 1 T.x_p_longest_row.f T.x_p_longest_row.d ["table", "keys"] (spM (G0 K) 2 f_p_longest_row) := by
  have h : FnOk P w K mg base CX0 (1) T.x_p_longest_row.f T.x_p_longest_row.d ["table", "keys"] (spM (G0 K) (List.length (["table", "keys"] : List Str)) (runF (List.length (["table", "keys", "best", "row"] : List Str)) m_p_longest_row)) := fn_M T.x_p_longest_row.F sc_p_longest_row rfl fun cdv A outer s H E F hr => by
    have h64:=hr.units
    exact (ss_cons (ss_set (fun {te} h => ps_set (i:=2) sc_p_longest_row.nd rfl (Or.inl rfl) h) (se_c rfl pe_non))
    (ss_cons (ss_for PassesOwn.never rfl (si_seq rfl (se_var 0 rfl (pv 0))) (sg_name (pg_name (i:=3) sc_p_longest_row.nd rfl (Or.inl rfl))) (ss_one (ss_if (SW.sb (sw_and (sb_cmp (cm_eq rfl h64) (se_slice rfl (se_var 1 rfl (pv 1)) so_none (so_some (se_cb rfl (cb_len rfl) rfl T.n_len PyProof.Rows.Boot.«len» (sa_of rfl (.cons (se_idx rfl (se_var 3 rfl (pv 3)) (se_c rfl pe_int) (fun _ _ => rfl)) rfl .nil))))) (se_idx rfl (se_var 3 rfl (pv 3)) (se_c rfl pe_int) (fun _ _ => rfl)) (nomark _)) (sw_and1 (SW.sb (sw_or (sb_cmp cm_isN (se_var 2 rfl (pv 2)) (se_c rfl pe_non) (nomark _)) (sw_or1 (sb_cmp cm_gt (se_cb rfl (cb_len rfl) rfl T.n_len PyProof.Rows.Boot.«len» (sa_of rfl (.cons (se_idx rfl (se_var 3 rfl (pv 3)) (se_c rfl pe_int) (fun _ _ => rfl)) rfl .nil))) (se_cb rfl (cb_len rfl) rfl T.n_len PyProof.Rows.Boot.«len» (sa_of rfl (.cons (se_idx rfl (se_var 2 rfl (pv 2)) (se_c rfl pe_int) (fun _ _ => rfl)) rfl .nil))) (nomark _)))))))) (ss_one (ss_set (fun {te} h => ps_set (i:=2) sc_p_longest_row.nd rfl (Or.inl rfl) h) (se_var 3 rfl (pv 3)))) ss_nil)))
    (ss_one (ss_ret (se_var 2 rfl (pv 2))))))
  exact h
end
end My
namespace My
open PySem L2 Mi
section
variable {P : Program} {w : World} {K : PySem.W.Frag} {mg : Str→Option Value} {base : Heap}
noncomputable def m_p_read_step : MS:=(seqS (sAsg (.nm 2) (mCall f_p_longest_row [(mVar 0),(mVar 1)]))
    (seqS (sIf (mBoo (mBin (mVar 2) (mC .non) isN)) (sRet (mCB [(mCB [] tupD),(mSl (mVar 1) none (some (mC (.int 1)))),(mSl (mVar 1) (some (mC (.int 1))) none)] tupD)) sNx)
    (sRet (mCB [(mBin (mVar 2) (mC (.int 1)) ixD),(mCB [] tupD),(mBin (mBin (mVar 2) (mC (.int 2)) ixD) (mSl (mVar 1) (some (mCB [(mBin (mVar 2) (mC (.int 0)) ixD)] lenD)) none) addD)] tupD))))
noncomputable def f_p_read_step : FM:=runF 3 m_p_read_step
theorem ok_p_read_step (T : Wd K mg) : FnOk P w K mg base CX0 2 T.x_p_read_step.f T.x_p_read_step.d ["table", "keys"] (spM (G0 K) 2 f_p_read_step) := by
  have h : FnOk P w K mg base CX0 (2) T.x_p_read_step.f T.x_p_read_step.d ["table", "keys"] (spM (G0 K) (List.length (["table", "keys"] : List Str)) (runF (List.length (["table", "keys", "row"] : List Str)) m_p_read_step)) := fn_M T.x_p_read_step.F sc_p_read_step rfl fun cdv A outer s H E F hr => by
    have h64:=hr.units
    exact (ss_cons (ss_set (fun {te} h => ps_set (i:=2) sc_p_read_step.nd rfl (Or.inl rfl) h) (se_call rfl ((ok_p_longest_row T).mono (by omega)) hr rfl T.x_p_longest_row.m T.x_p_longest_row.F.kp T.x_p_longest_row.b pass0 (sa_of rfl (.cons (se_var 0 rfl (pv 0)) rfl (.cons (se_var 1 rfl (pv 1)) rfl .nil))) rfl))
    (ss_cons (ss_if (sb_cmp cm_isN (se_var 2 rfl (pv 2)) (se_c rfl pe_non) (nomark _)) (ss_one (ss_ret (se_tup rfl (sa_of rfl (.cons (se_tup rfl (sa_of rfl .nil)) rfl (.cons (se_slice rfl (se_var 1 rfl (pv 1)) so_none (so_some (se_c rfl pe_int))) rfl (.cons (se_slice rfl (se_var 1 rfl (pv 1)) (so_some (se_c rfl pe_int)) so_none) rfl .nil))))))) ss_nil)
    (ss_one (ss_ret (se_tup rfl (sa_of rfl (.cons (se_idx rfl (se_var 2 rfl (pv 2)) (se_c rfl pe_int) (fun _ _ => rfl)) rfl (.cons (se_tup rfl (sa_of rfl .nil)) rfl (.cons (se_add rfl (se_idx rfl (se_var 2 rfl (pv 2)) (se_c rfl pe_int) (fun _ _ => rfl)) (se_slice rfl (se_var 1 rfl (pv 1)) (so_some (se_cb rfl (cb_len rfl) rfl T.n_len PyProof.Rows.Boot.«len» (sa_of rfl (.cons (se_idx rfl (se_var 2 rfl (pv 2)) (se_c rfl pe_int) (fun _ _ => rfl)) rfl .nil)))) so_none)) rfl .nil)))))))))
  exact h
end
end My
namespace My
open PySem L2 Mi
section
variable {P : Program} {w : World} {K : PySem.W.Frag} {mg : Str→Option Value} {base : Heap}
noncomputable def m_p_read_keys : MS:=(seqS (sAsg (.nm 2) (mCB [] lstM))
    (seqS (sAsg (.nm 3) (mCB [] lstM))
    (seqS (sAsg (.nm 4) (mCB [(mVar 1)] tupF))
    (seqS (sWhile (fun _ => 1000) (mTest (mVar 4)) (seqS (sAsg (.tp [(.nm 5),(.nm 6),(.nm 4)]) (mCall f_p_read_step [(mVar 0),(mVar 4)]))
    (seqS (sExpr (mMeth (mVar 2) [(mVar 5)] extD))
    (sExpr (mMeth (mVar 3) [(mVar 6)] extD)))))
    (sRet (mCB [(mVar 2),(mVar 3)] tupD))))))
noncomputable def f_p_read_keys : FM:=runF 7 m_p_read_keys
theorem ok_p_read_keys (T : Wd K mg) : FnOk P w K mg base CX0 3 T.x_p_read_keys.f T.x_p_read_keys.d ["table", "keys"] (spM (G0 K) 2 f_p_read_keys) := by
  have h : FnOk P w K mg base CX0 (3) T.x_p_read_keys.f T.x_p_read_keys.d ["table", "keys"] (spM (G0 K) (List.length (["table", "keys"] : List Str)) (runF (List.length (["table", "keys", "sounds", "lost", "rest", "told", "gone"] : List Str)) m_p_read_keys)) := fn_M T.x_p_read_keys.F sc_p_read_keys rfl fun cdv A outer s H E F hr => by
    have h64:=hr.units
    exact (ss_cons (ss_set (fun {te} h => ps_set (i:=2) sc_p_read_keys.nd rfl (Or.inl rfl) h) (se_lst rfl (sa_of rfl .nil)))
    (ss_cons (ss_set (fun {te} h => ps_set (i:=3) sc_p_read_keys.nd rfl (Or.inl rfl) h) (se_lst rfl (sa_of rfl .nil)))
    (ss_cons (ss_set (fun {te} h => ps_set (i:=4) sc_p_read_keys.nd rfl (Or.inl rfl) h) (se_ct rfl (cb_tuple rfl) rfl T.n_tuple PyProof.Rows.Boot.«tuple» (sa_of rfl (.cons (se_var 1 rfl (pv 1)) rfl .nil))))
    (ss_cons (ss_while PassesOwn.never (sb_truth rfl (se_var 4 rfl (pv 4))) (ss_cons (ss_asg (se_call rfl ((ok_p_read_step T).mono (by omega)) hr rfl T.x_p_read_step.m T.x_p_read_step.F.kp T.x_p_read_step.b pass0 (sa_of rfl (.cons (se_var 0 rfl (pv 0)) rfl (.cons (se_var 4 rfl (pv 4)) rfl .nil))) rfl) (sg_tup rfl rfl (sgs_cons (sg_name (pg_name (i:=5) sc_p_read_keys.nd rfl (Or.inl rfl))) (sgs_cons (sg_name (pg_name (i:=6) sc_p_read_keys.nd rfl (Or.inl rfl))) (sgs_cons (sg_name (pg_name (i:=4) sc_p_read_keys.nd rfl (Or.inl rfl))) sgs_nil)))))
    (ss_cons (ss_expr (se_cl rfl PySem.F.slot_list_extend PySem.F.type_list_extend (cl_extend rfl) (se_var 2 rfl (pv 2)) (sa_of rfl (.cons (se_var 5 rfl (pv 5)) rfl .nil))))
    (ss_one (ss_expr (se_cl rfl PySem.F.slot_list_extend PySem.F.type_list_extend (cl_extend rfl) (se_var 3 rfl (pv 3)) (sa_of rfl (.cons (se_var 6 rfl (pv 6)) rfl .nil))))))))
    (ss_one (ss_ret (se_tup rfl (sa_of rfl (.cons (se_var 2 rfl (pv 2)) rfl (.cons (se_var 3 rfl (pv 3)) rfl .nil))))))))))
  exact h
end
end My
namespace My
open PySem L2 Mi
section
variable {P : Program} {w : World} {K : PySem.W.Frag} {mg : Str→Option Value} {base : Heap}
noncomputable def m_p_may_wait : MS:=(sRet (mCB [(mComp (mSeqI (mVar 0)) (.nm 0) (rt true) (mAndV (mBin (mCB [(mVar 1)] lenD) (mCB [(mBin (mVar 0) (mC (.int 0)) ixD)] lenD) ltD) (mBin (mSl (mBin (mVar 0) (mC (.int 0)) ixD) none (some (mCB [(mVar 1)] lenD))) (mVar 1) eqD)) 1 [1])] anyD))
noncomputable def f_p_may_wait : FM:=runF 2 m_p_may_wait
theorem ok_p_may_wait (T : Wd K mg) : FnOk P w K mg base CX0 1 T.x_p_may_wait.f T.x_p_may_wait.d ["table", "keys"] (spM (G0 K) 2 f_p_may_wait) := by
  have h : FnOk P w K mg base CX0 (1) T.x_p_may_wait.f T.x_p_may_wait.d ["table", "keys"] (spM (G0 K) (List.length (["table", "keys"] : List Str)) (runF (List.length (["table", "keys"] : List Str)) m_p_may_wait)) := fn_M T.x_p_may_wait.F sc_p_may_wait rfl fun cdv A outer s H E F hr => by
    have h64:=hr.units
    exact (ss_one (ss_ret (se_cb rfl (cb_any rfl hr.hd) rfl T.n_any PyProof.Rows.Boot.«any» (sa_of rfl (.cons (se_comp (own := ["row"]) (frees := ["keys"]) (ix := [1]) rfl rfl (compOk.sc (by kernel_rfl)) (si_seq rfl (se_var 0 rfl (pv 0))) (fun _ _ _ _ _ _ _ => (sg_name (pg_name (i := 0) (show List.Nodup (["row", "keys"] : List Str) by decide +kernel) rfl (Or.inl rfl)))) (fun _ _ _ _ _ _ _ => sts_nil) (fun _ _ _ _ _ _ _ => (se_and (se_cmp cm_lt (se_cb rfl (cb_len rfl) rfl T.n_len PyProof.Rows.Boot.«len» (sa_of rfl (.cons (se_var 1 rfl (pv 1)) rfl .nil))) (se_cb rfl (cb_len rfl) rfl T.n_len PyProof.Rows.Boot.«len» (sa_of rfl (.cons (se_idx rfl (se_var 0 rfl (pv 0)) (se_c rfl pe_int) (fun _ _ => rfl)) rfl .nil))) (nomark _)) (se_one (se_cmp (cm_eq rfl h64) (se_slice rfl (se_idx rfl (se_var 0 rfl (pv 0)) (se_c rfl pe_int) (fun _ _ => rfl)) so_none (so_some (se_cb rfl (cb_len rfl) rfl T.n_len PyProof.Rows.Boot.«len» (sa_of rfl (.cons (se_var 1 rfl (pv 1)) rfl .nil))))) (se_var 1 rfl (pv 1)) (nomark _)))))) rfl .nil)))))
  exact h
end
end My
namespace My
open PySem L2 Mi
section
variable {P : Program} {w : World} {K : PySem.W.Frag} {mg : Str→Option Value} {base : Heap}
noncomputable def m_p_press : MS:=(seqS (sAsg (.nm 3) (mCB [] lstM))
    (seqS (sAsg (.nm 4) (mCB [] lstM))
    (seqS (sAsg (.nm 5) (mBin (mVar 1) (mCB [(mVar 2)] tupD) addD))
    (seqS (sWhile (fun _ => 1000) (mAnd (mTest (mVar 5)) (mNot (mTest (mCall f_p_may_wait [(mVar 0),(mVar 5)])))) (seqS (sAsg (.tp [(.nm 6),(.nm 7),(.nm 5)]) (mCall f_p_read_step [(mVar 0),(mVar 5)]))
    (seqS (sExpr (mMeth (mVar 3) [(mVar 6)] extD))
    (sExpr (mMeth (mVar 4) [(mVar 7)] extD)))))
    (sRet (mCB [(mVar 3),(mVar 4),(mVar 5)] tupD))))))
noncomputable def f_p_press : FM:=runF 8 m_p_press
theorem ok_p_press (T : Wd K mg) : FnOk P w K mg base CX0 3 T.x_p_press.f T.x_p_press.d ["table", "waiting", "key"] (spM (G0 K) 3 f_p_press) := by
  have h : FnOk P w K mg base CX0 (3) T.x_p_press.f T.x_p_press.d ["table", "waiting", "key"] (spM (G0 K) (List.length (["table", "waiting", "key"] : List Str)) (runF (List.length (["table", "waiting", "key", "sounds", "lost", "rest", "told", "gone"] : List Str)) m_p_press)) := fn_M T.x_p_press.F sc_p_press rfl fun cdv A outer s H E F hr => by
    have h64:=hr.units
    exact (ss_cons (ss_set (fun {te} h => ps_set (i:=3) sc_p_press.nd rfl (Or.inl rfl) h) (se_lst rfl (sa_of rfl .nil)))
    (ss_cons (ss_set (fun {te} h => ps_set (i:=4) sc_p_press.nd rfl (Or.inl rfl) h) (se_lst rfl (sa_of rfl .nil)))
    (ss_cons (ss_set (fun {te} h => ps_set (i:=5) sc_p_press.nd rfl (Or.inl rfl) h) (se_add rfl (se_var 1 rfl (pv 1)) (se_tup rfl (sa_of rfl (.cons (se_var 2 rfl (pv 2)) rfl .nil)))))
    (ss_cons (ss_while PassesOwn.never (SW.sb (sw_and (sb_truth rfl (se_var 5 rfl (pv 5))) (sw_and1 (sb_not (sb_truth rfl (se_call rfl ((ok_p_may_wait T).mono (by omega)) hr rfl T.x_p_may_wait.m T.x_p_may_wait.F.kp T.x_p_may_wait.b pass0 (sa_of rfl (.cons (se_var 0 rfl (pv 0)) rfl (.cons (se_var 5 rfl (pv 5)) rfl .nil))) rfl)))))) (ss_cons (ss_asg (se_call rfl ((ok_p_read_step T).mono (by omega)) hr rfl T.x_p_read_step.m T.x_p_read_step.F.kp T.x_p_read_step.b pass0 (sa_of rfl (.cons (se_var 0 rfl (pv 0)) rfl (.cons (se_var 5 rfl (pv 5)) rfl .nil))) rfl) (sg_tup rfl rfl (sgs_cons (sg_name (pg_name (i:=6) sc_p_press.nd rfl (Or.inl rfl))) (sgs_cons (sg_name (pg_name (i:=7) sc_p_press.nd rfl (Or.inl rfl))) (sgs_cons (sg_name (pg_name (i:=5) sc_p_press.nd rfl (Or.inl rfl))) sgs_nil)))))
    (ss_cons (ss_expr (se_cl rfl PySem.F.slot_list_extend PySem.F.type_list_extend (cl_extend rfl) (se_var 3 rfl (pv 3)) (sa_of rfl (.cons (se_var 6 rfl (pv 6)) rfl .nil))))
    (ss_one (ss_expr (se_cl rfl PySem.F.slot_list_extend PySem.F.type_list_extend (cl_extend rfl) (se_var 4 rfl (pv 4)) (sa_of rfl (.cons (se_var 7 rfl (pv 7)) rfl .nil))))))))
    (ss_one (ss_ret (se_tup rfl (sa_of rfl (.cons (se_var 3 rfl (pv 3)) rfl (.cons (se_var 4 rfl (pv 4)) rfl (.cons (se_var 5 rfl (pv 5)) rfl .nil)))))))))))
  exact h
end
end My
namespace My
open PySem L2 Mi
section
variable {P : Program} {w : World} {K : PySem.W.Frag} {mg : Str→Option Value} {base : Heap}
noncomputable def m_p_end_keys : MS:=(sRet (mCall f_p_read_keys [(mVar 0),(mVar 1)]))
noncomputable def f_p_end_keys : FM:=runF 2 m_p_end_keys
theorem ok_p_end_keys (T : Wd K mg) : FnOk P w K mg base CX0 4 T.x_p_end_keys.f T.x_p_end_keys.d ["table", "waiting"] (spM (G0 K) 2 f_p_end_keys) := by
  have h : FnOk P w K mg base CX0 (4) T.x_p_end_keys.f T.x_p_end_keys.d ["table", "waiting"] (spM (G0 K) (List.length (["table", "waiting"] : List Str)) (runF (List.length (["table", "waiting"] : List Str)) m_p_end_keys)) := fn_M T.x_p_end_keys.F sc_p_end_keys rfl fun cdv A outer s H E F hr => by
    have h64:=hr.units
    exact (ss_one (ss_ret (se_call rfl ((ok_p_read_keys T).mono (by omega)) hr rfl T.x_p_read_keys.m T.x_p_read_keys.F.kp T.x_p_read_keys.b pass0 (sa_of rfl (.cons (se_var 0 rfl (pv 0)) rfl (.cons (se_var 1 rfl (pv 1)) rfl .nil))) rfl)))
  exact h
end
end My
namespace My
open PySem L2 Mi
section
variable {P : Program} {w : World} {K : PySem.W.Frag} {mg : Str→Option Value} {base : Heap}
noncomputable def m_l_bag : MS:=(seqS (sAsg (.nm 2) (mC (.int 0)))
    (seqS (sIf (mBoo (mBin (mVar 1) (mCB [(mVar 0)] lenD) ltD)) (sAsg (.nm 2) (mCB [(mBin (mVar 0) (mVar 1) ixD)] absD)) sNx)
    (seqS (sAsg (.nm 3) (mBin (mBin (mBin (mBin (mBin (mVar 2) (mC (.int 2147483629)) modD) (mBin (mC (.int 104729)) (mVar 1) mulD) addD) (mC (.int 17)) addD) (mC (.int 5)) powD) (mC (.int 2147483647)) modD))
    (seqS (sFor (mRng1 [(mCB [(mCB [(mVar 0)] lenD),(mC (.int 60))] minD)]) (.nm 4) (sAsg (.nm 3) (mBin (mBin (mBin (mBin (mVar 3) (mC (.int 48271)) mulD) (mBin (mBin (mBin (mVar 0) (mVar 4) ixD) (mC (.int 2147483587)) modD) (mBin (mVar 4) (mC (.int 3)) addD) mulD) addD) (mVar 4) addD) (mC (.int 2147483629)) modD)))
    (seqS (sIf (mBoo (mBin (mVar 2) (mBin (mC (.int 10)) (mC (.int 18)) powD) ltD)) (sAsg (.nm 2) (mC (.int 0))) sNx)
    (sRet (mCB [(mVar 2),(mVar 3)] lstM)))))))
noncomputable def f_l_bag : FM:=runF 5 m_l_bag
theorem ok_l_bag (T : Wd K mg) : FnOk P w K mg base CX0 1 T.x_l_bag.f T.x_l_bag.d ["_law_script", "_law_at"] (spM (G0 K) 2 f_l_bag) := by
  have h : FnOk P w K mg base CX0 (1) T.x_l_bag.f T.x_l_bag.d ["_law_script", "_law_at"] (spM (G0 K) (List.length (["_law_script", "_law_at"] : List Str)) (runF (List.length (["_law_script", "_law_at", "_law_cell", "_law_mix", "_law_k"] : List Str)) m_l_bag)) := fn_M T.x_l_bag.F sc_l_bag rfl fun cdv A outer s H E F hr => by
    have h64:=hr.units
    exact (ss_cons (ss_set (fun {te} h => ps_set (i:=2) sc_l_bag.nd rfl (Or.inl rfl) h) (se_c rfl pe_int))
    (ss_cons (ss_if (sb_cmp cm_lt (se_var 1 rfl (pv 1)) (se_cb rfl (cb_len rfl) rfl T.n_len PyProof.Rows.Boot.«len» (sa_of rfl (.cons (se_var 0 rfl (pv 0)) rfl .nil))) (nomark _)) (ss_one (ss_set (fun {te} h => ps_set (i:=2) sc_l_bag.nd rfl (Or.inl rfl) h) (se_cb rfl cb_abs rfl T.n_abs PyProof.Rows.Boot.«abs» (sa_of rfl (.cons (se_idx rfl (se_var 0 rfl (pv 0)) (se_var 1 rfl (pv 1)) (fun _ _ => rfl)) rfl .nil))))) ss_nil)
    (ss_cons (ss_set (fun {te} h => ps_set (i:=3) sc_l_bag.nd rfl (Or.inl rfl) h) (se_mod rfl (se_pow rfl (se_add rfl (se_add rfl (se_mod rfl (se_var 2 rfl (pv 2)) (se_c rfl pe_int)) (se_mul rfl (se_c rfl pe_int) (se_var 1 rfl (pv 1)))) (se_c rfl pe_int)) (se_c rfl pe_int)) (se_c rfl pe_int)))
    (ss_cons (ss_for PassesOwn.never rfl (si_rng1 rfl T.n_range (sa_of rfl (.cons (se_cb rfl (cb_min rfl) rfl T.n_min PyProof.Rows.Boot.«min» (sa_of rfl (.cons (se_cb rfl (cb_len rfl) rfl T.n_len PyProof.Rows.Boot.«len» (sa_of rfl (.cons (se_var 0 rfl (pv 0)) rfl .nil))) rfl (.cons (se_c rfl pe_int) rfl .nil)))) rfl .nil))) (sg_name (pg_name (i:=4) sc_l_bag.nd rfl (Or.inl rfl))) (ss_one (ss_set (fun {te} h => ps_set (i:=3) sc_l_bag.nd rfl (Or.inl rfl) h) (se_mod rfl (se_add rfl (se_add rfl (se_mul rfl (se_var 3 rfl (pv 3)) (se_c rfl pe_int)) (se_mul rfl (se_mod rfl (se_idx rfl (se_var 0 rfl (pv 0)) (se_var 4 rfl (pv 4)) (fun _ _ => rfl)) (se_c rfl pe_int)) (se_add rfl (se_var 4 rfl (pv 4)) (se_c rfl pe_int)))) (se_var 4 rfl (pv 4))) (se_c rfl pe_int)))))
    (ss_cons (ss_if (sb_cmp cm_lt (se_var 2 rfl (pv 2)) (se_pow rfl (se_c rfl pe_int) (se_c rfl pe_int)) (nomark _)) (ss_one (ss_set (fun {te} h => ps_set (i:=2) sc_l_bag.nd rfl (Or.inl rfl) h) (se_c rfl pe_int))) ss_nil)
    (ss_one (ss_ret (se_lst rfl (sa_of rfl (.cons (se_var 2 rfl (pv 2)) rfl (.cons (se_var 3 rfl (pv 3)) rfl .nil)))))))))))
  exact h
end
end My
namespace My
open PySem L2 Mi
section
variable {P : Program} {w : World} {K : PySem.W.Frag} {mg : Str→Option Value} {base : Heap}
noncomputable def m_l_take : MS:=(seqS (sIf (mBoo (mBin (mBin (mVar 0) (mC (.int 0)) ixD) (mC (.int 0)) gtD)) (seqS (sAsg (.nm 2) (mBin (mBin (mVar 0) (mC (.int 0)) ixD) (mVar 1) modD))
    (seqS (mTri (mBin (mBin (mVar 0) (mC (.int 0)) ixD) (mVar 1) fdivD) (mVar 0) (mC (.int 0)) setD)
    (sRet (mVar 2)))) sNx)
    (seqS (mTri (mBin (mBin (mBin (mBin (mVar 0) (mC (.int 1)) ixD) (mC (.int 48271)) mulD) (mC (.int 7919)) addD) (mC (.int 2147483647)) modD) (mVar 0) (mC (.int 1)) setD)
    (sRet (mBin (mBin (mBin (mBin (mBin (mBin (mBin (mVar 0) (mC (.int 1)) ixD) (mC (.int 3)) powD) (mC (.int 2147483587)) modD) (mC (.int 7)) fdivD) (mC (.int 69621)) mulD) (mC (.int 1073741789)) modD) (mVar 1) modD))))
noncomputable def f_l_take : FM:=runF 3 m_l_take
theorem ok_l_take (T : Wd K mg) : FnOk P w K mg base CX0 1 T.x_l_take.f T.x_l_take.d ["_law_bag_here", "_law_many"] (spM (G0 K) 2 f_l_take) := by
  have h : FnOk P w K mg base CX0 (1) T.x_l_take.f T.x_l_take.d ["_law_bag_here", "_law_many"] (spM (G0 K) (List.length (["_law_bag_here", "_law_many"] : List Str)) (runF (List.length (["_law_bag_here", "_law_many", "_law_digit"] : List Str)) m_l_take)) := fn_M T.x_l_take.F sc_l_take rfl fun cdv A outer s H E F hr => by
    have h64:=hr.units
    exact (ss_cons (ss_if (sb_cmp cm_gt (se_idx rfl (se_var 0 rfl (pv 0)) (se_c rfl pe_int) (fun _ _ => rfl)) (se_c rfl pe_int) (nomark _)) (ss_cons (ss_set (fun {te} h => ps_set (i:=2) sc_l_take.nd rfl (Or.inl rfl) h) (se_mod rfl (se_idx rfl (se_var 0 rfl (pv 0)) (se_c rfl pe_int) (fun _ _ => rfl)) (se_var 1 rfl (pv 1))))
    (ss_cons (ss_setI (se_fdiv rfl (se_idx rfl (se_var 0 rfl (pv 0)) (se_c rfl pe_int) (fun _ _ => rfl)) (se_var 1 rfl (pv 1))) (se_var 0 rfl (pv 0)) (se_c rfl pe_int) (fun {to ti} h1 h2 => pg_sub h1 h2 set_list))
    (ss_one (ss_ret (se_var 2 rfl (pv 2)))))) ss_nil)
    (ss_cons (ss_setI (se_mod rfl (se_add rfl (se_mul rfl (se_idx rfl (se_var 0 rfl (pv 0)) (se_c rfl pe_int) (fun _ _ => rfl)) (se_c rfl pe_int)) (se_c rfl pe_int)) (se_c rfl pe_int)) (se_var 0 rfl (pv 0)) (se_c rfl pe_int) (fun {to ti} h1 h2 => pg_sub h1 h2 set_list))
    (ss_one (ss_ret (se_mod rfl (se_mod rfl (se_mul rfl (se_fdiv rfl (se_mod rfl (se_pow rfl (se_idx rfl (se_var 0 rfl (pv 0)) (se_c rfl pe_int) (fun _ _ => rfl)) (se_c rfl pe_int)) (se_c rfl pe_int)) (se_c rfl pe_int)) (se_c rfl pe_int)) (se_c rfl pe_int)) (se_var 1 rfl (pv 1)))))))
  exact h
end
end My
namespace My
open PySem L2 Mi
section
variable {P : Program} {w : World} {K : PySem.W.Frag} {mg : Str→Option Value} {base : Heap}
noncomputable def m_l_table : MS:=(seqS (sAsg (.nm 1) (mBin (mCall f_l_take [(mVar 0),(mC (.int 8))]) (mC (.int 7)) fdivD))
    (seqS (sAsg (.nm 2) (mBin (mCB [(mBin (mC (.int 1)) (mCall f_l_take [(mVar 0),(mC (.int 4))]) addD),(mC (.int 26))] lstM) (mVar 1) ixD))
    (seqS (sAsg (.nm 3) (mCall f_l_take [(mVar 0),(mC (.int 26))]))
    (seqS (sAsg (.nm 4) (mBin (mCB [(mC (.int 3)),(mC (.int 40))] lstM) (mCall f_l_take [(mVar 0),(mC (.int 2))]) ixD))
    (seqS (sAsg (.nm 5) dnewM)
    (seqS (sIf (mBoo (mBin (mCall f_l_take [(mVar 0),(mC (.int 2))]) (mC (.int 0)) eqD)) (sFor (mRng1 [(mVar 2)]) (.nm 6) (mTri (mCB [(mCB [(mCall f_l_take [(mVar 0),(mVar 4)])] tupD),(mCB [] tupD)] tupD) (mVar 5) (mCB [(mBin (mBin (mVar 3) (mVar 6) addD) (mC (.int 26)) modD)] tupD) dputD)) sNx)
    (seqS (sFor (mRng1 [(mBin (mCB [(mCall f_l_take [(mVar 0),(mC (.int 8))]),(mC (.int 40))] lstM) (mVar 1) ixD)]) (.nm 7) (seqS (sAsg (.nm 8) (mCB [(mComp (mRng1 [(mBin (mC (.int 1)) (mCall f_l_take [(mVar 0),(mC (.int 4))]) addD)]) (.nm 0) (rt true) (mBin (mBin (mVar 1) (mCall f_l_take [(mVar 2),(mVar 3)]) addD) (mC (.int 26)) modD) 1 [3,0,2])] tupF))
    (seqS (sAsg (.nm 9) (mCB [(mComp (mRng1 [(mCall f_l_take [(mVar 0),(mC (.int 4))])]) (.nm 0) (rt true) (mCall f_l_take [(mVar 1),(mVar 2)]) 1 [0,4])] tupF))
    (seqS (sAsg (.nm 10) (mCB [(mComp (mRng1 [(mCall f_l_take [(mVar 0),(mCB [(mVar 8)] lenD)])]) (.nm 0) (rt true) (mBin (mBin (mVar 1) (mCall f_l_take [(mVar 2),(mVar 3)]) addD) (mC (.int 26)) modD) 1 [3,0,2])] tupF))
    (mTri (mCB [(mVar 9),(mVar 10)] tupD) (mVar 5) (mVar 8) dputD)))))
    (sRet (mSl (mComp (mDctI (mVar 5)) (.nm 0) (rt true) (mBin (mCB [(mVar 0)] tupD) (mBin (mVar 1) (mVar 0) dgtD) addD) 1 [5]) none (some (mC (.int 40))))))))))))
noncomputable def f_l_table : FM:=runF 11 m_l_table
theorem ok_l_table (T : Wd K mg) : FnOk P w K mg base CX0 2 T.x_l_table.f T.x_l_table.d ["_law_bag_here"] (spM (G0 K) 1 f_l_table) := by
  have h : FnOk P w K mg base CX0 (2) T.x_l_table.f T.x_l_table.d ["_law_bag_here"] (spM (G0 K) (List.length (["_law_bag_here"] : List Str)) (runF (List.length (["_law_bag_here", "_law_wide", "_law_letters", "_law_first", "_law_top", "_law_found", "_law_k", "_law_turn", "_law_keys", "_law_sounds", "_law_left"] : List Str)) m_l_table)) := fn_M T.x_l_table.F sc_l_table rfl fun cdv A outer s H E F hr => by
    have h64:=hr.units
    exact (ss_cons (ss_set (fun {te} h => ps_set (i:=1) sc_l_table.nd rfl (Or.inl rfl) h) (se_fdiv rfl (se_call rfl ((ok_l_take T).mono (by omega)) hr rfl T.x_l_take.m T.x_l_take.F.kp T.x_l_take.b pass0 (sa_of rfl (.cons (se_var 0 rfl (pv 0)) rfl (.cons (se_c rfl pe_int) rfl .nil))) rfl) (se_c rfl pe_int)))
    (ss_cons (ss_set (fun {te} h => ps_set (i:=2) sc_l_table.nd rfl (Or.inr rfl) h) (se_idx rfl (se_lst rfl (sa_of rfl (.cons (se_add rfl (se_c rfl pe_int) (se_call rfl ((ok_l_take T).mono (by omega)) hr rfl T.x_l_take.m T.x_l_take.F.kp T.x_l_take.b pass0 (sa_of rfl (.cons (se_var 0 rfl (pv 0)) rfl (.cons (se_c rfl pe_int) rfl .nil))) rfl)) rfl (.cons (se_c rfl pe_int) rfl .nil)))) (se_var 1 rfl (pv 1)) (fun _ _ => rfl)))
    (ss_cons (ss_set (fun {te} h => ps_set (i:=3) sc_l_table.nd rfl (Or.inr rfl) h) (se_call rfl ((ok_l_take T).mono (by omega)) hr rfl T.x_l_take.m T.x_l_take.F.kp T.x_l_take.b pass0 (sa_of rfl (.cons (se_var 0 rfl (pv 0)) rfl (.cons (se_c rfl pe_int) rfl .nil))) rfl))
    (ss_cons (ss_set (fun {te} h => ps_set (i:=4) sc_l_table.nd rfl (Or.inr rfl) h) (se_idx rfl (se_lst rfl (sa_of rfl (.cons (se_c rfl pe_int) rfl (.cons (se_c rfl pe_int) rfl .nil)))) (se_call rfl ((ok_l_take T).mono (by omega)) hr rfl T.x_l_take.m T.x_l_take.F.kp T.x_l_take.b pass0 (sa_of rfl (.cons (se_var 0 rfl (pv 0)) rfl (.cons (se_c rfl pe_int) rfl .nil))) rfl) (fun _ _ => rfl)))
    (ss_cons (ss_set (fun {te} h => ps_set (i:=5) sc_l_table.nd rfl (Or.inr rfl) h) (se_dnew rfl))
    (ss_cons (ss_if (sb_cmp (cm_eq rfl h64) (se_call rfl ((ok_l_take T).mono (by omega)) hr rfl T.x_l_take.m T.x_l_take.F.kp T.x_l_take.b pass0 (sa_of rfl (.cons (se_var 0 rfl (pv 0)) rfl (.cons (se_c rfl pe_int) rfl .nil))) rfl) (se_c rfl pe_int) (nomark _)) (ss_one (ss_for PassesOwn.never rfl (si_rng1 rfl T.n_range (sa_of rfl (.cons (se_var 2 rfl (pv 2)) rfl .nil))) (sg_name (pg_name (i:=6) sc_l_table.nd rfl (Or.inl rfl))) (ss_one (ss_dput h64 (se_tup rfl (sa_of rfl (.cons (se_tup rfl (sa_of rfl (.cons (se_call rfl ((ok_l_take T).mono (by omega)) hr rfl T.x_l_take.m T.x_l_take.F.kp T.x_l_take.b pass0 (sa_of rfl (.cons (se_var 0 rfl (pv 0)) rfl (.cons (se_var 4 rfl (pv 4)) rfl .nil))) rfl) rfl .nil))) rfl (.cons (se_tup rfl (sa_of rfl .nil)) rfl .nil)))) (se_var 5 rfl (pv 5)) (se_tup rfl (sa_of rfl (.cons (se_mod rfl (se_add rfl (se_var 3 rfl (pv 3)) (se_var 6 rfl (pv 6))) (se_c rfl pe_int)) rfl .nil))))))) ss_nil)
    (ss_cons (ss_for PassesOwn.never rfl (si_rng1 rfl T.n_range (sa_of rfl (.cons (se_idx rfl (se_lst rfl (sa_of rfl (.cons (se_call rfl ((ok_l_take T).mono (by omega)) hr rfl T.x_l_take.m T.x_l_take.F.kp T.x_l_take.b pass0 (sa_of rfl (.cons (se_var 0 rfl (pv 0)) rfl (.cons (se_c rfl pe_int) rfl .nil))) rfl) rfl (.cons (se_c rfl pe_int) rfl .nil)))) (se_var 1 rfl (pv 1)) (fun _ _ => rfl)) rfl .nil))) (sg_name (pg_name (i := 7) sc_l_table.nd rfl (Or.inl rfl))) (ss_cons (ss_set (fun {te} h => ps_set (i := 8) sc_l_table.nd rfl (Or.inl rfl) h) (se_ct rfl (cb_tuple rfl) rfl T.n_tuple PyProof.Rows.Boot.«tuple» (sa_of rfl (.cons (se_comp (own := ["_law_k"]) (frees := ["_law_first", "_law_bag_here", "_law_letters"]) (ix := [3, 0, 2]) rfl rfl (compOk.sc (by kernel_rfl)) (si_rng1 rfl T.n_range (sa_of rfl (.cons (se_add rfl (se_c rfl pe_int) (se_call rfl ((ok_l_take T).mono (by omega)) hr rfl T.x_l_take.m T.x_l_take.F.kp T.x_l_take.b pass0 (sa_of rfl (.cons (se_var 0 rfl (pv 0)) rfl (.cons (se_c rfl pe_int) rfl .nil))) rfl)) rfl .nil))) (fun _ _ _ _ _ _ _ => (sg_name (pg_name (i := 0) (show List.Nodup (["_law_k", "_law_first", "_law_bag_here", "_law_letters"] : List Str) by decide +kernel) rfl (Or.inl rfl)))) (fun _ _ _ _ _ _ _ => sts_nil) (fun _ _ _ _ _ _ _ => (se_mod rfl (se_add rfl (se_var 1 rfl (pv 1)) (se_call rfl ((ok_l_take T).mono (by omega)) hr rfl T.x_l_take.m T.x_l_take.F.kp T.x_l_take.b pass0 (sa_of rfl (.cons (se_var 2 rfl (pv 2)) rfl (.cons (se_var 3 rfl (pv 3)) rfl .nil))) rfl)) (se_c rfl pe_int)))) rfl .nil))))
    (ss_cons (ss_set (fun {te} h => ps_set (i := 9) sc_l_table.nd rfl (Or.inl rfl) h) (se_ct rfl (cb_tuple rfl) rfl T.n_tuple PyProof.Rows.Boot.«tuple» (sa_of rfl (.cons (se_comp (own := ["_law_k"]) (frees := ["_law_bag_here", "_law_top"]) (ix := [0, 4]) rfl rfl (compOk.sc (by kernel_rfl)) (si_rng1 rfl T.n_range (sa_of rfl (.cons (se_call rfl ((ok_l_take T).mono (by omega)) hr rfl T.x_l_take.m T.x_l_take.F.kp T.x_l_take.b pass0 (sa_of rfl (.cons (se_var 0 rfl (pv 0)) rfl (.cons (se_c rfl pe_int) rfl .nil))) rfl) rfl .nil))) (fun _ _ _ _ _ _ _ => (sg_name (pg_name (i := 0) (show List.Nodup (["_law_k", "_law_bag_here", "_law_top"] : List Str) by decide +kernel) rfl (Or.inl rfl)))) (fun _ _ _ _ _ _ _ => sts_nil) (fun _ _ _ _ _ _ _ => (se_call rfl ((ok_l_take T).mono (by omega)) hr rfl T.x_l_take.m T.x_l_take.F.kp T.x_l_take.b pass0 (sa_of rfl (.cons (se_var 1 rfl (pv 1)) rfl (.cons (se_var 2 rfl (pv 2)) rfl .nil))) rfl))) rfl .nil))))
    (ss_cons (ss_set (fun {te} h => ps_set (i := 10) sc_l_table.nd rfl (Or.inl rfl) h) (se_ct rfl (cb_tuple rfl) rfl T.n_tuple PyProof.Rows.Boot.«tuple» (sa_of rfl (.cons (se_comp (own := ["_law_k"]) (frees := ["_law_first", "_law_bag_here", "_law_letters"]) (ix := [3, 0, 2]) rfl rfl (compOk.sc (by kernel_rfl)) (si_rng1 rfl T.n_range (sa_of rfl (.cons (se_call rfl ((ok_l_take T).mono (by omega)) hr rfl T.x_l_take.m T.x_l_take.F.kp T.x_l_take.b pass0 (sa_of rfl (.cons (se_var 0 rfl (pv 0)) rfl (.cons (se_cb rfl (cb_len rfl) rfl T.n_len PyProof.Rows.Boot.«len» (sa_of rfl (.cons (se_var 8 rfl (pv 8)) rfl .nil))) rfl .nil))) rfl) rfl .nil))) (fun _ _ _ _ _ _ _ => (sg_name (pg_name (i := 0) (show List.Nodup (["_law_k", "_law_first", "_law_bag_here", "_law_letters"] : List Str) by decide +kernel) rfl (Or.inl rfl)))) (fun _ _ _ _ _ _ _ => sts_nil) (fun _ _ _ _ _ _ _ => (se_mod rfl (se_add rfl (se_var 1 rfl (pv 1)) (se_call rfl ((ok_l_take T).mono (by omega)) hr rfl T.x_l_take.m T.x_l_take.F.kp T.x_l_take.b pass0 (sa_of rfl (.cons (se_var 2 rfl (pv 2)) rfl (.cons (se_var 3 rfl (pv 3)) rfl .nil))) rfl)) (se_c rfl pe_int)))) rfl .nil))))
    (ss_one (ss_dput h64 (se_tup rfl (sa_of rfl (.cons (se_var 9 rfl (pv 9)) rfl (.cons (se_var 10 rfl (pv 10)) rfl .nil)))) (se_var 5 rfl (pv 5)) (se_var 8 rfl (pv 8))))))))
    (ss_one (ss_ret (se_slice rfl (se_compD (own := ["_law_keys"]) (frees := ["_law_found"]) (ix := [5]) rfl rfl (compOk.sc (by kernel_rfl)) (se_var 5 rfl (pv 5)) (fun _ _ _ _ _ _ _ => (sg_name (pg_name (i := 0) (show List.Nodup (["_law_keys", "_law_found"] : List Str) by decide +kernel) rfl (Or.inl rfl)))) (fun _ _ _ _ _ _ _ => sts_nil) (fun _ _ _ _ _ _ _ => (se_add rfl (se_tup rfl (sa_of rfl (.cons (se_var 0 rfl (pv 0)) rfl .nil))) (se_dgt rfl h64 (se_var 1 rfl (pv 1)) (se_var 0 rfl (pv 0)) (fun _ _ => rfl))))) so_none (so_some (se_c rfl pe_int))))))))))))
  exact h
end
end My
namespace My
open PySem L2 Mi
section
variable {P : Program} {w : World} {K : PySem.W.Frag} {mg : Str→Option Value} {base : Heap}
noncomputable def m_l_pressed : MS:=(seqS (sAsg (.nm 3) (mCB [(mC (.int 0))] lstM))
    (seqS (sFor (mSeqI (mVar 1)) (.tp [(.nm 4),(.nm 5),(.nm 6)]) (sExpr (mMeth (mVar 3) [(mVar 4)] extD)))
    (seqS (sAsg (.nm 7) (mCB [] lstM))
    (seqS (sFor (mRng1 [(mCall f_l_take [(mVar 0),(mBin (mVar 2) (mC (.int 1)) addD)])]) (.nm 8) (seqS (sAsg (.nm 9) (mCB [(mBin (mCall f_l_take [(mVar 0),(mC (.int 8))]) (mC (.int 7)) eqD)] intD))
    (sExpr (mMeth (mVar 7) [(mBin (mCB [(mBin (mVar 3) (mCall f_l_take [(mVar 0),(mCB [(mVar 3)] lenD)]) ixD),(mCall f_l_take [(mVar 0),(mC (.int 26))])] lstM) (mVar 9) ixD)] appD))))
    (sRet (mVar 7))))))
noncomputable def f_l_pressed : FM:=runF 10 m_l_pressed
theorem ok_l_pressed (T : Wd K mg) : FnOk P w K mg base CX0 2 T.x_l_pressed.f T.x_l_pressed.d ["_law_bag_here", "_law_table_here", "_law_most"] (spM (G0 K) 3 f_l_pressed) := by
  have h : FnOk P w K mg base CX0 (2) T.x_l_pressed.f T.x_l_pressed.d ["_law_bag_here", "_law_table_here", "_law_most"] (spM (G0 K) (List.length (["_law_bag_here", "_law_table_here", "_law_most"] : List Str)) (runF (List.length (["_law_bag_here", "_law_table_here", "_law_most", "_law_some", "_law_keys", "_law_sounds", "_law_left", "_law_found", "_law_k", "_law_other"] : List Str)) m_l_pressed)) := fn_M T.x_l_pressed.F sc_l_pressed rfl fun cdv A outer s H E F hr => by
    have h64:=hr.units
    exact (ss_cons (ss_set (fun {te} h => ps_set (i:=3) sc_l_pressed.nd rfl (Or.inl rfl) h) (se_lst rfl (sa_of rfl (.cons (se_c rfl pe_int) rfl .nil))))
    (ss_cons (ss_for PassesOwn.never rfl (si_seq rfl (se_var 1 rfl (pv 1))) (sg_tup rfl rfl (sgs_cons (sg_name (pg_name (i:=4) sc_l_pressed.nd rfl (Or.inl rfl))) (sgs_cons (sg_name (pg_name (i:=5) sc_l_pressed.nd rfl (Or.inl rfl))) (sgs_cons (sg_name (pg_name (i:=6) sc_l_pressed.nd rfl (Or.inl rfl))) sgs_nil)))) (ss_one (ss_expr (se_cl rfl PySem.F.slot_list_extend PySem.F.type_list_extend (cl_extend rfl) (se_var 3 rfl (pv 3)) (sa_of rfl (.cons (se_var 4 rfl (pv 4)) rfl .nil))))))
    (ss_cons (ss_set (fun {te} h => ps_set (i:=7) sc_l_pressed.nd rfl (Or.inl rfl) h) (se_lst rfl (sa_of rfl .nil)))
    (ss_cons (ss_for PassesOwn.never rfl (si_rng1 rfl T.n_range (sa_of rfl (.cons (se_call rfl ((ok_l_take T).mono (by omega)) hr rfl T.x_l_take.m T.x_l_take.F.kp T.x_l_take.b pass0 (sa_of rfl (.cons (se_var 0 rfl (pv 0)) rfl (.cons (se_add rfl (se_var 2 rfl (pv 2)) (se_c rfl pe_int)) rfl .nil))) rfl) rfl .nil))) (sg_name (pg_name (i:=8) sc_l_pressed.nd rfl (Or.inl rfl))) (ss_cons (ss_set (fun {te} h => ps_set (i:=9) sc_l_pressed.nd rfl (Or.inl rfl) h) (se_ct rfl cb_int rfl T.n_int PyProof.Rows.Boot.«int» (sa_of rfl (.cons (se_cmp (cm_eq rfl h64) (se_call rfl ((ok_l_take T).mono (by omega)) hr rfl T.x_l_take.m T.x_l_take.F.kp T.x_l_take.b pass0 (sa_of rfl (.cons (se_var 0 rfl (pv 0)) rfl (.cons (se_c rfl pe_int) rfl .nil))) rfl) (se_c rfl pe_int) (nomark _)) rfl .nil))))
    (ss_one (ss_expr (se_cl rfl PySem.F.slot_list_append PySem.F.type_list_append cl_append (se_var 7 rfl (pv 7)) (sa_of rfl (.cons (se_idx rfl (se_lst rfl (sa_of rfl (.cons (se_idx rfl (se_var 3 rfl (pv 3)) (se_call rfl ((ok_l_take T).mono (by omega)) hr rfl T.x_l_take.m T.x_l_take.F.kp T.x_l_take.b pass0 (sa_of rfl (.cons (se_var 0 rfl (pv 0)) rfl (.cons (se_cb rfl (cb_len rfl) rfl T.n_len PyProof.Rows.Boot.«len» (sa_of rfl (.cons (se_var 3 rfl (pv 3)) rfl .nil))) rfl .nil))) rfl) (fun _ _ => rfl)) rfl (.cons (se_call rfl ((ok_l_take T).mono (by omega)) hr rfl T.x_l_take.m T.x_l_take.F.kp T.x_l_take.b pass0 (sa_of rfl (.cons (se_var 0 rfl (pv 0)) rfl (.cons (se_c rfl pe_int) rfl .nil))) rfl) rfl .nil)))) (se_var 9 rfl (pv 9)) (fun _ _ => rfl)) rfl .nil)))))))
    (ss_one (ss_ret (se_var 7 rfl (pv 7))))))))
  exact h
end
end My
namespace My
open PySem L2 Mi
section
variable {P : Program} {w : World} {K : PySem.W.Frag} {mg : Str→Option Value} {base : Heap}
noncomputable def m_l_step : MS:=(seqS (sAsg (.nm 2) (mCB [] tupD))
    (seqS (sAsg (.nm 3) (mCB [] tupD))
    (seqS (sAsg (.nm 4) (mCB [] tupD))
    (seqS (sFor (mSeqI (mVar 0)) (.nm 5) (sIf (mAnd (mBoo (mBin (mCB [(mBin (mVar 5) (mC (.int 0)) ixD)] lenD) (mCB [(mVar 2)] lenD) gtD)) (mBoo (mBin (mSl (mVar 1) none (some (mCB [(mBin (mVar 5) (mC (.int 0)) ixD)] lenD))) (mBin (mVar 5) (mC (.int 0)) ixD) eqD))) (sAsg (.tp [(.nm 2),(.nm 3),(.nm 4)]) (mVar 5)) sNx))
    (seqS (sIf (mBoo (mBin (mVar 2) (mCB [] tupD) eqD)) (sRet (mCB [(mCB [] lstM),(mCB [(mBin (mVar 1) (mC (.int 0)) ixD)] lstM),(mSl (mVar 1) (some (mC (.int 1))) none)] tupD)) sNx)
    (sRet (mCB [(mCB [(mVar 3)] listF),(mCB [] lstM),(mBin (mVar 4) (mSl (mVar 1) (some (mCB [(mVar 2)] lenD)) none) addD)] tupD)))))))
noncomputable def f_l_step : FM:=runF 6 m_l_step
theorem ok_l_step (T : Wd K mg) : FnOk P w K mg base CX0 1 T.x_l_step.f T.x_l_step.d ["_law_table_here", "_law_keys"] (spM (G0 K) 2 f_l_step) := by
  have h : FnOk P w K mg base CX0 (1) T.x_l_step.f T.x_l_step.d ["_law_table_here", "_law_keys"] (spM (G0 K) (List.length (["_law_table_here", "_law_keys"] : List Str)) (runF (List.length (["_law_table_here", "_law_keys", "_law_best", "_law_told_here", "_law_left", "_law_row"] : List Str)) m_l_step)) := fn_M T.x_l_step.F sc_l_step rfl fun cdv A outer s H E F hr => by
    have h64:=hr.units
    exact (ss_cons (ss_set (fun {te} h => ps_set (i:=2) sc_l_step.nd rfl (Or.inl rfl) h) (se_tup rfl (sa_of rfl .nil)))
    (ss_cons (ss_set (fun {te} h => ps_set (i:=3) sc_l_step.nd rfl (Or.inl rfl) h) (se_tup rfl (sa_of rfl .nil)))
    (ss_cons (ss_set (fun {te} h => ps_set (i:=4) sc_l_step.nd rfl (Or.inl rfl) h) (se_tup rfl (sa_of rfl .nil)))
    (ss_cons (ss_for PassesOwn.never rfl (si_seq rfl (se_var 0 rfl (pv 0))) (sg_name (pg_name (i:=5) sc_l_step.nd rfl (Or.inl rfl))) (ss_one (ss_if (SW.sb (sw_and (sb_cmp cm_gt (se_cb rfl (cb_len rfl) rfl T.n_len PyProof.Rows.Boot.«len» (sa_of rfl (.cons (se_idx rfl (se_var 5 rfl (pv 5)) (se_c rfl pe_int) (fun _ _ => rfl)) rfl .nil))) (se_cb rfl (cb_len rfl) rfl T.n_len PyProof.Rows.Boot.«len» (sa_of rfl (.cons (se_var 2 rfl (pv 2)) rfl .nil))) (nomark _)) (sw_and1 (sb_cmp (cm_eq rfl h64) (se_slice rfl (se_var 1 rfl (pv 1)) so_none (so_some (se_cb rfl (cb_len rfl) rfl T.n_len PyProof.Rows.Boot.«len» (sa_of rfl (.cons (se_idx rfl (se_var 5 rfl (pv 5)) (se_c rfl pe_int) (fun _ _ => rfl)) rfl .nil))))) (se_idx rfl (se_var 5 rfl (pv 5)) (se_c rfl pe_int) (fun _ _ => rfl)) (nomark _))))) (ss_one (ss_asg (se_var 5 rfl (pv 5)) (sg_tup rfl rfl (sgs_cons (sg_name (pg_name (i:=2) sc_l_step.nd rfl (Or.inl rfl))) (sgs_cons (sg_name (pg_name (i:=3) sc_l_step.nd rfl (Or.inl rfl))) (sgs_cons (sg_name (pg_name (i:=4) sc_l_step.nd rfl (Or.inl rfl))) sgs_nil)))))) ss_nil)))
    (ss_cons (ss_if (sb_cmp (cm_eq rfl h64) (se_var 2 rfl (pv 2)) (se_tup rfl (sa_of rfl .nil)) (nomark _)) (ss_one (ss_ret (se_tup rfl (sa_of rfl (.cons (se_lst rfl (sa_of rfl .nil)) rfl (.cons (se_lst rfl (sa_of rfl (.cons (se_idx rfl (se_var 1 rfl (pv 1)) (se_c rfl pe_int) (fun _ _ => rfl)) rfl .nil))) rfl (.cons (se_slice rfl (se_var 1 rfl (pv 1)) (so_some (se_c rfl pe_int)) so_none) rfl .nil))))))) ss_nil)
    (ss_one (ss_ret (se_tup rfl (sa_of rfl (.cons (se_ct rfl (cb_list rfl) rfl T.n_list PyProof.Rows.Boot.«list» (sa_of rfl (.cons (se_var 3 rfl (pv 3)) rfl .nil))) rfl (.cons (se_lst rfl (sa_of rfl .nil)) rfl (.cons (se_add rfl (se_var 4 rfl (pv 4)) (se_slice rfl (se_var 1 rfl (pv 1)) (so_some (se_cb rfl (cb_len rfl) rfl T.n_len PyProof.Rows.Boot.«len» (sa_of rfl (.cons (se_var 2 rfl (pv 2)) rfl .nil)))) so_none)) rfl .nil))))))))))))
  exact h
end
end My
namespace My
open PySem L2 Mi
section
variable {P : Program} {w : World} {K : PySem.W.Frag} {mg : Str→Option Value} {base : Heap}
noncomputable def m_l_read : MS:=(seqS (sAsg (.nm 2) (mCB [] lstM))
    (seqS (sAsg (.nm 3) (mCB [] lstM))
    (seqS (sAsg (.nm 4) (mCB [(mVar 1)] tupF))
    (seqS (sWhile (fun _ => 1000) (mBoo (mBin (mVar 4) (mCB [] tupD) neD)) (seqS (sAsg (.tp [(.nm 5),(.nm 6),(.nm 4)]) (mCall f_l_step [(mVar 0),(mVar 4)]))
    (seqS (sExpr (mMeth (mVar 2) [(mVar 5)] extD))
    (sExpr (mMeth (mVar 3) [(mVar 6)] extD)))))
    (sRet (mCB [(mVar 2),(mVar 3)] tupD))))))
noncomputable def f_l_read : FM:=runF 7 m_l_read
theorem ok_l_read (T : Wd K mg) : FnOk P w K mg base CX0 2 T.x_l_read.f T.x_l_read.d ["_law_table_here", "_law_keys"] (spM (G0 K) 2 f_l_read) := by
  have h : FnOk P w K mg base CX0 (2) T.x_l_read.f T.x_l_read.d ["_law_table_here", "_law_keys"] (spM (G0 K) (List.length (["_law_table_here", "_law_keys"] : List Str)) (runF (List.length (["_law_table_here", "_law_keys", "_law_sounds", "_law_lost", "_law_left", "_law_more", "_law_gone"] : List Str)) m_l_read)) := fn_M T.x_l_read.F sc_l_read rfl fun cdv A outer s H E F hr => by
    have h64:=hr.units
    exact (ss_cons (ss_set (fun {te} h => ps_set (i:=2) sc_l_read.nd rfl (Or.inl rfl) h) (se_lst rfl (sa_of rfl .nil)))
    (ss_cons (ss_set (fun {te} h => ps_set (i:=3) sc_l_read.nd rfl (Or.inl rfl) h) (se_lst rfl (sa_of rfl .nil)))
    (ss_cons (ss_set (fun {te} h => ps_set (i:=4) sc_l_read.nd rfl (Or.inl rfl) h) (se_ct rfl (cb_tuple rfl) rfl T.n_tuple PyProof.Rows.Boot.«tuple» (sa_of rfl (.cons (se_var 1 rfl (pv 1)) rfl .nil))))
    (ss_cons (ss_while PassesOwn.never (sb_cmp (cm_ne rfl h64) (se_var 4 rfl (pv 4)) (se_tup rfl (sa_of rfl .nil)) (nomark _)) (ss_cons (ss_asg (se_call rfl ((ok_l_step T).mono (by omega)) hr rfl T.x_l_step.m T.x_l_step.F.kp T.x_l_step.b pass0 (sa_of rfl (.cons (se_var 0 rfl (pv 0)) rfl (.cons (se_var 4 rfl (pv 4)) rfl .nil))) rfl) (sg_tup rfl rfl (sgs_cons (sg_name (pg_name (i:=5) sc_l_read.nd rfl (Or.inl rfl))) (sgs_cons (sg_name (pg_name (i:=6) sc_l_read.nd rfl (Or.inl rfl))) (sgs_cons (sg_name (pg_name (i:=4) sc_l_read.nd rfl (Or.inl rfl))) sgs_nil)))))
    (ss_cons (ss_expr (se_cl rfl PySem.F.slot_list_extend PySem.F.type_list_extend (cl_extend rfl) (se_var 2 rfl (pv 2)) (sa_of rfl (.cons (se_var 5 rfl (pv 5)) rfl .nil))))
    (ss_one (ss_expr (se_cl rfl PySem.F.slot_list_extend PySem.F.type_list_extend (cl_extend rfl) (se_var 3 rfl (pv 3)) (sa_of rfl (.cons (se_var 6 rfl (pv 6)) rfl .nil))))))))
    (ss_one (ss_ret (se_tup rfl (sa_of rfl (.cons (se_var 2 rfl (pv 2)) rfl (.cons (se_var 3 rfl (pv 3)) rfl .nil))))))))))
  exact h
end
end My
namespace My
open PySem L2 Mi
section
variable {P : Program} {w : World} {K : PySem.W.Frag} {mg : Str→Option Value} {base : Heap}
noncomputable def m_l_starts : MS:=(seqS (sAsg (.nm 1) (mDisp1 (mCB [] tupD) (mC (.bool true))))
    (seqS (sFor (mSeqI (mVar 0)) (.nm 2) (sFor (mRng2 [(mC (.int 1)),(mCB [(mBin (mVar 2) (mC (.int 0)) ixD)] lenD)]) (.nm 3) (mTri (mC (.bool true)) (mVar 1) (mSl (mBin (mVar 2) (mC (.int 0)) ixD) none (some (mVar 3))) dputD)))
    (sRet (mVar 1))))
noncomputable def f_l_starts : FM:=runF 4 m_l_starts
theorem ok_l_starts (T : Wd K mg) : FnOk P w K mg base CX0 1 T.x_l_starts.f T.x_l_starts.d ["_law_table_here"] (spM (G0 K) 1 f_l_starts) := by
  have h : FnOk P w K mg base CX0 (1) T.x_l_starts.f T.x_l_starts.d ["_law_table_here"] (spM (G0 K) (List.length (["_law_table_here"] : List Str)) (runF (List.length (["_law_table_here", "_law_found", "_law_row", "_law_length"] : List Str)) m_l_starts)) := fn_M T.x_l_starts.F sc_l_starts rfl fun cdv A outer s H E F hr => by
    have h64:=hr.units
    exact (ss_cons (ss_set (fun {te} h => ps_set (i:=1) sc_l_starts.nd rfl (Or.inl rfl) h) (se_disp1 rfl h64 (se_tup rfl (sa_of rfl .nil)) (se_c rfl pe_bl)))
    (ss_cons (ss_for PassesOwn.never rfl (si_seq rfl (se_var 0 rfl (pv 0))) (sg_name (pg_name (i:=2) sc_l_starts.nd rfl (Or.inl rfl))) (ss_one (ss_for PassesOwn.never rfl (si_rng2 rfl T.n_range (sa_of rfl (.cons (se_c rfl pe_int) rfl (.cons (se_cb rfl (cb_len rfl) rfl T.n_len PyProof.Rows.Boot.«len» (sa_of rfl (.cons (se_idx rfl (se_var 2 rfl (pv 2)) (se_c rfl pe_int) (fun _ _ => rfl)) rfl .nil))) rfl .nil)))) (sg_name (pg_name (i:=3) sc_l_starts.nd rfl (Or.inl rfl))) (ss_one (ss_dput h64 (se_c rfl pe_bl) (se_var 1 rfl (pv 1)) (se_slice rfl (se_idx rfl (se_var 2 rfl (pv 2)) (se_c rfl pe_int) (fun _ _ => rfl)) so_none (so_some (se_var 3 rfl (pv 3)))))))))
    (ss_one (ss_ret (se_var 1 rfl (pv 1))))))
  exact h
end
end My
namespace My
open PySem L2 Mi
section
variable {P : Program} {w : World} {K : PySem.W.Frag} {mg : Str→Option Value} {base : Heap}
noncomputable def m_l_press : MS:=(seqS (sAsg (.nm 4) (mCB [] lstM))
    (seqS (sAsg (.nm 5) (mCB [] lstM))
    (seqS (sAsg (.nm 6) (mBin (mVar 2) (mCB [(mVar 3)] tupD) addD))
    (seqS (sWhile (fun _ => 1000) (mBoo (mBin (mVar 6) (mVar 1) dninD)) (seqS (sAsg (.tp [(.nm 7),(.nm 8),(.nm 6)]) (mCall f_l_step [(mVar 0),(mVar 6)]))
    (seqS (sExpr (mMeth (mVar 4) [(mVar 7)] extD))
    (sExpr (mMeth (mVar 5) [(mVar 8)] extD)))))
    (sRet (mCB [(mVar 4),(mVar 5),(mVar 6)] tupD))))))
noncomputable def f_l_press : FM:=runF 9 m_l_press
theorem ok_l_press (T : Wd K mg) : FnOk P w K mg base CX0 2 T.x_l_press.f T.x_l_press.d ["_law_table_here", "_law_starts_here", "_law_waiting", "_law_key"] (spM (G0 K) 4 f_l_press) := by
  have h : FnOk P w K mg base CX0 (2) T.x_l_press.f T.x_l_press.d ["_law_table_here", "_law_starts_here", "_law_waiting", "_law_key"] (spM (G0 K) (List.length (["_law_table_here", "_law_starts_here", "_law_waiting", "_law_key"] : List Str)) (runF (List.length (["_law_table_here", "_law_starts_here", "_law_waiting", "_law_key", "_law_sounds", "_law_lost", "_law_left", "_law_more", "_law_gone"] : List Str)) m_l_press)) := fn_M T.x_l_press.F sc_l_press rfl fun cdv A outer s H E F hr => by
    have h64:=hr.units
    exact (ss_cons (ss_set (fun {te} h => ps_set (i:=4) sc_l_press.nd rfl (Or.inl rfl) h) (se_lst rfl (sa_of rfl .nil)))
    (ss_cons (ss_set (fun {te} h => ps_set (i:=5) sc_l_press.nd rfl (Or.inl rfl) h) (se_lst rfl (sa_of rfl .nil)))
    (ss_cons (ss_set (fun {te} h => ps_set (i:=6) sc_l_press.nd rfl (Or.inl rfl) h) (se_add rfl (se_var 2 rfl (pv 2)) (se_tup rfl (sa_of rfl (.cons (se_var 3 rfl (pv 3)) rfl .nil)))))
    (ss_cons (ss_while PassesOwn.never (sb_cmp (cm_dnin h64) (se_var 6 rfl (pv 6)) (se_var 1 rfl (pv 1)) (by with_unfolding_all rfl)) (ss_cons (ss_asg (se_call rfl ((ok_l_step T).mono (by omega)) hr rfl T.x_l_step.m T.x_l_step.F.kp T.x_l_step.b pass0 (sa_of rfl (.cons (se_var 0 rfl (pv 0)) rfl (.cons (se_var 6 rfl (pv 6)) rfl .nil))) rfl) (sg_tup rfl rfl (sgs_cons (sg_name (pg_name (i:=7) sc_l_press.nd rfl (Or.inl rfl))) (sgs_cons (sg_name (pg_name (i:=8) sc_l_press.nd rfl (Or.inl rfl))) (sgs_cons (sg_name (pg_name (i:=6) sc_l_press.nd rfl (Or.inl rfl))) sgs_nil)))))
    (ss_cons (ss_expr (se_cl rfl PySem.F.slot_list_extend PySem.F.type_list_extend (cl_extend rfl) (se_var 4 rfl (pv 4)) (sa_of rfl (.cons (se_var 7 rfl (pv 7)) rfl .nil))))
    (ss_one (ss_expr (se_cl rfl PySem.F.slot_list_extend PySem.F.type_list_extend (cl_extend rfl) (se_var 5 rfl (pv 5)) (sa_of rfl (.cons (se_var 8 rfl (pv 8)) rfl .nil))))))))
    (ss_one (ss_ret (se_tup rfl (sa_of rfl (.cons (se_var 4 rfl (pv 4)) rfl (.cons (se_var 5 rfl (pv 5)) rfl (.cons (se_var 6 rfl (pv 6)) rfl .nil)))))))))))
  exact h
end
end My
namespace My
open PySem L2 Mi
section
variable {P : Program} {w : World} {K : PySem.W.Frag} {mg : Str→Option Value} {base : Heap}
noncomputable def m_l_whole : MS := (sRet (mAndV (mIsi "int" (mVar 0)) (mNotV (mIsi "bool" (mVar 0)))))
noncomputable def f_l_whole : FM:=runF 1 m_l_whole
theorem ok_l_whole (T : Wd K mg) : FnOk P w K mg base CX0 1 T.x_l_whole.f T.x_l_whole.d ["_law_thing"] (spM (G0 K) 1 f_l_whole) := by
  have h : FnOk P w K mg base CX0 (1) T.x_l_whole.f T.x_l_whole.d ["_law_thing"] (spM (G0 K) (List.length (["_law_thing"] : List Str)) (runF (List.length (["_law_thing"] : List Str)) m_l_whole)) := fn_M T.x_l_whole.F sc_l_whole rfl fun cdv A outer s H E F hr => by
    have h64:=hr.units
    exact (ss_one (ss_ret (se_and (se_isi rfl (by decide) rfl T.n_isinstance (se_var 0 rfl (pv 0)) (pe_bltn (v := .ty "int") rfl T.n_int PyProof.Rows.Boot.«int» rfl)) (se_one (se_not (se_isi rfl (by decide) rfl T.n_isinstance (se_var 0 rfl (pv 0)) (pe_bltn (v := .ty "bool") rfl T.n_bool PyProof.Rows.Boot.«bool» rfl)))))))
  exact h
end
end My
namespace My
open PySem L2 Mi
section
variable {P : Program} {w : World} {K : PySem.W.Frag} {mg : Str→Option Value} {base : Heap}
noncomputable def m_l_are_lists : MS := (seqS (sFor (mSeqI (mSl (mVar 0) none (some (mC (.int 2))))) (.nm 1) (sIf (mOr (mNot (mTest (mIsi "list" (mVar 1)))) (mNot (mTest (mCB [(mComp (mSeqI (mVar 1)) (.nm 0) (rt true) (mCall f_l_whole [(mVar 0)]) 1 [])] allD)))) (sRet (mC (.bool false))) sNx))
    (seqS (sAsg (.nm 2) (mCB [(mBin (mVar 0) (mC (.int 1)) ixD)] lenD))
    (seqS (sExpr (mMeth (mBin (mVar 0) (mC (.int 0)) ixD) [(mC (.int 0))] appD))
    (sRet (mBin (mCB [(mBin (mVar 0) (mC (.int 1)) ixD)] lenD) (mVar 2) eqD)))))
noncomputable def f_l_are_lists : FM:=runF 3 m_l_are_lists
theorem ok_l_are_lists (T : Wd K mg) : FnOk P w K mg base CX0 2 T.x_l_are_lists.f T.x_l_are_lists.d ["_law_told_here"] (spM (G0 K) 1 f_l_are_lists) := by
  have h : FnOk P w K mg base CX0 (2) T.x_l_are_lists.f T.x_l_are_lists.d ["_law_told_here"] (spM (G0 K) (List.length (["_law_told_here"] : List Str)) (runF (List.length (["_law_told_here", "_law_one", "_law_many"] : List Str)) m_l_are_lists)) := fn_M T.x_l_are_lists.F sc_l_are_lists rfl fun cdv A outer s H E F hr => by
    have h64:=hr.units
    exact (ss_cons (ss_for PassesOwn.never rfl (si_seq rfl (se_slice rfl (se_var 0 rfl (pv 0)) so_none (so_some (se_c rfl pe_int)))) (sg_name (pg_name (i := 1) sc_l_are_lists.nd rfl (Or.inl rfl))) (ss_one (ss_if (SW.sb (sw_or (sb_not (sb_truth rfl (se_isi rfl (by decide) rfl T.n_isinstance (se_var 1 rfl (pv 1)) (pe_bltn (v := .ty "list") rfl T.n_list PyProof.Rows.Boot.«list» rfl)))) (sw_or1 (sb_not (sb_truth rfl (se_cb rfl (cb_all rfl hr.hd) rfl T.n_all PyProof.Rows.Boot.«all» (sa_of rfl (.cons (se_comp (own := ["_law_number"]) (frees := []) (ix := []) rfl rfl (compOk.sc (by kernel_rfl)) (si_seq rfl (se_var 1 rfl (pv 1))) (fun _ _ _ _ _ _ _ => (sg_name (pg_name (i := 0) (show List.Nodup (["_law_number"] : List Str) by decide +kernel) rfl (Or.inl rfl)))) (fun _ _ _ _ _ _ _ => sts_nil) (fun _ _ _ _ _ _ _ => (se_call rfl ((ok_l_whole T).mono (by omega)) hr rfl T.x_l_whole.m T.x_l_whole.F.kp T.x_l_whole.b pass0 (sa_of rfl (.cons (se_var 0 rfl (pv 0)) rfl .nil)) rfl))) rfl .nil)))))))) (ss_one (ss_ret (se_c rfl pe_bl))) ss_nil)))
    (ss_cons (ss_set (fun {te} h => ps_set (i:=2) sc_l_are_lists.nd rfl (Or.inl rfl) h) (se_cb rfl (cb_len rfl) rfl T.n_len PyProof.Rows.Boot.«len» (sa_of rfl (.cons (se_idx rfl (se_var 0 rfl (pv 0)) (se_c rfl pe_int) (fun _ _ => rfl)) rfl .nil))))
    (ss_cons (ss_expr (se_cl rfl PySem.F.slot_list_append PySem.F.type_list_append cl_append (se_idx rfl (se_var 0 rfl (pv 0)) (se_c rfl pe_int) (fun _ _ => rfl)) (sa_of rfl (.cons (se_c rfl pe_int) rfl .nil))))
    (ss_one (ss_ret (se_cmp (cm_eq rfl h64) (se_cb rfl (cb_len rfl) rfl T.n_len PyProof.Rows.Boot.«len» (sa_of rfl (.cons (se_idx rfl (se_var 0 rfl (pv 0)) (se_c rfl pe_int) (fun _ _ => rfl)) rfl .nil))) (se_var 2 rfl (pv 2)) (nomark _)))))))
  exact h
end
end My
namespace My
open PySem L2 Mi
section
variable {P : Program} {w : World} {K : PySem.W.Frag} {mg : Str→Option Value} {base : Heap}
noncomputable def m_l_told : MS:=(seqS (sAsg (.nm 4) (mCall f_l_press [(mVar 0),(mVar 1),(mVar 2),(mVar 3)]))
    (seqS (sAsg (.nm 5) (mCB [(mVar 0)] listF))
    (seqS (sFor (mRng1 [(mC (.int 2))]) (.nm 6) (seqS (sAsg (.nm 7) (mCall f_p_press [(mVar 5),(mVar 2),(mVar 3)]))
    (seqS (sIf (mOr (mNot (mTest (mIsi "tuple" (mVar 7)))) (mOr (mBoo (mBin (mVar 7) (mVar 4) neD)) (mOr (mBoo (mBin (mVar 5) (mVar 0) neD)) (mNot (mTest (mIsi "tuple" (mBin (mVar 7) (mC (.int 2)) ixD))))))) (sRet (mC .non)) sNx)
    (seqS (sIf (mNot (mTest (mCall f_l_are_lists [(mVar 7)]))) (sRet (mC .non)) sNx)
    (sExpr (mMeth (mBin (mVar 7) (mC (.int 1)) ixD) [(mC (.int 0))] appD))))))
    (sRet (mVar 4)))))
noncomputable def f_l_told : FM:=runF 8 m_l_told
theorem ok_l_told (T : Wd K mg) : FnOk P w K mg base CX0 4 T.x_l_told.f T.x_l_told.d ["_law_table_here", "_law_starts_here", "_law_waiting", "_law_key"] (spM (G0 K) 4 f_l_told) := by
  have h : FnOk P w K mg base CX0 (4) T.x_l_told.f T.x_l_told.d ["_law_table_here", "_law_starts_here", "_law_waiting", "_law_key"] (spM (G0 K) (List.length (["_law_table_here", "_law_starts_here", "_law_waiting", "_law_key"] : List Str)) (runF (List.length (["_law_table_here", "_law_starts_here", "_law_waiting", "_law_key", "_law_due", "_law_handed", "_law_turn", "_law_told_here"] : List Str)) m_l_told)) := fn_M T.x_l_told.F sc_l_told rfl fun cdv A outer s H E F hr => by
    have h64:=hr.units
    exact (ss_cons (ss_set (fun {te} h => ps_set (i:=4) sc_l_told.nd rfl (Or.inl rfl) h) (se_call rfl ((ok_l_press T).mono (by omega)) hr rfl T.x_l_press.m T.x_l_press.F.kp T.x_l_press.b pass0 (sa_of rfl (.cons (se_var 0 rfl (pv 0)) rfl (.cons (se_var 1 rfl (pv 1)) rfl (.cons (se_var 2 rfl (pv 2)) rfl (.cons (se_var 3 rfl (pv 3)) rfl .nil))))) rfl))
    (ss_cons (ss_set (fun {te} h => ps_set (i:=5) sc_l_told.nd rfl (Or.inl rfl) h) (se_ct rfl (cb_list rfl) rfl T.n_list PyProof.Rows.Boot.«list» (sa_of rfl (.cons (se_var 0 rfl (pv 0)) rfl .nil))))
    (ss_cons (ss_for PassesOwn.never rfl (si_rng1 rfl T.n_range (sa_of rfl (.cons (se_c rfl pe_int) rfl .nil))) (sg_name (pg_name (i:=6) sc_l_told.nd rfl (Or.inl rfl))) (ss_cons (ss_set (fun {te} h => ps_set (i:=7) sc_l_told.nd rfl (Or.inl rfl) h) (se_call rfl ((ok_p_press T).mono (by omega)) hr rfl T.x_p_press.m T.x_p_press.F.kp T.x_p_press.b pass0 (sa_of rfl (.cons (se_var 5 rfl (pv 5)) rfl (.cons (se_var 2 rfl (pv 2)) rfl (.cons (se_var 3 rfl (pv 3)) rfl .nil)))) rfl))
    (ss_cons (ss_if (SW.sb (sw_or (sb_not (sb_truth rfl (se_isi rfl (by decide) rfl T.n_isinstance (se_var 7 rfl (pv 7)) (pe_bltn (v := .ty "tuple") rfl T.n_tuple PyProof.Rows.Boot.«tuple» rfl)))) (sw_or (sb_cmp (cm_ne rfl h64) (se_var 7 rfl (pv 7)) (se_var 4 rfl (pv 4)) (nomark _)) (sw_or (sb_cmp (cm_ne rfl h64) (se_var 5 rfl (pv 5)) (se_var 0 rfl (pv 0)) (nomark _)) (sw_or1 (sb_not (sb_truth rfl (se_isi rfl (by decide) rfl T.n_isinstance (se_idx rfl (se_var 7 rfl (pv 7)) (se_c rfl pe_int) (fun _ _ => rfl)) (pe_bltn (v := .ty "tuple") rfl T.n_tuple PyProof.Rows.Boot.«tuple» rfl))))))))) (ss_one (ss_ret (se_c rfl pe_non))) ss_nil)
    (ss_cons (ss_if (sb_not (sb_truth rfl (se_call rfl ((ok_l_are_lists T).mono (by omega)) hr rfl T.x_l_are_lists.m T.x_l_are_lists.F.kp T.x_l_are_lists.b pass0 (sa_of rfl (.cons (se_var 7 rfl (pv 7)) rfl .nil)) rfl))) (ss_one (ss_ret (se_c rfl pe_non))) ss_nil)
    (ss_one (ss_expr (se_cl rfl PySem.F.slot_list_append PySem.F.type_list_append cl_append (se_idx rfl (se_var 7 rfl (pv 7)) (se_c rfl pe_int) (fun _ _ => rfl)) (sa_of rfl (.cons (se_c rfl pe_int) rfl .nil)))))))))
    (ss_one (ss_ret (se_var 4 rfl (pv 4)))))))
  exact h
end
end My
namespace My
open PySem L2 Mi
section
variable {P : Program} {w : World} {K : PySem.W.Frag} {mg : Str→Option Value} {base : Heap}
noncomputable def m_law : MS:=(seqS (sFor (mRng1 [(mCB [(mC (.int 2)),(mCB [(mC (.int 4)),(mCB [(mVar 0)] lenD)] minD)] maxD)]) (.nm 1) (seqS (sAsg (.nm 2) (mCall f_l_bag [(mVar 0),(mVar 1)]))
    (seqS (sAsg (.nm 3) (mCB [(mCall f_l_table [(mVar 2)]),(mCall f_l_table [(mVar 2)])] lstM))
    (seqS (sAsg (.nm 4) (mComp (mSeqI (mVar 3)) (.nm 0) (rt true) (mCall f_l_pressed [(mVar 1),(mVar 0),(mC (.int 60))]) 1 [2]))
    (seqS (sAsg (.nm 5) (mComp (mSeqI (mVar 3)) (.nm 0) (rt true) (mCall f_l_starts [(mVar 0)]) 1 []))
    (seqS (sAsg (.nm 6) (mCB [(mCB [] tupD),(mCB [] tupD)] lstM))
    (seqS (sAsg (.nm 7) (mCB [(mCB [(mCB [] lstM),(mCB [] lstM)] tupD),(mCB [(mCB [] lstM),(mCB [] lstM)] tupD)] lstM))
    (seqS (sFor (mRng1 [(mCB [(mCB [(mBin (mVar 4) (mC (.int 0)) ixD)] lenD),(mCB [(mBin (mVar 4) (mC (.int 1)) ixD)] lenD)] maxD)]) (.nm 8) (sFor (mRng1 [(mC (.int 2))]) (.nm 9) (sIf (mBoo (mBin (mVar 8) (mCB [(mBin (mVar 4) (mVar 9) ixD)] lenD) ltD)) (seqS (sAsg (.nm 10) (mCall f_l_told [(mBin (mVar 3) (mVar 9) ixD),(mBin (mVar 5) (mVar 9) ixD),(mBin (mVar 6) (mVar 9) ixD),(mBin (mBin (mVar 4) (mVar 9) ixD) (mVar 8) ixD)]))
    (seqS (sIf (mBoo (mBin (mVar 10) (mC .non) isN)) (sRet (mC (.bool false))) sNx)
    (seqS (sExpr (mMeth (mBin (mBin (mVar 7) (mVar 9) ixD) (mC (.int 0)) ixD) [(mBin (mVar 10) (mC (.int 0)) ixD)] extD))
    (seqS (sExpr (mMeth (mBin (mBin (mVar 7) (mVar 9) ixD) (mC (.int 1)) ixD) [(mBin (mVar 10) (mC (.int 1)) ixD)] extD))
    (mTri (mBin (mVar 10) (mC (.int 2)) ixD) (mVar 6) (mVar 9) setD))))) sNx)))
    (sFor (mRng1 [(mC (.int 2))]) (.nm 9) (seqS (sAsg (.tp [(.nm 11),(.nm 12)]) (mCall f_p_end_keys [(mBin (mVar 3) (mVar 9) ixD),(mBin (mVar 6) (mVar 9) ixD)]))
    (seqS (sAsg (.nm 13) (mCB [(mBin (mBin (mBin (mVar 7) (mVar 9) ixD) (mC (.int 0)) ixD) (mVar 11) addD),(mBin (mBin (mBin (mVar 7) (mVar 9) ixD) (mC (.int 1)) ixD) (mVar 12) addD)] tupD))
    (sIf (mOr (mBoo (mBin (mVar 13) (mCall f_l_read [(mBin (mVar 3) (mVar 9) ixD),(mBin (mVar 4) (mVar 9) ixD)]) neD)) (mBoo (mBin (mVar 13) (mCall f_p_read_keys [(mBin (mVar 3) (mVar 9) ixD),(mBin (mVar 4) (mVar 9) ixD)]) neD))) (sRet (mC (.bool false))) sNx))))))))))))
    (sRet (mC (.bool true))))
noncomputable def f_law : FM:=runF 14 m_law
theorem ok_law (T : Wd K mg) : FnOk P w K mg base CX0 5 T.x_law.f T.x_law.d ["_law_script"] (spM (G0 K) 1 f_law) := by
  have h : FnOk P w K mg base CX0 (5) T.x_law.f T.x_law.d ["_law_script"] (spM (G0 K) (List.length (["_law_script"] : List Str)) (runF (List.length (["_law_script", "_law_k", "_law_bag_here", "_law_tables", "_law_rows", "_law_starts_here", "_law_waiting", "_law_sums", "_law_at", "_law_side", "_law_told_here", "_law_sounds", "_law_lost", "_law_both"] : List Str)) m_law)) := fn_M T.x_law.F sc_law rfl fun cdv A outer s H E F hr => by
    have h64:=hr.units
    exact (ss_cons (ss_for PassesOwn.never rfl (si_rng1 rfl T.n_range (sa_of rfl (.cons (se_cb rfl (cb_max rfl) rfl T.n_max PyProof.Rows.Boot.«max» (sa_of rfl (.cons (se_c rfl pe_int) rfl (.cons (se_cb rfl (cb_min rfl) rfl T.n_min PyProof.Rows.Boot.«min» (sa_of rfl (.cons (se_c rfl pe_int) rfl (.cons (se_cb rfl (cb_len rfl) rfl T.n_len PyProof.Rows.Boot.«len» (sa_of rfl (.cons (se_var 0 rfl (pv 0)) rfl .nil))) rfl .nil)))) rfl .nil)))) rfl .nil))) (sg_name (pg_name (i:=1) sc_law.nd rfl (Or.inl rfl))) (ss_cons (ss_set (fun {te} h => ps_set (i:=2) sc_law.nd rfl (Or.inr rfl) h) (se_call rfl ((ok_l_bag T).mono (by omega)) hr rfl T.x_l_bag.m T.x_l_bag.F.kp T.x_l_bag.b pass0 (sa_of rfl (.cons (se_var 0 rfl (pv 0)) rfl (.cons (se_var 1 rfl (pv 1)) rfl .nil))) rfl))
    (ss_cons (ss_set (fun {te} h => ps_set (i:=3) sc_law.nd rfl (Or.inl rfl) h) (se_lst rfl (sa_of rfl (.cons (se_call rfl ((ok_l_table T).mono (by omega)) hr rfl T.x_l_table.m T.x_l_table.F.kp T.x_l_table.b pass0 (sa_of rfl (.cons (se_var 2 rfl (pv 2)) rfl .nil)) rfl) rfl (.cons (se_call rfl ((ok_l_table T).mono (by omega)) hr rfl T.x_l_table.m T.x_l_table.F.kp T.x_l_table.b pass0 (sa_of rfl (.cons (se_var 2 rfl (pv 2)) rfl .nil)) rfl) rfl .nil)))))
    (ss_cons (ss_comp (i := 4) (own := ["_law_table_here"]) (frees := ["_law_bag_here"]) (ix := [2]) rfl sc_law.nd rfl (Or.inl rfl) (Or.inl rfl) rfl rfl (compOk.sc (by kernel_rfl)) (si_seq rfl (se_var 3 rfl (pv 3))) (fun _ _ _ _ _ _ _ => (sg_name (pg_name (i := 0) (show List.Nodup (["_law_table_here", "_law_bag_here"] : List Str) by decide +kernel) rfl (Or.inl rfl)))) (fun _ _ _ _ _ _ _ => sts_nil) (fun _ _ _ _ _ _ _ => (se_call rfl ((ok_l_pressed T).mono (by omega)) hr rfl T.x_l_pressed.m T.x_l_pressed.F.kp T.x_l_pressed.b pass0 (sa_of rfl (.cons (se_var 1 rfl (pv 1)) rfl (.cons (se_var 0 rfl (pv 0)) rfl (.cons (se_c rfl pe_int) rfl .nil)))) rfl)))
    (ss_cons (ss_comp (i := 5) (own := ["_law_table_here"]) (frees := []) (ix := []) rfl sc_law.nd rfl (Or.inl rfl) (Or.inl rfl) rfl rfl (compOk.sc (by kernel_rfl)) (si_seq rfl (se_var 3 rfl (pv 3))) (fun _ _ _ _ _ _ _ => (sg_name (pg_name (i := 0) (show List.Nodup (["_law_table_here"] : List Str) by decide +kernel) rfl (Or.inl rfl)))) (fun _ _ _ _ _ _ _ => sts_nil) (fun _ _ _ _ _ _ _ => (se_call rfl ((ok_l_starts T).mono (by omega)) hr rfl T.x_l_starts.m T.x_l_starts.F.kp T.x_l_starts.b pass0 (sa_of rfl (.cons (se_var 0 rfl (pv 0)) rfl .nil)) rfl)))
    (ss_cons (ss_set (fun {te} h => ps_set (i:=6) sc_law.nd rfl (Or.inl rfl) h) (se_lst rfl (sa_of rfl (.cons (se_tup rfl (sa_of rfl .nil)) rfl (.cons (se_tup rfl (sa_of rfl .nil)) rfl .nil)))))
    (ss_cons (ss_set (fun {te} h => ps_set (i:=7) sc_law.nd rfl (Or.inl rfl) h) (se_lst rfl (sa_of rfl (.cons (se_tup rfl (sa_of rfl (.cons (se_lst rfl (sa_of rfl .nil)) rfl (.cons (se_lst rfl (sa_of rfl .nil)) rfl .nil)))) rfl (.cons (se_tup rfl (sa_of rfl (.cons (se_lst rfl (sa_of rfl .nil)) rfl (.cons (se_lst rfl (sa_of rfl .nil)) rfl .nil)))) rfl .nil)))))
    (ss_cons (ss_for PassesOwn.never rfl (si_rng1 rfl T.n_range (sa_of rfl (.cons (se_cb rfl (cb_max rfl) rfl T.n_max PyProof.Rows.Boot.«max» (sa_of rfl (.cons (se_cb rfl (cb_len rfl) rfl T.n_len PyProof.Rows.Boot.«len» (sa_of rfl (.cons (se_idx rfl (se_var 4 rfl (pv 4)) (se_c rfl pe_int) (fun _ _ => rfl)) rfl .nil))) rfl (.cons (se_cb rfl (cb_len rfl) rfl T.n_len PyProof.Rows.Boot.«len» (sa_of rfl (.cons (se_idx rfl (se_var 4 rfl (pv 4)) (se_c rfl pe_int) (fun _ _ => rfl)) rfl .nil))) rfl .nil)))) rfl .nil))) (sg_name (pg_name (i:=8) sc_law.nd rfl (Or.inl rfl))) (ss_one (ss_for PassesOwn.never rfl (si_rng1 rfl T.n_range (sa_of rfl (.cons (se_c rfl pe_int) rfl .nil))) (sg_name (pg_name (i:=9) sc_law.nd rfl (Or.inl rfl))) (ss_one (ss_if (sb_cmp cm_lt (se_var 8 rfl (pv 8)) (se_cb rfl (cb_len rfl) rfl T.n_len PyProof.Rows.Boot.«len» (sa_of rfl (.cons (se_idx rfl (se_var 4 rfl (pv 4)) (se_var 9 rfl (pv 9)) (fun _ _ => rfl)) rfl .nil))) (nomark _)) (ss_cons (ss_set (fun {te} h => ps_set (i:=10) sc_law.nd rfl (Or.inl rfl) h) (se_call rfl ((ok_l_told T).mono (by omega)) hr rfl T.x_l_told.m T.x_l_told.F.kp T.x_l_told.b pass0 (sa_of rfl (.cons (se_idx rfl (se_var 3 rfl (pv 3)) (se_var 9 rfl (pv 9)) (fun _ _ => rfl)) rfl (.cons (se_idx rfl (se_var 5 rfl (pv 5)) (se_var 9 rfl (pv 9)) (fun _ _ => rfl)) rfl (.cons (se_idx rfl (se_var 6 rfl (pv 6)) (se_var 9 rfl (pv 9)) (fun _ _ => rfl)) rfl (.cons (se_idx rfl (se_idx rfl (se_var 4 rfl (pv 4)) (se_var 9 rfl (pv 9)) (fun _ _ => rfl)) (se_var 8 rfl (pv 8)) (fun _ _ => rfl)) rfl .nil))))) rfl))
    (ss_cons (ss_if (sb_cmp cm_isN (se_var 10 rfl (pv 10)) (se_c rfl pe_non) (nomark _)) (ss_one (ss_ret (se_c rfl pe_bl))) ss_nil)
    (ss_cons (ss_expr (se_cl rfl PySem.F.slot_list_extend PySem.F.type_list_extend (cl_extend rfl) (se_idx rfl (se_idx rfl (se_var 7 rfl (pv 7)) (se_var 9 rfl (pv 9)) (fun _ _ => rfl)) (se_c rfl pe_int) (fun _ _ => rfl)) (sa_of rfl (.cons (se_idx rfl (se_var 10 rfl (pv 10)) (se_c rfl pe_int) (fun _ _ => rfl)) rfl .nil))))
    (ss_cons (ss_expr (se_cl rfl PySem.F.slot_list_extend PySem.F.type_list_extend (cl_extend rfl) (se_idx rfl (se_idx rfl (se_var 7 rfl (pv 7)) (se_var 9 rfl (pv 9)) (fun _ _ => rfl)) (se_c rfl pe_int) (fun _ _ => rfl)) (sa_of rfl (.cons (se_idx rfl (se_var 10 rfl (pv 10)) (se_c rfl pe_int) (fun _ _ => rfl)) rfl .nil))))
    (ss_one (ss_setI (se_idx rfl (se_var 10 rfl (pv 10)) (se_c rfl pe_int) (fun _ _ => rfl)) (se_var 6 rfl (pv 6)) (se_var 9 rfl (pv 9)) (fun {to ti} h1 h2 => pg_sub h1 h2 set_list))))))) ss_nil)))))
    (ss_one (ss_for PassesOwn.never rfl (si_rng1 rfl T.n_range (sa_of rfl (.cons (se_c rfl pe_int) rfl .nil))) (sg_name (pg_name (i:=9) sc_law.nd rfl (Or.inl rfl))) (ss_cons (ss_asg (se_call rfl ((ok_p_end_keys T).mono (by omega)) hr rfl T.x_p_end_keys.m T.x_p_end_keys.F.kp T.x_p_end_keys.b pass0 (sa_of rfl (.cons (se_idx rfl (se_var 3 rfl (pv 3)) (se_var 9 rfl (pv 9)) (fun _ _ => rfl)) rfl (.cons (se_idx rfl (se_var 6 rfl (pv 6)) (se_var 9 rfl (pv 9)) (fun _ _ => rfl)) rfl .nil))) rfl) (sg_tup rfl rfl (sgs_cons (sg_name (pg_name (i:=11) sc_law.nd rfl (Or.inl rfl))) (sgs_cons (sg_name (pg_name (i:=12) sc_law.nd rfl (Or.inl rfl))) sgs_nil))))
    (ss_cons (ss_set (fun {te} h => ps_set (i:=13) sc_law.nd rfl (Or.inl rfl) h) (se_tup rfl (sa_of rfl (.cons (se_add rfl (se_idx rfl (se_idx rfl (se_var 7 rfl (pv 7)) (se_var 9 rfl (pv 9)) (fun _ _ => rfl)) (se_c rfl pe_int) (fun _ _ => rfl)) (se_var 11 rfl (pv 11))) rfl (.cons (se_add rfl (se_idx rfl (se_idx rfl (se_var 7 rfl (pv 7)) (se_var 9 rfl (pv 9)) (fun _ _ => rfl)) (se_c rfl pe_int) (fun _ _ => rfl)) (se_var 12 rfl (pv 12))) rfl .nil)))))
    (ss_one (ss_if (SW.sb (sw_or (sb_cmp (cm_ne rfl h64) (se_var 13 rfl (pv 13)) (se_call rfl ((ok_l_read T).mono (by omega)) hr rfl T.x_l_read.m T.x_l_read.F.kp T.x_l_read.b pass0 (sa_of rfl (.cons (se_idx rfl (se_var 3 rfl (pv 3)) (se_var 9 rfl (pv 9)) (fun _ _ => rfl)) rfl (.cons (se_idx rfl (se_var 4 rfl (pv 4)) (se_var 9 rfl (pv 9)) (fun _ _ => rfl)) rfl .nil))) rfl) (nomark _)) (sw_or1 (sb_cmp (cm_ne rfl h64) (se_var 13 rfl (pv 13)) (se_call rfl ((ok_p_read_keys T).mono (by omega)) hr rfl T.x_p_read_keys.m T.x_p_read_keys.F.kp T.x_p_read_keys.b pass0 (sa_of rfl (.cons (se_idx rfl (se_var 3 rfl (pv 3)) (se_var 9 rfl (pv 9)) (fun _ _ => rfl)) rfl (.cons (se_idx rfl (se_var 4 rfl (pv 4)) (se_var 9 rfl (pv 9)) (fun _ _ => rfl)) rfl .nil))) rfl) (nomark _))))) (ss_one (ss_ret (se_c rfl pe_bl))) ss_nil))))))))))))))
    (ss_one (ss_ret (se_c rfl pe_bl))))
  exact h
end
end My
namespace Mi
open PySem L2
theorem drop_len {α : Type} (xs ys : List α) (k : Nat) (h : xs.length=k) : (xs++ys).drop k=ys:=by subst h; simp
theorem take_len {α : Type} (xs ys : List α) (k : Nat) (h : xs.length=k) : (xs++ys).take k=xs:=by subst h; simp
theorem allSome_map : ∀ ds : List D,allSome (ds.map some)=some ds
  | [] => rfl
  | d :: ds => by simp [allSome,allSome_map ds]
theorem bools_map (ds : List D) (g : D→Bool) : boolsD (ds.map fun d => .bool (g d))=some (ds.map g):=by
  induction ds with
  | nil => rfl
  | cons d ds ih => simp [boolsD,ih]
theorem callK_pure {t : D} {ts : List D} {n' : Nat} {s : Stt} : callK (.ok t ts n') ts s=.ok t { s with n:=n' }:=by
  unfold callK; simp
end Mi
set_option maxHeartbeats 40000
namespace Mi
open PySem L2
structure Kq {α : Type} (f : α) : Type where
noncomputable def Res.bnd {α β : Type} (r : Res α) (f : α→Stt→Res β) (_ : Kq f:=⟨⟩) : Res β:=match r with
  | .ok a s => f a s
  | .ex d s => .ex d s
  | .no => .no
theorem bnd_ok {α β : Type} {a : α} {s : Stt} {f : α→Stt→Res β} : ((Res.ok a s).bnd f : Res β)=f a s:=(rfl)
theorem bnd_ex {α β : Type} {d : D} {s : Stt} {f : α→Stt→Res β} : ((Res.ex d s : Res α).bnd f : Res β)=.ex d s:=(rfl)
theorem bnd_no {α β : Type} {f : α→Stt→Res β} : ((Res.no : Res α).bnd f : Res β)=.no:=(rfl)
noncomputable def Res.lf {α : Type} (r : Res α) (f : α→MS) (_ : Kq f:=⟨⟩) : RS:=match r with
  | .ok a s => f a s
  | .ex d s => .ex d s
  | .no => .no
theorem lf_ok {α : Type} {a : α} {s : Stt} {f : α→MS} : ((Res.ok a s).lf f : RS)=f a s:=(rfl)
theorem lf_no {α : Type} {f : α→MS} : ((Res.no : Res α).lf f : RS)=.no:=(rfl)
noncomputable def RS.sq (r : RS) (m : MS) (_ : Kq m:=⟨⟩) : RS:=match r with
  | .nx s => m s
  | r => r
theorem sq_nx {s : Stt} {m : MS} : ((RS.nx s).sq m : RS)=m s:=(rfl)
theorem sq_rt {d : D} {s : Stt} {m : MS} : ((RS.rt d s).sq m : RS)=.rt d s:=(rfl)
theorem sq_bk {s : Stt} {m : MS} : ((RS.bk s).sq m : RS)=.bk s:=(rfl)
theorem sq_ct {s : Stt} {m : MS} : ((RS.ct s).sq m : RS)=.ct s:=(rfl)
theorem sq_no {m : MS} : (RS.no.sq m : RS)=.no:=(rfl)
noncomputable def RS.fin (r : RS) : RF:=match r with
  | .nx s' => match allSome s'.tm with | some ts' => .ok .non ts' s'.n | none => .no
  | .rt t s' => match allSome s'.tm with | some ts' => .ok t ts' s'.n | none => .no
  | .ex d s' => match allSome s'.tm with | some ts' => .ex d ts' s'.n | none => .no
  | _ => .no
noncomputable def finO (o : Option (List D)) (t : D) (n : Nat) : RF:=match o with | some ts => .ok t ts n | none => .no
theorem finO_some {ts : List D} {t : D} {n : Nat} : finO (some ts) t n=.ok t ts n:=(rfl)
theorem fn_rt {t : D} {σ tm : List (Option D)} {n : Nat} : (RS.rt t ⟨σ,tm,n⟩).fin=finO (allSome tm) t n:=(rfl)
theorem fn_nx {σ tm : List (Option D)} {n : Nat} : (RS.nx ⟨σ,tm,n⟩).fin=finO (allSome tm) .non n:=(rfl)
theorem x_run {nl : Nat} {mb : MS} {ts : List D} {n : Nat} : runF nl mb ts n=(mb ⟨ts.map some++List.replicate (nl - ts.length) none,ts.map some,n⟩).fin:=(rfl)
section
variable {α β : Type} {m ma mb mc : M D} {s : Stt} {ms : List (M D)} {σ tm : List (Option D)} {n : Nat}
theorem x_bd {m : M α} {f : α→M β} : bd m f s=(m s).bnd f:=(rfl)
theorem x_rt {a : α} : rt a s=.ok a s:=(rfl)
theorem x_fl : (fl : M α) s=.no:=(rfl)
theorem x_psh {t : D} : psh t s=.ok () (s.psh t):=(rfl)
theorem x_pshs {t : D} : Stt.psh ⟨σ,tm,n⟩ t=⟨σ,some t :: tm,n⟩:=(rfl)
theorem x_nxt : Stt.nxt ⟨σ,tm,n⟩=⟨σ,tm,n+1⟩:=(rfl)
theorem x_pop {t : D} {r : List (Option D)} : pop ⟨σ,some t :: r,n⟩=.ok t ⟨σ,r,n⟩:=(rfl)
noncomputable def vOf (o : Option (Option D)) (s : Stt) : Res D:=match o with
  | some (some t) => .ok t s
  | _ => .no
theorem vOf_some {t : D} : vOf (some (some t)) s=.ok t s:=(rfl)
theorem x_var {i : Nat} : mVar i ⟨σ,tm,n⟩=vOf (σ[i]?) ⟨σ,tm,n⟩:=by
  unfold mVar vOf
  cases σ[i]? with
  | none => rfl
  | some o => cases o <;> rfl
theorem x_C {d : D} : mC d s=.ok d s:=(rfl)
theorem x_bin {g : D→D→M D} : mBin ma mb g s=(ma s).bnd fun x s1 => (mb (s1.psh x)).bnd fun y s2 => (pop s2).bnd fun x' s3 => g x' y s3:=(rfl)
theorem x_boo : mBoo m s=(m s).bnd booD:=(rfl)
theorem x_booD {b : Bool} : booD (.bool b) s=.ok b s:=(rfl)
theorem x_test : mTest m s=(m s).bnd truD:=(rfl)
theorem x_tB {b : Bool} : truD (.bool b) s=.ok b s:=(rfl)
theorem x_tI {i : Int} : truD (.int i) s=.ok (i != 0) s:=(rfl)
theorem x_tT {ds : List D} : truD (.tup ds) s=.ok (!ds.isEmpty) s:=(rfl)
theorem x_tL {l : Nat} {ds : List D} : truD (.lst l ds) s=.ok (!ds.isEmpty) s:=(rfl)
theorem x_and {m m' : M Bool} : mAnd m m' s=(m s).bnd fun b => iteM b m' (rt false):=(rfl)
theorem x_or {m m' : M Bool} : mOr m m' s=(m s).bnd fun b => iteM b (rt true) m':=(rfl)
theorem x_not {m : M Bool} : mNot m s=(m s).bnd fun b s1 => .ok (!b) s1:=(rfl)
theorem x_andV {m m' : M D} : mAndV m m' s=(m s).bnd fun d s1 => (booD d s1).bnd fun b => iteM b m' (rt (.bool false)):=by
  unfold mAndV mBoo bd Res.bnd
  cases m s <;> rfl
theorem x_orV {m m' : M D} : mOrV m m' s=(m s).bnd fun d s1 => (booD d s1).bnd fun b => iteM b (rt (.bool true)) m':=by
  unfold mOrV mBoo bd Res.bnd
  cases m s <;> rfl
theorem x_notV {m : M D} : mNotV m s=(m s).bnd fun d s1 => (booD d s1).bnd fun b => rt (.bool (!b)):=by
  unfold mNotV mBoo bd Res.bnd
  cases m s <;> rfl
theorem x_mif {c : M Bool} {m m' : M D} : mIf c m m' s=(c s).bnd fun b => iteM b m m':=(rfl)
theorem x_it {m m' : M α} : iteM true m m' s=m s:=(rfl)
theorem x_if {m m' : M α} : iteM false m m' s=m' s:=(rfl)
theorem x_args0 : mArgs [] s=.ok [] s:=(rfl)
theorem x_args1 : mArgs (m :: ms) s=(m s).bnd fun x s1 => (mArgs ms (s1.psh x)).bnd fun ys s2 => (pop s2).bnd fun x' s3 => .ok (x' :: ys) s3:=(rfl)
theorem x_cb {g : List D→M D} : mCB ms g s=(mArgs ms s).bnd g:=(rfl)
theorem x_call {f : FM} : mCall f ms s=(mArgs ms s).bnd fun ts s1 => callK (f ts s1.n) ts s1:=(rfl)
noncomputable def isiK (o : Option Bool) (s : Stt) : Res D:=match o with
  | some b => .ok (.bool b) s
  | none => .no
theorem isiK_some {b : Bool} : isiK (some b) s=.ok (.bool b) s:=(rfl)
theorem x_isi {T : String} : mIsi T m s=(m s).bnd fun d s1 => isiK (isiD T d) s1:=by
  unfold mIsi bd Res.bnd isiK
  cases m s with
  | ok d s1 => dsimp only; cases isiD T d <;> rfl
  | ex d s1 => rfl
  | no => rfl
theorem x_isiT {Ts : List String} : mIsiT Ts m s=(m s).bnd fun d s1 => isiK (isiAny Ts d) s1:=by
  unfold mIsiT bd Res.bnd isiK
  cases m s with
  | ok d s1 => dsimp only; cases isiAny Ts d <;> rfl
  | ex d s1 => rfl
  | no => rfl
theorem x_chain {g g' : D→D→M D} : mChain ma mb mc g g' s=(ma s).bnd fun x s1 => (mb (s1.psh x)).bnd fun y s2 => (pop s2).bnd fun x' s3 => flatM y (bd (mBoo (g x' y)) fun k => iteM k (bd mc fun z => g' y z) (rt (.bool false))) s3:=(rfl)
theorem x_flI {i : Int} {m : M D} : flatM (.int i) m s=m s:=(rfl)
noncomputable def intK (o : Option Int) (s : Stt) : Res (Option Int):=match o with
  | some i => .ok (some i) s
  | none => .no
theorem intK_some {i : Int} : intK (some i) s=.ok (some i) s:=(rfl)
theorem x_part0 : mPart none s=.ok none s:=(rfl)
theorem x_part1 : mPart (some m) s=(m s).bnd fun d s1 => intK (mInt d) s1:=by
  show bd m (fun d => match mInt d with | some i => rt (some i) | none => fl) s=_
  unfold bd Res.bnd
  cases m s with
  | ok d s1 => show (match mInt d with | some i => rt (some i) | none => fl : M (Option Int)) s1=intK (mInt d) s1; cases mInt d <;> rfl
  | ex d s1 => rfl
  | no => rfl
theorem x_mInt {i : Int} : mInt (.int i)=some i:=(rfl)
theorem x_sl {lo hi : Option (M D)} : mSl m lo hi s=(m s).bnd fun x s1 => (mPart lo (s1.psh x)).bnd fun l s2 => (mPart hi s2).bnd fun h s3 => (pop s3).bnd fun x' s4 => slD x' l h s4:=(rfl)
theorem y_addI {i j : Int} : addD (.int i) (.int j) s=.ok (.int (i+j)) s:=(rfl)
theorem y_addT {a b : List D} (h : a.length+b.length≤sizeLine) : addD (.tup a) (.tup b) s=.ok (.tup (a++b)) s:=by simp only [addD,if_pos h]; rfl
theorem y_addL {k l : Nat} {a b : List D} (h : a.length+b.length≤sizeLine) : addD (.lst k a) (.lst l b) s=.ok (.lst s.n (a++b)) s.nxt:=by simp only [addD,if_pos h]; rfl
theorem y_sub {i j : Int} : subD (.int i) (.int j) s=.ok (.int (i - j)) s:=(rfl)
theorem y_mul {i j : Int} (h : CMul i j) : mulD (.int i) (.int j) s=.ok (.int (i * j)) s:=by simp only [mulD,if_pos h]; rfl
theorem y_fdiv {i j : Int} (h : CDiv i j) : fdivD (.int i) (.int j) s=.ok (.int (i / j)) s:=by simp only [fdivD,if_pos h]; rfl
theorem y_mod {i j : Int} (h : 0 < j) : modD (.int i) (.int j) s=.ok (.int (i % j)) s:=by simp only [modD,if_pos h]; rfl
theorem y_pow {i j : Int} (h : CPow i j) : powD (.int i) (.int j) s=.ok (.int (i ^ j.toNat)) s:=by simp only [powD,if_pos h]; rfl
theorem y_lt {i j : Int} : ltD (.int i) (.int j) s=.ok (.bool (decide (i < j))) s:=(rfl)
theorem y_le {i j : Int} : leD (.int i) (.int j) s=.ok (.bool (decide (i≤j))) s:=(rfl)
theorem y_gt {i j : Int} : gtD (.int i) (.int j) s=.ok (.bool (decide (j < i))) s:=(rfl)
theorem y_ge {i j : Int} : geD (.int i) (.int j) s=.ok (.bool (decide (j≤i))) s:=(rfl)
theorem y_neg {i : Int} : negD (.int i) s=.ok (.int (-i)) s:=(rfl)
theorem y_eq {t t' : D} (h : eqC t t'=true) : eqD t t' s=.ok (.bool (PyData.eqv (er t) (er t'))) s:=by simp only [eqD,if_pos h]; rfl
theorem y_ne {t t' : D} (h : eqC t t'=true) : neD t t' s=.ok (.bool (!PyData.eqv (er t) (er t'))) s:=by simp only [neD,if_pos h]; rfl
theorem y_ixT {ds : List D} {i : Int} : ixD (.tup ds) (.int i) s=optM (atI ds i) s:=(rfl)
theorem y_ixL {l : Nat} {ds : List D} {i : Int} : ixD (.lst l ds) (.int i) s=optM (atI ds i) s:=(rfl)
theorem y_ixR {ds : List D} {i : Int} : ixD (.ro ds) (.int i) s=optM (atI ds i) s:=(rfl)
theorem y_opt {d : D} : optM (some d) s=.ok d s:=(rfl)
theorem y_slT {ds : List D} {lo hi : Option Int} : slD (.tup ds) lo hi s=.ok (.tup (cutA ds lo hi)) s:=(rfl)
theorem y_slL {l : Nat} {ds : List D} {lo hi : Option Int} : slD (.lst l ds) lo hi s=.ok (.lst s.n (cutA ds lo hi)) s.nxt:=(rfl)
theorem y_tup {ts : List D} (h : ts.length≤sizeLine) : tupD ts s=.ok (.tup ts) s:=by simp only [tupD,if_pos h]; rfl
theorem y_lst {ts : List D} (h : ts.length≤sizeLine) : lstM ts s=.ok (.lst s.n ts) s.nxt:=by simp only [lstM,if_pos h]; rfl
theorem y_lenT {ds : List D} : lenD [.tup ds] s=.ok (.int ds.length) s:=(rfl)
theorem y_lenL {l : Nat} {ds : List D} : lenD [.lst l ds] s=.ok (.int ds.length) s:=(rfl)
theorem y_lenR {ds : List D} : lenD [.ro ds] s=.ok (.int ds.length) s:=(rfl)
theorem y_abs {i : Int} : absD [.int i] s=.ok (.int (if i < 0 then -i else i)) s:=(rfl)
theorem y_min {i j : Int} : minD [.int i,.int j] s=.ok (.int (if j < i then j else i)) s:=(rfl)
theorem y_max {i j : Int} : maxD [.int i,.int j] s=.ok (.int (if j > i then j else i)) s:=(rfl)
theorem y_int {i : Int} : intD [.int i] s=.ok (.int i) s:=(rfl)
theorem y_intB {b : Bool} : intD [.bool b] s=.ok (.int (if b then 1 else 0)) s:=(rfl)
theorem y_tupT {ds : List D} : tupF [.tup ds] s=.ok (.tup ds) s:=(rfl)
theorem y_tupL {l : Nat} {ds : List D} : tupF [.lst l ds] s=.ok (.tup ds) s:=(rfl)
theorem y_listT {ds : List D} : listF [.tup ds] s=.ok (.lst s.n ds) s.nxt:=(rfl)
theorem y_listL {l : Nat} {ds : List D} : listF [.lst l ds] s=.ok (.lst s.n ds) s.nxt:=(rfl)
theorem y_all {l : Nat} {ds : List D} {bs : List Bool} (h : boolsD ds=some bs) : allD [.lst l ds] s=.ok (.bool (bs.all id)) s:=by simp only [allD,h]; rfl
theorem y_any {l : Nat} {ds : List D} {bs : List Bool} (h : boolsD ds=some bs) : anyD [.lst l ds] s=.ok (.bool (bs.any id)) s:=by simp only [anyD,h]; rfl
theorem x_seq {a b : MS} : seqS a b s=(a s).sq b:=by
  unfold seqS RS.sq
  cases a s <;> rfl
theorem x_lift {m : M α} {f : α→MS} : lift m f s=(m s).lf f:=(rfl)
theorem x_sNx : sNx s=.nx s:=(rfl)
theorem x_sBk : sBk s=.bk s:=(rfl)
theorem x_sCt : sCt s=.ct s:=(rfl)
theorem x_sRet : sRet m s=(m s).lf fun d s1 => .rt d s1:=(rfl)
theorem x_sRetN : sRetN s=.rt .non s:=(rfl)
theorem x_sExpr : sExpr m s=(m s).lf fun _ s1 => .nx s1:=(rfl)
theorem x_sIf {c : M Bool} {a b : MS} : sIf c a b s=(c s).lf fun k => iteS k a b:=(rfl)
theorem x_sT {a b : MS} : iteS true a b s=a s:=(rfl)
theorem x_sF {a b : MS} : iteS false a b s=b s:=(rfl)
noncomputable def asgK (o : Option (List (Option D))) (s : Stt) : RS:=match o with
  | some σ' => .nx { s with σ:=σ' }
  | none => .no
theorem asgK_some {σ' : List (Option D)} : asgK (some σ') ⟨σ,tm,n⟩=.nx ⟨σ',tm,n⟩:=(rfl)
theorem x_asg {g : Tg} : sAsg g m s=(m s).lf fun d s1 => asgK (asg g d s1.σ) s1:=by
  unfold sAsg lift Res.lf asgK
  cases m s with
  | ok d s1 => first | (dsimp only; cases asg g d s1.σ <;> rfl) | (dsimp only; done) | rfl
  | ex d s1 => rfl
  | no => rfl
theorem x_tri {me mo mi : M D} {g : D→D→D→MS} : mTri me mo mi g s=(me s).lf fun v s1 => (mo (s1.psh v)).lf fun o s2 => (mi (s2.psh o)).lf fun i s3 => (pop s3).lf fun o' s4 => (pop s4).lf fun v' s5 => g o' i v' s5:=(rfl)
theorem y_set {l : Nat} {ds : List D} {k : Int} {v : D} {j : Nat} (e : ixN ds.length k=some j) (h : l ∉ labs v) : setD (.lst l ds) (.int k) v s=.nx (s.put l (.lst l (ds.set j v))):=by simp only [setD,e,if_pos h]
theorem x_meth {mo : M D} {g : D→List D→M D} : mMeth mo ms g s=(mo s).bnd fun x s1 => (isL x s1).bnd fun _ s2 => (mArgs ms (s2.psh x)).bnd fun ys s3 => (pop s3).bnd fun x' s4 => g x' ys s4:=(rfl)
theorem x_isL {l : Nat} {ds : List D} : isL (.lst l ds) s=.ok () s:=(rfl)
theorem y_app {l : Nat} {ds : List D} {y : D} (h : ds.length < sizeLine∧l ∉ labs y) : appD (.lst l ds) [y] s=.ok .non (s.put l (.lst l (ds++[y]))):=by simp only [appD,if_pos h]
end
theorem at_nat {α : Type} {xs : List α} {i : Int} {d : α} (h0 : 0≤i) (h : xs[i.toNat]?=some d) : atI xs i=some d:=by
  obtain ⟨j,rfl⟩:=Int.eq_ofNat_of_zero_le h0
  exact atI_nat (by simpa using h)
end Mi
set_option maxHeartbeats 400000
namespace Mi
open PySem L2
noncomputable def pl (l : Nat) (d : D) : Nat→Option D:=fun k => if k=l then some d else none
theorem put_pl {σ tm : List (Option D)} {n l : Nat} {d : D} : Stt.put ⟨σ,tm,n⟩ l d=⟨rpO (pl l d) σ,rpO (pl l d) tm,n⟩:=(rfl)
theorem rp_fresh {l : Nat} {d t : D} (h : l ∉ labs t) : rp (pl l d) t=t:=rp_id t fun k hk => by
  unfold pl; rw [if_neg]; intro e; subst e; exact h hk
theorem rpO_nil {f : Nat→Option D} : rpO f []=[]:=(rfl)
theorem rpO_none {f : Nat→Option D} {r : List (Option D)} : rpO f (none :: r)=none :: rpO f r:=(rfl)
theorem rpO_some {f : Nat→Option D} {d : D} {r : List (Option D)} : rpO f (some d :: r)=some (rp f d) :: rpO f r:=(rfl)
theorem rp_bag {l : Nat} {d : D} {b : List D} : rp (pl l d) (.lst l b)=d:=by simp only [rp,pl,if_true]
theorem rp_int {f : Nat→Option D} {i : Int} : rp f (.int i)=.int i:=(rfl)
theorem rp_str {f : Nat→Option D} {i : Str} : rp f (.str i)=.str i:=(rfl)
theorem rp_bool {f : Nat→Option D} {i : Bool} : rp f (.bool i)=.bool i:=(rfl)
theorem rp_non {f : Nat→Option D} : rp f .non=.non:=(rfl)
theorem rp_tup {f : Nat→Option D} {ds : List D} : rp f (.tup ds)=.tup (rpL f ds):=(rfl)
theorem rpL_nil {f : Nat→Option D} : rpL f []=[]:=(rfl)
theorem rpL_cons {f : Nat→Option D} {d : D} {ds : List D} : rpL f (d :: ds)=rp f d :: rpL f ds:=(rfl)
mutual
theorem findT_none {l : Nat} : ∀ t : D,l ∉ labs t→findT l t=none
  | .non,_ => rfl
  | .bool _,_ => rfl
  | .int _,_ => rfl
  | .str _,_ => rfl
  | .exc _,_ => rfl
  | .fn _,_ => rfl
  | .tup ds,h => by simp only [labs] at h; simp only [findT]; exact findL_none ds h
  | .ro ds,h => by simp only [labs] at h; simp only [findT]; exact findL_none ds h
  | .fdc ks ds,h => by simp only [labs] at h; simp only [findT]; exact findL_none ds h
  | .lst k ds,h => by
    simp only [labs,List.mem_cons,not_or] at h; simp only [findT]; rw [if_neg fun e => h.1 e.symm]; exact findL_none ds h.2
  | .dct k ks ds,h => by
    simp only [labs,List.mem_cons,List.mem_append,not_or] at h; simp only [findT]; rw [if_neg fun e => h.1 e.symm]; exact findL_none ds h.2.2
  | .obj k c ks ds,h => by
    simp only [labs,List.mem_cons,not_or] at h; simp only [findT]; rw [if_neg fun e => h.1 e.symm]; exact findL_none ds h.2
theorem findL_none {l : Nat} : ∀ t : List D,l ∉ labsL t→findL l t=none
  | [],_ => rfl
  | d :: ds,h => by
    simp only [labsL,List.mem_append,not_or] at h
    simp only [findL,findT_none d h.1,findL_none ds h.2]
end
theorem callK_bag {t : D} {l n' n : Nat} {b b' r : List D} {σ tm : List (Option D)} (hb : labsL b=[]) (hb' : labsL b'=[]) (hr : labsL r=[]) (f1 : rpO (pl l (.lst l b)) σ=σ) (f2 : rpO (pl l (.lst l b)) tm=tm) :
    callK (.ok t (.lst l b' :: r) n') (.lst l b :: r) ⟨σ,tm,n⟩=.ok t ⟨rpO (pl l (.lst l b')) σ,rpO (pl l (.lst l b')) tm,n'⟩:=by
  have e : (fun k => findL k (.lst l b' :: r))=pl l (.lst l b'):=by
    funext k
    simp only [findL,findT,pl]
    by_cases h : l=k
    · subst h; rw [if_pos rfl,if_pos rfl]
    · rw [if_neg h,if_neg fun q => h q.symm,findL_none b' (by rw [hb']; exact List.not_mem_nil),findL_none r (by rw [hr]; exact List.not_mem_nil)]
  unfold callK
  by_cases h : (D.lst l b' :: r)=(D.lst l b :: r)
  · have hh : b'=b:=by injection h with h _; injection h
    subst hh
    simp only [if_true]
    rw [f1,f2]
  · simp only [if_neg h]
    rw [if_pos,e]
    intro k _ hk
    simp only [labsL,labs,hb,hr,List.append_nil,List.mem_singleton] at hk
    subst hk
    have:=congrFun e k
    rw [show findL k (D.lst k b' :: r)=pl k (D.lst k b') k from this]; simp [pl]
end Mi
namespace Mi
open PySem L2
theorem x_for {mi : M ItK} {g : Tg} {b : MS} {s : Stt} : sFor mi g b s=(mi s).lf fun K s => forGo K g b (K.len s.tm) 0 s:=(rfl)
theorem x_rng1 {ms : List (M D)} {s : Stt} : mRng1 ms s=(mArgs ms s).bnd rng1:=(rfl)
theorem y_rng1 {j : Int} {s : Stt} (h : -(2 ^ 62)≤j∧j < 2 ^ 62) : rng1 [.int j] s=.ok (kRng 0 j.toNat) s:=by simp only [rng1,if_pos h]; rfl
theorem x_rlen {lo : Int} {N : Nat} {tm : List (Option D)} : (kRng lo N).len tm=N:=(rfl)
theorem for_rng {P : Nat→Stt→Prop} {lo : Int} {N : Nat} {g : Tg} {b : MS}
    (body : ∀ i,i < N→∀ s,P i s→∃ σ',asg g (.int (lo+i)) s.σ=some σ'∧∃ s',b { s with σ:=σ' }=.nx s'∧P (i+1) s') :
    ∀ (f i : Nat) (s : Stt),i+f=N→P i s→∃ s',forGo (kRng lo N) g b f i s=.nx s'∧P N s':=by
  intro f
  induction f with
  | zero =>
    intro i s hi h
    have e : i=N:=by omega
    subst e
    refine ⟨s,?_,h⟩
    unfold forGo
    simp only [kRng,Nat.lt_irrefl,if_false]
    rfl
  | succ f ih =>
    intro i s hi h
    have hl : i < N:=by omega
    obtain ⟨σ',e1,s',e2,h'⟩:=body i hl s h
    obtain ⟨s2,e3,h2⟩:=ih (i+1) s' (by omega) h'
    refine ⟨s2,?_,h2⟩
    unfold forGo
    simp only [kRng,if_pos hl,e1,e2]
    exact e3
mutual
theorem rp_rp {l : Nat} {b : List D} {d : D} : ∀ t : D,rp (pl l d) (rp (pl l (.lst l b)) t)=rp (pl l d) t
  | .non => rfl
  | .bool _ => rfl
  | .int _ => rfl
  | .str _ => rfl
  | .exc _ => rfl
  | .fn _ => rfl
  | .tup ds => by simp only [rp]; rw [rpL_rp ds]
  | .ro ds => by simp only [rp]; rw [rpL_rp ds]
  | .fdc ks ds => by simp only [rp]; rw [rpL_rp ds]
  | .lst k ds => by
    by_cases h : k=l
    · subst h; simp only [rp,pl,if_true]
    · have e : ∀ x,pl l x k=none:=fun x => by simp only [pl,if_neg h]
      simp only [rp,e]; rw [rpL_rp ds]
  | .dct k ks ds => by
    by_cases h : k=l
    · subst h; simp only [rp,pl,if_true]
    · have e : ∀ x,pl l x k=none:=fun x => by simp only [pl,if_neg h]
      simp only [rp,e]; rw [rpL_rp ds]
  | .obj k c ks ds => by
    by_cases h : k=l
    · subst h; simp only [rp,pl,if_true]
    · have e : ∀ x,pl l x k=none:=fun x => by simp only [pl,if_neg h]
      simp only [rp,e]; rw [rpL_rp ds]
theorem rpL_rp {l : Nat} {b : List D} {d : D} : ∀ t : List D,rpL (pl l d) (rpL (pl l (.lst l b)) t)=rpL (pl l d) t
  | [] => rfl
  | t :: ts => by simp only [rpL]; rw [rp_rp t,rpL_rp ts]
end
theorem rpO_rp {l : Nat} {b : List D} {d : D} : ∀ t : List (Option D),rpO (pl l d) (rpO (pl l (.lst l b)) t)=rpO (pl l d) t
  | [] => rfl
  | none :: ts => by simp only [rpO]; rw [rpO_rp ts]
  | some t :: ts => by simp only [rpO]; rw [rp_rp t,rpO_rp ts]
theorem rpO_app {f : Nat→Option D} : ∀ (a b : List (Option D)),rpO f (a++b)=rpO f a++rpO f b
  | [],b => rfl
  | none :: a,b => by simp only [List.cons_append,rpO,rpO_app a b]
  | some d :: a,b => by simp only [List.cons_append,rpO,rpO_app a b]
theorem rpO_len {f : Nat→Option D} : ∀ (a : List (Option D)),(rpO f a).length=a.length
  | [] => rfl
  | none :: a => by simp only [rpO,List.length_cons,rpO_len a]
  | some d :: a => by simp only [rpO,List.length_cons,rpO_len a]
theorem labsO_map : ∀ ds : List D,labsO (ds.map some)=labsL ds
  | [] => rfl
  | d :: ds => by simp only [List.map_cons,labsO,labsL,labsO_map ds]
theorem labsL_app : ∀ a b : List D,labsL (a++b)=labsL a++labsL b
  | [],b => rfl
  | d :: ds,b => by simp only [List.cons_append,labsL,labsL_app ds b,List.append_assoc]
theorem mem_rev {l : Nat} : ∀ ds : List D,l∈labsL ds.reverse↔l∈labsL ds
  | [] => Iff.rfl
  | d :: ds => by simp only [List.reverse_cons,labsL_app,labsL,List.mem_append,mem_rev ds,List.append_nil]; exact Or.comm
theorem rpO_fresh {l : Nat} {d : D} {ds : List D} (h : l ∉ labsL ds) : rpO (pl l d) (ds.reverse.map some)=ds.reverse.map some:=rpO_id _ fun k hk => by
  rw [labsO_map,mem_rev] at hk
  unfold pl; rw [if_neg]; intro e; subst e; exact h hk
theorem compGo_rng {me : M D} {N : Nat} {cap σ0 tm0 : List (Option D)} {l ol : Nat} {Bg : List D→Prop} {Q : Nat→D→Prop} (mono : ∀ a b,a≤b→∀ y,Q a y→Q b y) (hol : σ0.length=ol) (hz : N < sizeLine)
    (hme : ∀ i,i < N→∀ b tm n,Bg b→l < n→rpO (pl l (.lst l b)) tm=tm→∃ y b' n',Bg b'∧Q n' y∧n≤n'∧l ∉ labs y∧me ⟨some (.int (0+(i : Nat))) :: rpO (pl l (.lst l b)) cap,tm,n⟩=.ok y ⟨some (.int (0+(i : Nat))) :: rpO (pl l (.lst l b')) cap,rpO (pl l (.lst l b')) tm,n'⟩) :
    ∀ (f : Nat) (acc : List D) (o : Option D) (b : List D) (n : Nat),acc.length+f=N→Bg b→l < n→(∀ y∈acc,Q n y)→l ∉ labsL acc →
      ∃ ys b' n',ys.length=N∧(∀ y∈ys,Q n' y)∧l ∉ labsL ys∧Bg b'∧n≤n' ∧
        compGo (kRng 0 N) (.nm 0) (rt true) me ol f acc.length acc.length ⟨o :: rpO (pl l (.lst l b)) cap,(acc.reverse.map some)++(rpO (pl l (.lst l b)) σ0++rpO (pl l (.lst l b)) tm0),n⟩=.ok (.lst n' ys) ⟨rpO (pl l (.lst l b')) σ0,rpO (pl l (.lst l b')) tm0,n'+1⟩:=by
  intro f
  induction f with
  | zero =>
    intro acc o b n hi hb hn hq hf
    have hi : acc.length=N:=by omega
    refine ⟨acc,b,n,hi,hq,hf,hb,Nat.le_refl _,?_⟩
    have l1 : (acc.reverse.map some).length=acc.length:=by simp
    unfold compGo
    simp only [kRng,hi,Nat.lt_irrefl,if_false]
    rw [← hi,take_len _ _ _ l1]
    have e2 : (acc.reverse.map some).reverse=acc.map some:=by simp
    rw [e2,allSome_map]
    simp only [Res.ok.injEq,true_and,Stt.mk.injEq,and_true]
    constructor
    · rw [drop_len _ _ _ l1,take_len _ _ _ (by rw [rpO_len]; exact hol)]
    · rw [← List.append_assoc,Nat.add_zero]
      exact drop_len _ _ _ (by simp [rpO_len,hol])
  | succ f ih =>
    intro acc o b n hi hb hn hq hf
    have hlt : acc.length < N:=by omega
    unfold compGo
    simp only [kRng,if_pos hlt,asg,List.set_cons_zero,rt]
    rw [if_pos (by omega)]
    obtain ⟨y,b',n',h1,h2,h3,h4,h5⟩:=hme acc.length hlt b ((acc.reverse.map some)++(rpO (pl l (.lst l b)) σ0++rpO (pl l (.lst l b)) tm0)) n hb hn (by rw [rpO_app,rpO_app,rpO_rp,rpO_rp,rpO_fresh hf])
    rw [h5]
    obtain ⟨ys,b2,n2,g1,g2,g3,g4,g5,g6⟩:=ih (acc++[y]) (some (.int (0+(acc.length : Nat)))) b' n' (by simp; omega) h1 (by omega) (by
      intro z hz
      rcases List.mem_append.mp hz with hz | hz
      · exact mono _ _ h3 z (hq z hz)
      · rw [List.mem_singleton.mp hz]; exact h2) (by
      rw [labsL_app]
      simp only [labsL,List.append_nil,List.mem_append,not_or]
      exact ⟨hf,h4⟩)
    refine ⟨ys,b2,n2,g1,g2,g3,g4,by omega,?_⟩
    rw [← g6]
    simp only [Stt.psh,rpO_app,rpO_rp,rpO_fresh hf,List.length_append,List.length_cons,List.length_nil,Nat.zero_add,List.reverse_append,List.reverse_cons,List.reverse_nil,List.nil_append,List.map_append,List.map_cons,List.map_nil,List.cons_append]
    rfl
theorem mComp_rng {ms : List (M D)} {me : M D} {N : Nat} {ix : List Nat} {s : Stt} {l n : Nat} {j : Int} {σ0 tm0 : List (Option D)} {b : List D} {Bg : List D→Prop} {Q : Nat→D→Prop} (mono : ∀ a b,a≤b→∀ y,Q a y→Q b y) (hms : mArgs ms s=.ok [.int j] ⟨σ0,tm0,n⟩) (hj : j.toNat=N) (hj' : -(2 ^ 62)≤j∧j < 2 ^ 62) (hz : N < sizeLine)
    (hb : Bg b) (hn : l < n) (f1 : rpO (pl l (.lst l b)) σ0=σ0) (f2 : rpO (pl l (.lst l b)) tm0=tm0) (f3 : rpO (pl l (.lst l b)) (ix.map fun i => (σ0[i]?).getD none)=ix.map fun i => (σ0[i]?).getD none)
    (hme : ∀ i,i < N→∀ b tm n,Bg b→l < n→rpO (pl l (.lst l b)) tm=tm→∃ y b' n',Bg b'∧Q n' y∧n≤n'∧l ∉ labs y∧me ⟨some (.int (0+(i : Nat))) :: rpO (pl l (.lst l b)) (ix.map fun i => (σ0[i]?).getD none),tm,n⟩=.ok y ⟨some (.int (0+(i : Nat))) :: rpO (pl l (.lst l b')) (ix.map fun i => (σ0[i]?).getD none),rpO (pl l (.lst l b')) tm,n'⟩) :
    ∃ ys b' n',ys.length=N∧(∀ y∈ys,Q n' y)∧l ∉ labsL ys∧Bg b'∧n≤n'∧mComp (mRng1 ms) (.nm 0) (rt true) me 1 ix s=.ok (.lst n' ys) ⟨rpO (pl l (.lst l b')) σ0,rpO (pl l (.lst l b')) tm0,n'+1⟩:=by
  obtain ⟨ys,b',n',h1,h2,h3,h4,h5,h6⟩:=compGo_rng (me:=me) (N:=N) (cap:=ix.map fun i => (σ0[i]?).getD none) (σ0:=σ0) (tm0:=tm0) (l:=l) (Bg:=Bg) (Q:=Q) mono rfl hz hme N [] none b n (by simp) hb hn (by intro y h; cases h) (by simp [labsL])
  refine ⟨ys,b',n',h1,h2,h3,h4,h5,?_⟩
  unfold mComp
  rw [x_bd,x_rng1,hms,bnd_ok,y_rng1 hj',bnd_ok,hj]
  rw [f1,f2,f3] at h6
  exact h6
end Mi
namespace Mi
open PySem L2
inductive All2 (Q : D→D→Prop) : List D→List D→Prop
  | nil : All2 Q [] []
  | cons {a b : D} {as bs : List D} : Q a b→All2 Q as bs→All2 Q (a :: as) (b :: bs)
theorem x_seqI {m : M D} {s : Stt} {l : Nat} {ds : List D} {σ tm : List (Option D)} {n : Nat} (h : m s=.ok (.lst l ds) ⟨σ,tm,n⟩) : mSeqI m s=.ok kLst ⟨σ,some (.lst l ds) :: tm,n⟩:=by
  unfold mSeqI; rw [x_bd,h]; rfl
end Mi
namespace Mi
open PySem L2
theorem compGo_gen {K : ItK} {mt : M Bool} {me : M D} {p : D→Bool} {g : D→D} {items : List D} {its fr σ0 tm0 : List (Option D)} {ol : Nat} (hk : its.length=K.k) (hol : σ0.length=ol) (hz : items.length < sizeLine) (hat : ∀ i rest,K.at' i (its++rest)=some items[i]?)
    (hmt : ∀ d∈items,∀ tm n,∃ n',n≤n'∧mt ⟨some d :: fr,tm,n⟩=.ok (p d) ⟨some d :: fr,tm,n'⟩)
    (hme : ∀ d∈items,p d=true→∀ tm n,∃ n',n≤n'∧me ⟨some d :: fr,tm,n⟩=.ok (g d) ⟨some d :: fr,tm,n'⟩) :
    ∀ (f i : Nat) (acc : List D) (o : Option D) (n : Nat),i+f=items.length→acc.length≤i→∃ n',n≤n'∧compGo K (.nm 0) mt me ol f i acc.length ⟨o :: fr,(acc.reverse.map some)++(σ0++(its++tm0)),n⟩=.ok (.lst n' (acc++((items.drop i).filter p).map g)) ⟨σ0,tm0,n'+1⟩:=by
  intro f
  induction f with
  | zero =>
    intro i acc o n hi ha
    have hi : i=items.length:=by omega
    refine ⟨n,Nat.le_refl _,?_⟩
    have l1 : (acc.reverse.map some).length=acc.length:=by simp
    have e1 : ((acc.reverse.map some)++(σ0++(its++tm0))).drop (acc.length+ol)=its++tm0:=by
      rw [← List.append_assoc]; exact drop_len _ _ _ (by simp [hol])
    unfold compGo
    simp only [e1,hat,List.getElem?_eq_none (show items.length≤i by omega)]
    rw [take_len _ _ _ l1]
    have e2 : (acc.reverse.map some).reverse=acc.map some:=by simp
    rw [e2,allSome_map]
    simp only [Res.ok.injEq,Stt.mk.injEq,and_true,List.drop_eq_nil_of_le (show items.length≤i by omega),List.filter_nil,List.map_nil,List.append_nil,true_and]
    constructor
    · rw [drop_len _ _ _ l1,take_len _ _ _ hol]
    · have : ((acc.reverse.map some)++(σ0++(its++tm0))).drop (acc.length+ol+K.k)=(((acc.reverse.map some)++(σ0++(its++tm0))).drop (acc.length+ol)).drop K.k:=by rw [List.drop_drop]
      rw [this,e1]
      exact drop_len _ _ _ hk
  | succ f ih =>
    intro i acc o n hi ha
    have hlt : i < items.length:=by omega
    have e1 : ((acc.reverse.map some)++(σ0++(its++tm0))).drop (acc.length+ol)=its++tm0:=by
      rw [← List.append_assoc]; exact drop_len _ _ _ (by simp [hol])
    obtain ⟨n1,hn1,h1⟩:=hmt items[i] (List.getElem_mem hlt) ((acc.reverse.map some)++(σ0++(its++tm0))) n
    rw [List.drop_eq_getElem_cons hlt,List.filter_cons]
    unfold compGo
    simp only [e1,hat,List.getElem?_eq_getElem hlt,asg,List.set_cons_zero,h1]
    cases hp : p items[i] with
    | false =>
      obtain ⟨n2,hn2,h2⟩:=ih (i+1) acc (some items[i]) n1 (by omega) (by omega)
      exact ⟨n2,by omega,h2⟩
    | true =>
      obtain ⟨n2,hn2,h2⟩:=hme items[i] (List.getElem_mem hlt) hp ((acc.reverse.map some)++(σ0++(its++tm0))) n1
      obtain ⟨n3,hn3,h3⟩:=ih (i+1) (acc++[g items[i]]) (some items[i]) n2 (by omega) (by simp; omega)
      refine ⟨n3,by omega,?_⟩
      simp only [if_pos (show acc.length < sizeLine by omega),h2]
      simp only [List.length_append,List.length_cons,List.length_nil,Nat.zero_add,List.reverse_append,List.reverse_cons,List.reverse_nil,List.nil_append,List.map_append,List.map_cons,List.map_nil,List.cons_append,List.append_assoc] at h3 ⊢
      exact h3
theorem mComp_gen {mi : M ItK} {K : ItK} {mt : M Bool} {me : M D} {p : D→Bool} {g : D→D} {items : List D} {its : List (Option D)} {ix : List Nat} {s : Stt} {σ tm : List (Option D)} {n : Nat} (hc : mi s=.ok K ⟨σ,its++tm,n⟩) (hk : its.length=K.k) (hz : items.length < sizeLine) (hat : ∀ i rest,K.at' i (its++rest)=some items[i]?) (hlen : K.len (its++tm)=items.length)
    (hmt : ∀ d∈items,∀ tm n,∃ n',n≤n'∧mt ⟨some d :: (ix.map fun i => (σ[i]?).getD none),tm,n⟩=.ok (p d) ⟨some d :: (ix.map fun i => (σ[i]?).getD none),tm,n'⟩)
    (hme : ∀ d∈items,p d=true→∀ tm n,∃ n',n≤n'∧me ⟨some d :: (ix.map fun i => (σ[i]?).getD none),tm,n⟩=.ok (g d) ⟨some d :: (ix.map fun i => (σ[i]?).getD none),tm,n'⟩) :
    ∃ n',n≤n'∧mComp mi (.nm 0) mt me 1 ix s=.ok (.lst n' ((items.filter p).map g)) ⟨σ,tm,n'+1⟩:=by
  obtain ⟨n',h2,h3⟩:=compGo_gen (K:=K) (mt:=mt) (me:=me) (σ0:=σ) (tm0:=tm) hk rfl hz hat hmt hme items.length 0 [] none n (by simp) (by simp)
  refine ⟨n',h2,?_⟩
  unfold mComp
  simp only [bd,hc,hlen]
  simp only [List.map_nil,List.reverse_nil,List.nil_append,List.length_nil,List.drop_zero] at h3
  exact h3
theorem mComp_lstG {mc : M D} {mt : M Bool} {me : M D} {p : D→Bool} {g : D→D} {l : Nat} {ds : List D} {ix : List Nat} {s : Stt} {σ tm : List (Option D)} {n : Nat} (hc : mc s=.ok (.lst l ds) ⟨σ,tm,n⟩) (hz : ds.length < sizeLine)
    (hmt : ∀ d∈ds,∀ tm n,∃ n',n≤n'∧mt ⟨some d :: (ix.map fun i => (σ[i]?).getD none),tm,n⟩=.ok (p d) ⟨some d :: (ix.map fun i => (σ[i]?).getD none),tm,n'⟩)
    (hme : ∀ d∈ds,p d=true→∀ tm n,∃ n',n≤n'∧me ⟨some d :: (ix.map fun i => (σ[i]?).getD none),tm,n⟩=.ok (g d) ⟨some d :: (ix.map fun i => (σ[i]?).getD none),tm,n'⟩) :
    ∃ n',n≤n'∧mComp (mSeqI mc) (.nm 0) mt me 1 ix s=.ok (.lst n' ((ds.filter p).map g)) ⟨σ,tm,n'+1⟩ :=
  mComp_gen (K:=kLst) (its:=[some (.lst l ds)]) (items:=ds) (by unfold mSeqI; rw [x_bd,hc]; rfl) rfl hz (fun i rest => rfl) rfl hmt hme
end Mi
namespace Mi
open PySem L2
end Mi
set_option maxHeartbeats 1000000
namespace Mi
open PySem L2
noncomputable def finOX (o : Option (List D)) (t : D) (n : Nat) : RF:=match o with | some ts => .ex t ts n | none => .no
noncomputable def _root_.Mi.RS.finX (k : Nat) : RS→RF
  | .nx s' => finO (allSome s'.tm) .non s'.n
  | .rt t s' => finO (allSome s'.tm) t s'.n
  | .ex d s' => finOX (allSome (lastN k s'.tm)) d s'.n
  | _ => .no
end Mi
namespace My
open PySem L2 Mi
noncomputable def isInt : D→Bool
  | .int _ => true
  | _ => false
end My
namespace My
open PySem L2 Mi
theorem at0 {a : D} {l : List D} : atI (a :: l) 0=some a:=at_nat (by decide) rfl
theorem at1 {a b : D} {l : List D} : atI (a :: b :: l) 1=some b:=at_nat (by decide) rfl
theorem at2 {a b c : D} {l : List D} : atI (a :: b :: c :: l) 2=some c:=at_nat (by decide) rfl
theorem at3 {a b c d : D} {l : List D} : atI (a :: b :: c :: d :: l) 3=some d:=at_nat (by decide) rfl
theorem y_eqI {i j : Int} {s : Stt} : eqD (.int i) (.int j) s=.ok (.bool (i == j)) s:=by
  rw [y_eq (by simp [eqC,Mi.plain,er,PyData.canLay0,PyData.depth])]; simp only [er,PyData.eqv]
theorem c0 : ((0 : Nat) : Int)=0:=rfl
theorem c1 : ((1 : Nat) : Int)=1:=rfl
theorem c2 : ((2 : Nat) : Int)=2:=rfl
theorem c3 : ((3 : Nat) : Int)=3:=rfl
theorem c4 : ((4 : Nat) : Int)=4:=rfl
noncomputable def Gd (t : D) : Prop:=plain t=true∧(er t).canLay0=true
noncomputable def GdL (ds : List D) : Prop:=plainL ds=true∧PyData.canLayAll0 (erL ds)=true
theorem Gd.tup {ds : List D} : Gd (.tup ds)↔GdL ds:=by simp only [Gd,GdL,Mi.plain,er,PyData.canLay0]
theorem Gd.lst {l : Nat} {ds : List D} : Gd (.lst l ds)↔GdL ds:=by simp only [Gd,GdL,Mi.plain,er,PyData.canLay0]
theorem GdL.cons {d : D} {ds : List D} : GdL (d :: ds)↔Gd d∧GdL ds:=by
  simp only [Gd,GdL,plainL,erL,PyData.canLayAll0,Bool.and_eq_true]
  constructor
  · rintro ⟨⟨a,b⟩,c,d⟩; exact ⟨⟨a,c⟩,b,d⟩
  · rintro ⟨⟨a,c⟩,b,d⟩; exact ⟨⟨a,b⟩,c,d⟩
end My
namespace My
open PySem L2 Mi
theorem zl : sizeLine=16777216:=rfl
section
variable {a b c d : D} {s : Stt}
theorem t0 : tupD [] s=.ok (.tup []) s:=y_tup (by decide)
theorem t1 : tupD [a] s=.ok (.tup [a]) s:=y_tup (by rw [zl]; simp)
theorem t2 : tupD [a,b] s=.ok (.tup [a,b]) s:=y_tup (by rw [zl]; simp)
theorem t3 : tupD [a,b,c] s=.ok (.tup [a,b,c]) s:=y_tup (by rw [zl]; simp)
theorem t4 : tupD [a,b,c,d] s=.ok (.tup [a,b,c,d]) s:=y_tup (by rw [zl]; simp)
theorem k0 {σ tm : List (Option D)} {n : Nat} : lstM [] ⟨σ,tm,n⟩=.ok (.lst n []) ⟨σ,tm,n+1⟩:=y_lst (by rw [zl]; simp)
theorem k1 {σ tm : List (Option D)} {n : Nat} : lstM [a] ⟨σ,tm,n⟩=.ok (.lst n [a]) ⟨σ,tm,n+1⟩:=y_lst (by rw [zl]; simp)
theorem k2 {σ tm : List (Option D)} {n : Nat} : lstM [a,b] ⟨σ,tm,n⟩=.ok (.lst n [a,b]) ⟨σ,tm,n+1⟩:=y_lst (by rw [zl]; simp)
theorem k3 {σ tm : List (Option D)} {n : Nat} : lstM [a,b,c] ⟨σ,tm,n⟩=.ok (.lst n [a,b,c]) ⟨σ,tm,n+1⟩:=y_lst (by rw [zl]; simp)
theorem k4 {σ tm : List (Option D)} {n : Nat} : lstM [a,b,c,d] ⟨σ,tm,n⟩=.ok (.lst n [a,b,c,d]) ⟨σ,tm,n+1⟩:=y_lst (by rw [zl]; simp)
end
end My
namespace My
open PySem L2 Mi
local macro_rules | `(tactic| walk_at "mr") => `(tactic| (simp (config := { dsimp := false }) only [x_run, x_bd, bnd_ok, bnd_ex, bnd_no, lf_ok, lf_no, sq_nx, sq_rt, sq_bk, sq_ct, sq_no, x_rt, x_fl, x_psh, x_pshs, x_nxt, x_pop, vOf_some, x_var, x_C, x_bin, x_boo, x_booD, x_test, x_tB, x_tI, x_tT, x_tL, x_and, x_or, x_not, x_andV, x_orV, x_notV, x_mif, x_it, x_if, x_args0, x_args1, x_cb, x_call, isiK_some, x_isi, x_isiT, x_chain, x_flI, intK_some, x_part0, x_part1, x_mInt, x_sl,
  y_addI,y_sub,y_lt,y_le,y_gt,y_ge,y_neg,y_ixT,y_ixL,y_ixR,y_opt,y_slT,y_slL,y_lenT,y_lenL,y_lenR,y_abs,y_min,y_max,y_int,y_intB,y_tupT,y_tupL,y_listT,y_listL,
  x_seq,x_lift,x_sNx,x_sBk,x_sCt,x_sRet,x_sRetN,x_sExpr,x_sIf,x_sT,x_sF,asgK_some,x_asg,x_tri,x_meth,x_isL,callK_pure,fn_rt,fn_nx,finO_some,isiD,allSome,asg,asgL,
  List.map_cons,List.map_nil,List.replicate,List.nil_append,List.cons_append,List.append_nil,List.getElem?_cons_zero,List.getElem?_cons_succ,List.getElem?_nil,List.set_cons_zero,List.set_cons_succ,List.length_cons,List.length_nil,Nat.reduceAdd,Nat.reduceSub,Option.map_some,Option.map_none,Bool.not_true,Bool.not_false,String.reduceBEq,beq_self_eq_true,Nat.zero_add,Nat.sub_self,t0,t1,t2,t3,t4,k0,k1,k2,k3,k4,Int.reduceBEq,Bool.or_false,Bool.false_or,Bool.true_or,Bool.or_true,Bool.and_true,Bool.true_and,Bool.and_false,Bool.false_and,at0,at1,at2,at3,y_eqI,put_pl,rpO_nil,rpO_none,rpO_some,rp_bag,rp_int,rp_str,rp_bool,rp_non,rp_tup,rpL_nil,rpL_cons]))
noncomputable def Bg (c x : Int) : Prop:=0≤c∧0≤x∧x < 2147483647
theorem take_eq (l : Nat) (c x top : Int) (n : Nat) (h : Bg c x) (ht : 0 < top) (ht' : top < 1000000) : ∃ r c' x',0≤r∧r < top∧Bg c' x'∧f_l_take [.lst l [.int c,.int x],.int top] n=.ok (.int r) [.lst l [.int c',.int x'],.int top] n:=by
  unfold f_l_take m_l_take
  obtain ⟨h0,h1,h2⟩:=h
  by_cases hc : 0 < c
  · refine ⟨c % top,c / top,x,Int.emod_nonneg _ (by omega),Int.emod_lt_of_pos _ ht,⟨Int.ediv_nonneg h0 (by omega),h1,h2⟩,?_⟩
    walk_at "mr"
    simp only [hc,decide_true]
    walk_at "mr"
    rw [y_mod ht]
    walk_at "mr"
    rw [y_fdiv ⟨ht,by omega⟩]
    walk_at "mr"
    rw [y_set (j:=0) rfl (by simp [labs])]
    walk_at "mr"
  · have hx0:=Int.emod_nonneg (x * 48271+7919) (show (2147483647 : Int)≠0 by decide)
    have hx1:=Int.emod_lt_of_pos (x * 48271+7919) (show (0 : Int) < 2147483647 by decide)
    generalize hy : (x * 48271+7919) % 2147483647=y at hx0 hx1
    refine ⟨(y ^ (3 : Int).toNat % 2147483587 / 7 * 69621 % 1073741789) % top,c,y,Int.emod_nonneg _ (by omega),Int.emod_lt_of_pos _ ht,⟨h0,hx0,hx1⟩,?_⟩
    walk_at "mr"
    simp only [hc,decide_false]
    walk_at "mr"
    rw [y_mul (.inl ⟨by omega,by omega⟩)]
    walk_at "mr"
    rw [y_mod (by decide),hy]
    walk_at "mr"
    rw [y_set (j:=1) rfl (by simp [labs])]
    walk_at "mr"
    rw [y_pow ⟨by decide,by decide,by omega⟩]
    walk_at "mr"
    rw [y_mod (by decide)]
    walk_at "mr"
    rw [y_fdiv ⟨by decide,by decide⟩]
    walk_at "mr"
    rw [y_mul (.inr ⟨by decide,by decide⟩)]
    walk_at "mr"
    rw [y_mod (by decide)]
    walk_at "mr"
    rw [y_mod ht]
    walk_at "mr"
end My
namespace My
open PySem L2 Mi
local macro_rules | `(tactic| walk_at "mr") => `(tactic| (simp (config := { dsimp := false }) only [x_run, x_bd, bnd_ok, bnd_ex, bnd_no, lf_ok, lf_no, sq_nx, sq_rt, sq_bk, sq_ct, sq_no, x_rt, x_fl, x_psh, x_pshs, x_nxt, x_pop, vOf_some, x_var, x_C, x_bin, x_boo, x_booD, x_test, x_tB, x_tI, x_tT, x_tL, x_and, x_or, x_not, x_andV, x_orV, x_notV, x_mif, x_it, x_if, x_args0, x_args1, x_cb, x_call, isiK_some, x_isi, x_isiT, x_chain, x_flI, intK_some, x_part0, x_part1, x_mInt, x_sl,
  y_addI,y_sub,y_lt,y_le,y_gt,y_ge,y_neg,y_ixT,y_ixL,y_ixR,y_opt,y_slT,y_slL,y_lenT,y_lenL,y_lenR,y_abs,y_min,y_max,y_int,y_intB,y_tupT,y_tupL,y_listT,y_listL,
  x_seq,x_lift,x_sNx,x_sBk,x_sCt,x_sRet,x_sRetN,x_sExpr,x_sIf,x_sT,x_sF,asgK_some,x_asg,x_tri,x_meth,x_isL,callK_pure,fn_rt,fn_nx,finO_some,isiD,allSome,asg,asgL,
  List.map_cons,List.map_nil,List.replicate,List.nil_append,List.cons_append,List.append_nil,List.getElem?_cons_zero,List.getElem?_cons_succ,List.getElem?_nil,List.set_cons_zero,List.set_cons_succ,List.length_cons,List.length_nil,Nat.reduceAdd,Nat.reduceSub,Option.map_some,Option.map_none,Bool.not_true,Bool.not_false,String.reduceBEq,beq_self_eq_true,Nat.zero_add,Nat.sub_self,t0,t1,t2,t3,t4,k0,k1,k2,k3,k4,Int.reduceBEq,Bool.or_false,Bool.false_or,Bool.true_or,Bool.or_true,Bool.and_true,Bool.true_and,Bool.and_false,Bool.false_and,at0,at1,at2,at3,y_eqI,x_for,x_rng1,x_rlen,Int.zero_add,put_pl,rpO_nil,rpO_none,rpO_some,rp_bag,rp_int,rp_str,rp_bool,rp_non,rp_tup,rpL_nil,rpL_cons]))
theorem at_map {ns : List Int} {a : Nat} (h : a < ns.length) : atI (ns.map D.int) (a : Int)=some (.int ns[a]):=at_nat (by omega) (by simp [h])
theorem bag_eq (ns : List Int) (a n : Nat) (ha : a < 1000) (hl : ns.length < 1000) : ∃ c x,Bg c x∧f_l_bag [.ro (ns.map .int),.int a] n=.ok (.lst n [.int c,.int x]) [.ro (ns.map .int),.int a] (n+1):=by
  unfold f_l_bag m_l_bag
  walk_at "mr"
  have key : ∃ c : Int,0≤c∧iteS (decide ((a : Int) < ((ns.map D.int).length : Int))) (sAsg (Tg.nm 2) (mCB [mBin (mVar 0) (mVar 1) ixD] absD)) sNx ⟨[some (.ro (ns.map .int)),some (.int a),some (.int 0),none,none],[some (.ro (ns.map .int)),some (.int a)],n⟩=.nx ⟨[some (.ro (ns.map .int)),some (.int a),some (.int c),none,none],[some (.ro (ns.map .int)),some (.int a)],n⟩:=by
    by_cases h : a < ns.length
    · refine ⟨if ns[a] < 0 then -ns[a] else ns[a],?_,?_⟩
      rotate_left
      · rw [show decide ((a : Int) < ((ns.map D.int).length : Int))=true by simp [h]]
        walk_at "mr"
        rw [at_map h]
        walk_at "mr"
      · split <;> omega
    · refine ⟨0,by decide,?_⟩
      rw [show decide ((a : Int) < ((ns.map D.int).length : Int))=false by simp; omega]
      walk_at "mr"
  obtain ⟨c,hc,e1⟩:=key
  rw [e1]
  walk_at "mr"
  rw [y_mod (by decide)]
  walk_at "mr"
  rw [y_mul (.inl ⟨by decide,by decide⟩)]
  walk_at "mr"
  have q0:=Int.emod_nonneg c (show (2147483629 : Int)≠0 by decide)
  have q1:=Int.emod_lt_of_pos c (show (0 : Int) < 2147483629 by decide)
  rw [y_pow ⟨by decide,by decide,by omega⟩]
  walk_at "mr"
  rw [y_mod (by decide)]
  walk_at "mr"
  have w0 : ((ns.map D.int).length : Int)=ns.length:=by simp
  rw [w0]
  generalize hk : (if (60 : Int) < (ns.length : Int) then (60 : Int) else (ns.length : Int))=k
  have hk0 : 0≤k∧k≤60∧k≤ns.length:=by split at hk <;> omega
  rw [y_rng1 ⟨by omega,by omega⟩]
  walk_at "mr"
  have p0:=Int.emod_nonneg ((c % 2147483629+104729 * (a : Int)+17) ^ (5 : Int).toNat) (show (2147483647 : Int)≠0 by decide)
  have p1:=Int.emod_lt_of_pos ((c % 2147483629+104729 * (a : Int)+17) ^ (5 : Int).toNat) (show (0 : Int) < 2147483647 by decide)
  generalize (c % 2147483629+104729 * (a : Int)+17) ^ (5 : Int).toNat % 2147483647=x0 at p0 p1
  obtain ⟨s',e2,x,o,hx0,hx1,rfl⟩:=for_rng (P:=fun i s => ∃ (x : Int) (o : Option D),0≤x∧x < 2147483647∧s=⟨[some (.ro (ns.map .int)),some (.int a),some (.int c),some (.int x),o],[some (.ro (ns.map .int)),some (.int a)],n⟩) (lo:=0) (N:=k.toNat) (g:=.nm 4) (b:=sAsg (.nm 3) (mBin (mBin (mBin (mBin (mVar 3) (mC (.int 48271)) mulD) (mBin (mBin (mBin (mVar 0) (mVar 4) ixD) (mC (.int 2147483587)) modD) (mBin (mVar 4) (mC (.int 3)) addD) mulD) addD) (mVar 4) addD) (mC (.int 2147483629)) modD)) (by
    rintro i hi s ⟨x,o,h0,h1,rfl⟩
    have hi' : i < ns.length:=by omega
    refine ⟨[some (.ro (ns.map .int)),some (.int a),some (.int c),some (.int x),some (.int i)],by simp only [Int.zero_add]; rfl,?_⟩
    refine ⟨⟨[some (.ro (ns.map .int)),some (.int a),some (.int c),some (.int ((x * 48271+ns[i] % 2147483587 * (i+3)+i) % 2147483629)),some (.int i)],[some (.ro (ns.map .int)),some (.int a)],n⟩,?_,?_⟩
    · walk_at "mr"
      rw [y_mul (.inl ⟨by omega,by omega⟩)]
      walk_at "mr"
      rw [at_map hi']
      walk_at "mr"
      rw [y_mod (by decide)]
      walk_at "mr"
      rw [y_mul (.inr ⟨by omega,by omega⟩)]
      walk_at "mr"
      rw [y_mod (by decide)]
      walk_at "mr"
    · have r0:=Int.emod_nonneg (x * 48271+ns[i] % 2147483587 * (i+3)+i) (show (2147483629 : Int)≠0 by decide)
      have r1:=Int.emod_lt_of_pos (x * 48271+ns[i] % 2147483587 * (i+3)+i) (show (0 : Int) < 2147483629 by decide)
      exact ⟨_,_,r0,by omega,rfl⟩) k.toNat 0 ⟨[some (.ro (ns.map .int)),some (.int a),some (.int c),some (.int x0),none],[some (.ro (ns.map .int)),some (.int a)],n⟩ (by omega) ⟨x0,none,p0,p1,rfl⟩
  rw [e2]
  walk_at "mr"
  rw [y_pow ⟨by decide,by decide,by decide⟩]
  walk_at "mr"
  by_cases h : c < 10 ^ (18 : Int).toNat
  · refine ⟨0,x,⟨by decide,hx0,hx1⟩,?_⟩
    simp only [h,decide_true]
    walk_at "mr"
  · refine ⟨c,x,⟨hc,hx0,hx1⟩,?_⟩
    simp only [h,decide_false]
    walk_at "mr"
theorem rp_ne {l k : Nat} {d : D} {ds : List D} (h : k≠l) : rp (pl l d) (.lst k ds)=.lst k (rpL (pl l d) ds):=by simp only [rp,pl,if_neg h]
mutual
noncomputable def Rs (n : Nat) : D→Bool
  | .non => true | .bool _ => true | .int _ => true | .str x => PyData.strOk x
  | .tup ds => decide (ds.length≤2000) && RsL n ds
  | .lst l ds => decide (n≤l) && (decide (ds.length≤2000) && RsL n ds)
  | .ro _ => false | .dct _ _ _ => false | .obj _ _ _ _ => false | .exc _ => false | .fn _ => false | .fdc _ _ => false
noncomputable def RsL (n : Nat) : List D→Bool
  | [] => true
  | d :: ds => Rs n d && RsL n ds
end
noncomputable def Up (m : Nat) (t : D) : Prop:=∀ k∈labs t,k < m
theorem at_mem {α : Type} {ds : List α} {r : Int} (h0 : 0≤r) (h1 : r < ds.length) : ∃ d∈ds,atI ds r=some d:=by
  have h : r.toNat < ds.length:=by omega
  exact ⟨ds[r.toNat],List.getElem_mem h,at_nat h0 (by simp [h])⟩
end My
namespace My
open PySem L2 Mi
mutual
noncomputable def Tr : D→Bool
  | .non => true | .bool _ => true | .int _ => true | .str x => PyData.strOk x
  | .tup ds => decide (ds.length≤900) && TrL ds
  | .lst _ _ => false | .ro _ => false | .dct _ _ _ => false | .obj _ _ _ _ => false | .exc _ => false | .fn _ => false | .fdc _ _ => false
noncomputable def TrL : List D→Bool
  | [] => true
  | d :: ds => Tr d && TrL ds
end
theorem RsL_all {n : Nat} : ∀ {ds : List D},RsL n ds=true↔∀ d∈ds,Rs n d=true
  | [] => by simp [RsL]
  | d :: ds => by simp only [RsL,Bool.and_eq_true,RsL_all (ds:=ds),List.forall_mem_cons]
theorem dep_all {k : Nat} : ∀ {ds : List D},PyData.depthAll (erL ds)≤k↔∀ d∈ds,(er d).depth≤k
  | [] => by simp [erL,PyData.depthAll]
  | d :: ds => by simp only [erL,PyData.depthAll,List.forall_mem_cons,← dep_all (ds:=ds)]; omega
mutual
theorem Tr_labs : ∀ t : D,Tr t=true→labs t=[]
  | .non,_ => rfl
  | .bool _,_ => rfl
  | .int _,_ => rfl
  | .str _,_ => rfl
  | .tup ds,h => by simp only [Tr,Bool.and_eq_true] at h; simp only [labs]; exact TrL_labs ds h.2
  | .lst _ _,h => by simp [Tr] at h
  | .ro _,h => by simp [Tr] at h
  | .dct _ _ _,h => by simp [Tr] at h
  | .obj _ _ _ _,h => by simp [Tr] at h
  | .exc _,h => by simp [Tr] at h
  | .fn _,h => by simp [Tr] at h
  | .fdc _ _,h => by simp [Tr] at h
theorem TrL_labs : ∀ t : List D,TrL t=true→labsL t=[]
  | [],_ => rfl
  | d :: ds,h => by simp only [TrL,Bool.and_eq_true] at h; simp only [labsL,Tr_labs d h.1,TrL_labs ds h.2,List.append_nil]
end
mutual
theorem Tr_rs {n : Nat} : ∀ t : D,Tr t=true→Rs n t=true
  | .non,_ => rfl
  | .bool _,_ => rfl
  | .int _,_ => rfl
  | .str _,h => by simpa [Tr,Rs] using h
  | .tup ds,h => by
    simp only [Tr,Bool.and_eq_true,decide_eq_true_eq] at h; simp only [Rs,Bool.and_eq_true,decide_eq_true_eq]; exact ⟨by omega,TrL_rs ds h.2⟩
  | .lst _ _,h => by simp [Tr] at h
  | .ro _,h => by simp [Tr] at h
  | .dct _ _ _,h => by simp [Tr] at h
  | .obj _ _ _ _,h => by simp [Tr] at h
  | .exc _,h => by simp [Tr] at h
  | .fn _,h => by simp [Tr] at h
  | .fdc _ _,h => by simp [Tr] at h
theorem TrL_rs {n : Nat} : ∀ t : List D,TrL t=true→RsL n t=true
  | [],_ => rfl
  | d :: ds,h => by simp only [TrL,Bool.and_eq_true] at h; simp only [RsL,Tr_rs d h.1,TrL_rs ds h.2,Bool.and_true]
end
mutual
theorem Rs_gd {n : Nat} : ∀ t : D,Rs n t=true→Gd t
  | .non,_ => ⟨rfl,rfl⟩
  | .bool _,_ => ⟨rfl,rfl⟩
  | .int _,_ => ⟨rfl,rfl⟩
  | .str _,h => ⟨rfl,by simpa [Rs,er,PyData.canLay0] using h⟩
  | .tup ds,h => by simp only [Rs,Bool.and_eq_true] at h; exact Gd.tup.mpr (RsL_gd ds h.2)
  | .lst _ ds,h => by simp only [Rs,Bool.and_eq_true] at h; exact Gd.lst.mpr (RsL_gd ds h.2.2)
  | .ro _,h => by simp [Rs] at h
  | .dct _ _ _,h => by simp [Rs] at h
  | .obj _ _ _ _,h => by simp [Rs] at h
  | .exc _,h => by simp [Rs] at h
  | .fn _,h => by simp [Rs] at h
  | .fdc _ _,h => by simp [Rs] at h
theorem RsL_gd {n : Nat} : ∀ t : List D,RsL n t=true→GdL t
  | [],_ => ⟨rfl,rfl⟩
  | d :: ds,h => by simp only [RsL,Bool.and_eq_true] at h; exact GdL.cons.mpr ⟨Rs_gd d h.1,RsL_gd ds h.2⟩
end
mutual
theorem Rs_low {n k : Nat} : ∀ t : D,Rs n t=true→k∈labs t→n≤k
  | .non,_,h => by simp [labs] at h
  | .bool _,_,h => by simp [labs] at h
  | .int _,_,h => by simp [labs] at h
  | .str _,_,h => by simp [labs] at h
  | .tup ds,h,m => by simp only [Rs,Bool.and_eq_true] at h; simp only [labs] at m; exact RsL_low ds h.2 m
  | .lst _ ds,h,m => by
    simp only [Rs,Bool.and_eq_true,decide_eq_true_eq] at h
    simp only [labs,List.mem_cons] at m
    rcases m with rfl | m
    · exact h.1
    · exact RsL_low ds h.2.2 m
  | .ro _,h,_ => by simp [Rs] at h
  | .dct _ _ _,h,_ => by simp [Rs] at h
  | .obj _ _ _ _,h,_ => by simp [Rs] at h
  | .exc _,h,_ => by simp [Rs] at h
  | .fn _,h,_ => by simp [Rs] at h
  | .fdc _ _,h,_ => by simp [Rs] at h
theorem RsL_low {n k : Nat} : ∀ t : List D,RsL n t=true→k∈labsL t→n≤k
  | [],_,h => by simp [labsL] at h
  | d :: ds,h,m => by
    simp only [RsL,Bool.and_eq_true] at h
    simp only [labsL,List.mem_append] at m
    rcases m with m | m
    · exact Rs_low d h.1 m
    · exact RsL_low ds h.2 m
end
mutual
theorem Rs_mono {n m : Nat} (h : m≤n) : ∀ t : D,Rs n t=true→Rs m t=true
  | .non,_ => rfl
  | .bool _,_ => rfl
  | .int _,_ => rfl
  | .str _,h => by simpa [Rs] using h
  | .tup ds,h => by simp only [Rs,Bool.and_eq_true] at h ⊢; exact ⟨h.1,RsL_mono ‹_› ds h.2⟩
  | .lst _ ds,h => by simp only [Rs,Bool.and_eq_true,decide_eq_true_eq] at h ⊢; exact ⟨by omega,h.2.1,RsL_mono ‹_› ds h.2.2⟩
  | .ro _,h => by simp [Rs] at h
  | .dct _ _ _,h => by simp [Rs] at h
  | .obj _ _ _ _,h => by simp [Rs] at h
  | .exc _,h => by simp [Rs] at h
  | .fn _,h => by simp [Rs] at h
  | .fdc _ _,h => by simp [Rs] at h
theorem RsL_mono {n m : Nat} (h : m≤n) : ∀ t : List D,RsL n t=true→RsL m t=true
  | [],_ => rfl
  | d :: ds,h => by simp only [RsL,Bool.and_eq_true] at h ⊢; exact ⟨Rs_mono ‹_› d h.1,RsL_mono ‹_› ds h.2⟩
end
theorem rs_tup {n k : Nat} {es : List D} (hl : es.length≤2000) (h : ∀ e∈es,Rs n e=true∧(er e).depth≤k) : Rs n (.tup es)=true∧(er (.tup es)).depth≤k+1:=by
  refine ⟨?_,?_⟩
  · simp only [Rs,Bool.and_eq_true,decide_eq_true_eq]; exact ⟨hl,RsL_all.mpr fun d m => (h d m).1⟩
  · simp only [er,PyData.depth]; exact Nat.succ_le_succ (dep_all.mpr fun d m => (h d m).2)
theorem rs_lst {n k l : Nat} {es : List D} (hn : n≤l) (hl : es.length≤2000) (h : ∀ e∈es,Rs n e=true∧(er e).depth≤k) : Rs n (.lst l es)=true∧(er (.lst l es)).depth≤k+1:=by
  refine ⟨?_,?_⟩
  · simp only [Rs,Bool.and_eq_true,decide_eq_true_eq]; exact ⟨hn,hl,RsL_all.mpr fun d m => (h d m).1⟩
  · simp only [er,PyData.depth]; exact Nat.succ_le_succ (dep_all.mpr fun d m => (h d m).2)
end My
namespace My
open PySem L2 Mi
theorem labsL_mem {k : Nat} : ∀ {es : List D},k∈labsL es→∃ e∈es,k∈labs e
  | e :: es,h => by
    simp only [labsL,List.mem_append] at h
    rcases h with h | h
    · exact ⟨e,List.mem_cons_self,h⟩
    · obtain ⟨e',h1,h2⟩:=labsL_mem h
      exact ⟨e',List.mem_cons_of_mem _ h1,h2⟩
section
variable {me mo1 mi1 mo2 mi2 : M D} {s : Stt} {σ tm : List (Option D)} {n : Nat} {d1 d2 : D}
end
theorem ne_same {y d : D} {s : Stt} (gy : Gd y) (gd : Gd d) (e : er y=er d) (hd : (er d).depth≤60) : neD y d s=.ok (.bool false) s:=by
  rw [y_ne (by simp only [eqC,gy.1,gd.1,gy.2,gd.2,e,Bool.true_and,decide_eq_true_eq]; omega),e,PySem.SeqAt.eqv_refl _ gd.2]; rfl
end My
namespace My
open PySem L2 Mi
theorem rpO_cons {f : Nat→Option D} {o : Option D} {r : List (Option D)} : rpO f (o :: r)=o.map (rp f) :: rpO f r:=by cases o <;> rfl
noncomputable def UpO (n : Nat) (o : Option D) : Prop:=∀ d,o=some d→Up n d
theorem UpO.fixk {n k : Nat} {o : Option D} (h : UpO n o) (hk : n≤k) (d : D) : Option.map (rp (pl k d)) o=o:=by
  cases o with
  | none => rfl
  | some t => simp only [Option.map_some]; rw [rp_fresh fun m => by have:=h t rfl k m; omega]
theorem UpO.fix {n : Nat} {o : Option D} (h : UpO n o) (d : D) : Option.map (rp (pl n d)) o=o:=by
  cases o with
  | none => rfl
  | some t => simp only [Option.map_some]; rw [rp_fresh fun m => Nat.lt_irrefl _ (h t rfl n m)]
theorem k5 {a b c d e : D} {σ tm : List (Option D)} {n : Nat} : lstM [a,b,c,d,e] ⟨σ,tm,n⟩=.ok (.lst n [a,b,c,d,e]) ⟨σ,tm,n+1⟩:=y_lst (by rw [zl]; simp)
theorem k6 {a b c d e f : D} {σ tm : List (Option D)} {n : Nat} : lstM [a,b,c,d,e,f] ⟨σ,tm,n⟩=.ok (.lst n [a,b,c,d,e,f]) ⟨σ,tm,n+1⟩:=y_lst (by rw [zl]; simp)
end My
namespace My
open PySem L2 Mi
theorem y_neI {i j : Int} {s : Stt} : neD (.int i) (.int j) s=.ok (.bool (!(i == j))) s:=by
  rw [y_ne (by simp [eqC,Mi.plain,er,PyData.canLay0,PyData.depth])]; simp only [er,PyData.eqv]
noncomputable def isNon : D→Bool
  | .non => true
  | _ => false
theorem y_isN {d : D} {s : Stt} : isN d .non s=.ok (.bool (isNon d)) s:=by cases d <;> rfl
theorem y_notN {d : D} {s : Stt} : notN d .non s=.ok (.bool (!isNon d)) s:=by cases d <;> rfl
theorem cut_tk {ws : List D} {l : Nat} : cutA ws none (some (l : Int))=ws.take l:=by
  unfold cutA
  rw [HT.sIx_nat,HT.sIx_none,List.drop_zero,Nat.sub_zero]
  rcases Nat.le_total l ws.length with h | h
  · rw [Nat.min_eq_left h]
  · rw [Nat.min_eq_right h,List.take_length,List.take_of_length_le h]
theorem cut_dr {ws : List D} {l : Nat} : cutA ws (some (l : Int)) none=ws.drop l:=by
  unfold cutA
  rw [HT.sIx_nat,HT.sIx_none]
  rcases Nat.le_total l ws.length with h | h
  · rw [Nat.min_eq_left h,List.take_of_length_le (by simp)]
  · rw [Nat.min_eq_right h,List.drop_length,List.take_nil,List.drop_eq_nil_of_le h]
noncomputable abbrev Row3:=List Int×List Int×List Int
noncomputable def Wf (r : Row3) : Prop:=1≤r.1.length∧r.1.length≤4∧r.2.1.length≤3∧r.2.2.length < r.1.length
noncomputable def better (keys : List Int) (best : Option Row3) (r : Row3) : Option Row3:=if keys.take r.1.length=r.1∧best.elim 0 (fun b => b.1.length) < r.1.length then some r else best
noncomputable def longest (rows : List Row3) (keys : List Int) : Option Row3:=rows.foldl (better keys) none
noncomputable def stepM (rows : List Row3) (keys : List Int) : Row3:=match longest rows keys with
  | none => ([],keys.take 1,keys.drop 1)
  | some r => (r.2.1,[],r.2.2++keys.drop r.1.length)
noncomputable def readM (rows : List Row3) : Nat→List Int→List Int×List Int
  | 0,_ => ([],[])
  | n+1,ks => if ks=[] then ([],[]) else ((stepM rows ks).1++(readM rows n (stepM rows ks).2.2).1,(stepM rows ks).2.1++(readM rows n (stepM rows ks).2.2).2)
theorem better_mem {keys : List Int} {best : Option Row3} {r q : Row3} (h : better keys best r=some q) : best=some q∨(q=r∧keys.take q.1.length=q.1):=by
  unfold better at h
  split at h
  · rename_i hc
    cases h
    exact .inr ⟨rfl,hc.1⟩
  · exact .inl h
theorem foldl_better {keys : List Int} : ∀ (rows : List Row3) (best : Option Row3) (q : Row3),rows.foldl (better keys) best=some q→best=some q∨(q∈rows∧keys.take q.1.length=q.1)
  | [],best,q,h => .inl h
  | r :: rows,best,q,h => by
    rw [List.foldl_cons] at h
    rcases foldl_better rows _ q h with e | ⟨m,e⟩
    · rcases better_mem e with e | ⟨e1,e2⟩
      · exact .inl e
      · exact .inr ⟨e1 ▸ List.mem_cons_self,e2⟩
    · exact .inr ⟨List.mem_cons_of_mem _ m,e⟩
theorem longest_mem {rows : List Row3} {keys : List Int} {q : Row3} (h : longest rows keys=some q) : q∈rows∧keys.take q.1.length=q.1:=by
  rcases foldl_better rows none q h with e | e
  · cases e
  · exact e
theorem step_len {rows : List Row3} {keys : List Int} (hw : ∀ r∈rows,Wf r) (hk : keys≠[]) : (stepM rows keys).2.2.length < keys.length∧(stepM rows keys).1.length≤3∧(stepM rows keys).2.1.length≤1∧((stepM rows keys).2.1.length+(stepM rows keys).2.2.length≤keys.length):=by
  have hl : 0 < keys.length:=by
    cases keys with
    | nil => exact absurd rfl hk
    | cons _ _ => simp
  unfold stepM
  cases e : longest rows keys with
  | none =>
    dsimp only
    rw [List.length_drop,List.length_take,List.length_nil]
    omega
  | some r =>
    obtain ⟨m,t⟩:=longest_mem e
    obtain ⟨w1,w2,w3,w4⟩:=hw r m
    have:=congrArg List.length t
    rw [List.length_take] at this
    dsimp only
    rw [List.length_append,List.length_drop,List.length_nil]
    omega
theorem read_fuel {rows : List Row3} (hw : ∀ r∈rows,Wf r) : ∀ (n m : Nat) (ks : List Int),ks.length≤n→ks.length≤m→readM rows n ks=readM rows m ks
  | 0,0,ks,_,_ => rfl
  | 0,m+1,ks,h,_ => by
    have e : ks=[]:=List.eq_nil_of_length_eq_zero (by omega)
    unfold readM
    rw [if_pos e]
  | n+1,0,ks,_,h => by
    have e : ks=[]:=List.eq_nil_of_length_eq_zero (by omega)
    unfold readM
    rw [if_pos e]
  | n+1,m+1,ks,h1,h2 => by
    unfold readM
    by_cases e : ks=[]
    · rw [if_pos e,if_pos e]
    · obtain ⟨l,_⟩:=step_len hw e
      rw [if_neg e,if_neg e,read_fuel hw n m _ (by omega) (by omega)]
noncomputable def readA (rows : List Row3) (ks : List Int) : List Int×List Int:=readM rows ks.length ks
theorem readA_nil (rows : List Row3) : readA rows []=([],[]):=rfl
theorem readA_step {rows : List Row3} (hw : ∀ r∈rows,Wf r) {ks : List Int} (h : ks≠[]) :
    readA rows ks=((stepM rows ks).1++(readA rows (stepM rows ks).2.2).1,(stepM rows ks).2.1++(readA rows (stepM rows ks).2.2).2):=by
  obtain ⟨l,_⟩:=step_len hw h
  obtain ⟨n,hn⟩ : ∃ n,ks.length=n+1:=⟨ks.length - 1,by omega⟩
  unfold readA
  rw [hn]
  conv => lhs; unfold readM
  rw [if_neg h,read_fuel hw n _ _ (by omega) (Nat.le_refl _)]
noncomputable abbrev tI (ns : List Int) : D:=.tup (ns.map .int)
theorem er_ints : ∀ ns : List Int,erL (ns.map .int)=ns.map PyData.int
  | [] => rfl
  | n :: ns => by simp only [List.map_cons,erL,er,er_ints ns]
theorem er_tI (ns : List Int) : er (tI ns)=L2.dT ns:=by simp only [tI,er,er_ints]; rfl
theorem pl_ints : ∀ ns : List Int,plainL (ns.map D.int)=true
  | [] => rfl
  | n :: ns => by simp only [List.map_cons,plainL,Mi.plain,pl_ints ns]; rfl
theorem eqC_tI (a b : List Int) : eqC (tI a) (tI b)=true:=by
  have h1 : Mi.plain (tI a)=true:=pl_ints a
  have h2 : Mi.plain (tI b)=true:=pl_ints b
  have:=dep_dT a
  simp only [eqC,h1,h2,er_tI,lay_dT,Bool.true_and,decide_eq_true_eq]; omega
theorem y_eqTI {a b : List Int} {s : Stt} : eqD (tI a) (tI b) s=.ok (.bool (decide (a=b))) s:=by rw [y_eq (eqC_tI a b),er_tI,er_tI,eqv_dT]
theorem y_neTI {a b : List Int} {s : Stt} : neD (tI a) (tI b) s=.ok (.bool (!decide (a=b))) s:=by rw [y_ne (eqC_tI a b),er_tI,er_tI,eqv_dT]
noncomputable abbrev rD (r : Row3) : D:=.tup [tI r.1,tI r.2.1,tI r.2.2]
noncomputable def oD : Option Row3→D
  | none => .non
  | some r => rD r
theorem for_lsti {P : Nat→Stt→Prop} {l : Nat} {ds : List D} {g : Tg} {b : MS} {tm : List (Option D)} (hP : ∀ i s,P i s→s.tm=some (.lst l ds) :: tm)
    (body : ∀ i d,ds[i]?=some d→∀ s,P i s→∃ σ',asg g d s.σ=some σ'∧∃ s',b { s with σ:=σ' }=.nx s'∧P (i+1) s') :
    ∀ (f i : Nat) (s : Stt),i+f=ds.length→P i s→∃ s',forGo kLst g b f i s=.nx (s'.popn 1)∧P ds.length s':=by
  intro f
  induction f with
  | zero =>
    intro i s hi h
    have hi : i=ds.length:=by omega
    refine ⟨s,?_,hi ▸ h⟩
    unfold forGo
    have e : kLst.at' i s.tm=some none:=by rw [hP i s h]; show some ds[i]?=_; rw [List.getElem?_eq_none (by omega)]
    simp only [e]
    rfl
  | succ f ih =>
    intro i s hi h
    have hl : i < ds.length:=by omega
    obtain ⟨σ',e1,s',e2,h'⟩:=body i ds[i] (List.getElem?_eq_getElem hl) s h
    obtain ⟨s2,e3,h2⟩:=ih (i+1) s' (by omega) h'
    refine ⟨s2,?_,h2⟩
    unfold forGo
    have e : kLst.at' i s.tm=some (some ds[i]):=by rw [hP i s h]; show some ds[i]?=_; rw [List.getElem?_eq_getElem hl]
    simp only [e,e1,e2]
    exact e3
theorem x_whl {fu : Stt→Nat} {c : M Bool} {b : MS} {s : Stt} : sWhile fu c b s=whileGo c b (fu s) s:=(rfl)
theorem tk_tI {ns : List Int} {k : Nat} : (ns.map D.int).take k=(ns.take k).map D.int:=by rw [List.map_take]
theorem dr_tI {ns : List Int} {k : Nat} : (ns.map D.int).drop k=(ns.drop k).map D.int:=by rw [List.map_drop]
theorem lenM {ns : List Int} : ((ns.map D.int).length : Int)=(ns.length : Int):=by rw [List.length_map]
local macro_rules | `(tactic| walk_at "mr") => `(tactic| (simp (config := { dsimp := false }) only [x_run, x_bd, bnd_ok, bnd_ex, bnd_no, lf_ok, lf_no, sq_nx, sq_rt, sq_bk, sq_ct, sq_no, x_rt, x_fl, x_psh, x_pshs, x_nxt, x_pop, vOf_some, x_var, x_C, x_bin, x_boo, x_booD, x_test, x_tB, x_tI, x_tT, x_tL, x_and, x_or, x_not, x_andV, x_orV, x_notV, x_mif, x_it, x_if, x_args0, x_args1, x_cb, x_call, isiK_some, x_isi, x_isiT, x_chain, x_flI, intK_some, x_part0, x_part1, x_mInt, x_sl,
  y_addI,y_sub,y_lt,y_le,y_gt,y_ge,y_neg,y_ixT,y_ixL,y_ixR,y_opt,y_slT,y_slL,y_lenT,y_lenL,y_lenR,y_abs,y_min,y_max,y_int,y_intB,y_tupT,y_tupL,y_listT,y_listL,
  x_seq,x_lift,x_sNx,x_sBk,x_sCt,x_sRet,x_sRetN,x_sExpr,x_sIf,x_sT,x_sF,asgK_some,x_asg,x_tri,x_meth,x_isL,callK_pure,fn_rt,fn_nx,finO_some,isiD,allSome,asg,asgL,
  List.map_cons,List.map_nil,List.replicate,List.nil_append,List.cons_append,List.append_nil,List.getElem?_cons_zero,List.getElem?_cons_succ,List.getElem?_nil,List.set_cons_zero,List.set_cons_succ,List.length_cons,List.length_nil,Nat.reduceAdd,Nat.reduceSub,Option.map_some,Option.map_none,Bool.not_true,Bool.not_false,String.reduceBEq,beq_self_eq_true,Nat.zero_add,Nat.sub_self,t0,t1,t2,t3,t4,k0,k1,k2,k3,k4,Int.reduceBEq,Bool.or_false,Bool.false_or,Bool.true_or,Bool.or_true,Bool.and_true,Bool.true_and,Bool.and_false,Bool.false_and,at0,at1,at2,at3,y_eqI,y_neI,x_for,x_rng1,x_rlen,Int.zero_add,put_pl,rpO_nil,rpO_cons,rp_bag,rp_int,rp_str,rp_bool,rp_non,rp_tup,rpL_nil,rpL_cons,y_isN,y_notN,y_eqTI,y_neTI]))
theorem longest_eq (rows : List Row3) (ks : List Int) (l n : Nat) (hw : ∀ r∈rows,0 < r.1.length) : f_p_longest_row [.lst l (rows.map rD),tI ks] n=.ok (oD (longest rows ks)) [.lst l (rows.map rD),tI ks] n:=by
  unfold f_p_longest_row m_p_longest_row
  walk_at "mr"
  obtain ⟨s',e,hs⟩:=for_lsti (P:=fun i s => ∃ o3,s=⟨[some (.lst l (rows.map rD)),some (tI ks),some (oD ((rows.take i).foldl (better ks) none)),o3],some (.lst l (rows.map rD)) :: [some (.lst l (rows.map rD)),some (tI ks)],n⟩) (l:=l) (ds:=rows.map rD) (g:=.nm 3) (tm:=[some (.lst l (rows.map rD)),some (tI ks)])
    (b:=sIf (mAnd (mBoo (mBin (mSl (mVar 1) none (some (mCB [(mBin (mVar 3) (mC (.int 0)) ixD)] lenD))) (mBin (mVar 3) (mC (.int 0)) ixD) eqD)) (mOr (mBoo (mBin (mVar 2) (mC .non) isN)) (mBoo (mBin (mCB [(mBin (mVar 3) (mC (.int 0)) ixD)] lenD) (mCB [(mBin (mVar 2) (mC (.int 0)) ixD)] lenD) gtD)))) (sAsg (.nm 2) (mVar 3)) sNx)
    (by rintro i s ⟨o3,rfl⟩; rfl) (by
      rintro i d hd s ⟨o3,rfl⟩
      refine ⟨_,rfl,?_⟩
      rw [List.getElem?_map] at hd
      cases hr : rows[i]? with
      | none => rw [hr] at hd; cases hd
      | some r =>
        rw [hr] at hd
        cases hd
        have hf : (rows.take (i+1)).foldl (better ks) none=better ks ((rows.take i).foldl (better ks) none) r:=by
          rw [List.take_add_one,hr,Option.toList_some,List.foldl_append]; rfl
        rw [hf]
        generalize (rows.take i).foldl (better ks) none=best
        show ∃ s',_∧∃ o3,s'=_
        walk_at "mr"
        rw [lenM,cut_tk,tk_tI,y_eqTI]
        walk_at "mr"
        by_cases h1 : ks.take r.1.length=r.1
        · simp only [h1,decide_true]
          walk_at "mr"
          cases best with
          | none =>
            simp only [oD,isNon]
            walk_at "mr"
            refine ⟨_,rfl,some (rD r),?_⟩
            unfold better
            rw [if_pos ⟨h1,hw r (List.mem_of_getElem? hr)⟩]
          | some b =>
            simp only [oD,isNon]
            walk_at "mr"
            rw [lenM,lenM]
            by_cases h2 : b.1.length < r.1.length
            · simp only [show decide ((b.1.length : Int) < (r.1.length : Int))=true by simp [h2]]
              walk_at "mr"
              refine ⟨_,rfl,some (rD r),?_⟩
              unfold better
              rw [if_pos ⟨h1,h2⟩]
            · simp only [show decide ((b.1.length : Int) < (r.1.length : Int))=false by simp; omega]
              walk_at "mr"
              refine ⟨_,rfl,some (rD r),?_⟩
              unfold better
              rw [if_neg fun h => h2 h.2]
        · simp only [h1,decide_false]
          walk_at "mr"
          refine ⟨_,rfl,some (rD r),?_⟩
          unfold better
          rw [if_neg fun h => h1 h.1]) rows.length 0 ⟨[some (.lst l (rows.map rD)),some (tI ks),some .non,none],some (.lst l (rows.map rD)) :: [some (.lst l (rows.map rD)),some (tI ks)],n⟩ (by simp) ⟨none,by simp [oD]⟩
  obtain ⟨o3,rfl⟩:=hs
  rw [x_seqI (l := l) (ds := rows.map rD) (σ := [some (.lst l (rows.map rD)), some (tI ks), some .non, none]) (tm := [some (.lst l (rows.map rD)), some (tI ks)]) (n := n) (by walk_at "mr")]
  walk_at "mr"
  rw [show kLst.len (some (.lst l (rows.map rD)) :: [some (.lst l (rows.map rD)),some (tI ks)])=rows.length by show (rows.map rD).length=_; simp,e]
  walk_at "mr"
  rw [List.length_map,List.take_length]
  rfl
set_option Elab.async false
set_option linter.all false
set_option maxRecDepth 100000
set_option maxHeartbeats 1000000
noncomputable def ofI : D→Int
  | .int i => i
  | _ => 0
noncomputable def unI : D→List Int
  | .tup ds => ds.map ofI
  | _ => []
noncomputable def unR : D→Row3
  | .tup [a,b,c] => (unI a,unI b,unI c)
  | _ => ([],[],[])
theorem unI_tI (ns : List Int) : unI (tI ns)=ns:=by
  simp only [unI,List.map_map]
  induction ns with
  | nil => rfl
  | cons n ns ih => simp only [List.map_cons,Function.comp,ofI,ih]
theorem unR_rD (r : Row3) : unR (rD r)=r:=by simp only [unR,unI_tI]
noncomputable def wt (ks : List Int) (r : Row3) : Bool:=decide (ks.length < r.1.length) && decide (r.1.take ks.length=ks)
noncomputable def gW (ks : List Int) (d : D) : D:=.bool (wt ks (unR d))
noncomputable def bb1 (o : Option Row3) : List Int:=o.elim [] (·.1)
noncomputable def bb2 (o : Option Row3) : List Int:=o.elim [] (·.2.1)
noncomputable def bb3 (o : Option Row3) : List Int:=o.elim [] (·.2.2)
theorem atI0 {n : Int} {ns : List Int} : atI ((n :: ns).map D.int) 0=some (.int n):=at0
theorem cut_t1 {ws : List D} : cutA ws none (some (1 : Int))=ws.take 1:=cut_tk (l:=1)
theorem cut_d1 {ws : List D} : cutA ws (some (1 : Int)) none=ws.drop 1:=cut_dr (l:=1)
theorem bools_any (ks : List Int) : ∀ rows : List Row3,boolsD (rows.map fun r => D.bool (wt ks r))=some (rows.map (wt ks))
  | [] => rfl
  | r :: rows => by simp only [List.map_cons,boolsD,bools_any ks rows,Option.map_some]
theorem px1 {σ tm : List (Option D)} {a : Option D} {n : Nat} : Stt.popn ⟨σ,a :: tm,n⟩ 1=⟨σ,tm,n⟩:=rfl
theorem pstep_eq (rows : List Row3) (ks : List Int) (l n : Nat) (hw : ∀ r∈rows,Wf r) (hk : ks.length≤1000) : f_p_read_step [.lst l (rows.map rD),tI ks] n=.ok (.tup [tI (stepM rows ks).1,tI (stepM rows ks).2.1,tI (stepM rows ks).2.2]) [.lst l (rows.map rD),tI ks] n:=by
  unfold f_p_read_step m_p_read_step
  walk_at "mr"
  rw [longest_eq rows ks l n fun r h => (hw r h).1]
  unfold stepM
  cases hb : longest rows ks with
  | none =>
    simp only [oD]
    walk_at "mr"
    simp only [isNon]
    walk_at "mr"
    rw [cut_t1,cut_d1,tk_tI,dr_tI]
    rfl
  | some r =>
    obtain ⟨w1,w2,w3,w4⟩:=hw r (longest_mem hb).1
    simp only [oD]
    walk_at "mr"
    simp only [isNon]
    walk_at "mr"
    rw [lenM,cut_dr,dr_tI,y_addT (by rw [zl]; simp only [List.length_map,List.length_drop]; omega)]
    walk_at "mr"
    rw [← List.map_append]
    rfl
theorem wait_eq (rows : List Row3) (ks : List Int) (l n : Nat) (hr : rows.length < 1000) : ∃ n',n≤n'∧f_p_may_wait [.lst l (rows.map rD),tI ks] n=.ok (.bool (rows.any (wt ks))) [.lst l (rows.map rD),tI ks] n':=by
  unfold f_p_may_wait m_p_may_wait
  walk_at "mr"
  obtain ⟨n',hn,e⟩:=mComp_lstG (mc:=mVar 0) (mt:=rt true) (me:=mAndV (mBin (mCB [(mVar 1)] lenD) (mCB [(mBin (mVar 0) (mC (.int 0)) ixD)] lenD) ltD) (mBin (mSl (mBin (mVar 0) (mC (.int 0)) ixD) none (some (mCB [(mVar 1)] lenD))) (mVar 1) eqD)) (p:=fun _ => true) (g:=gW ks) (l:=l) (ds:=rows.map rD) (ix:=[1]) (s:=⟨[some (.lst l (rows.map rD)),some (tI ks)],[some (.lst l (rows.map rD)),some (tI ks)],n⟩) (σ:=[some (.lst l (rows.map rD)),some (tI ks)]) (tm:=[some (.lst l (rows.map rD)),some (tI ks)]) (n:=n)
    (by walk_at "mr") (by rw [List.length_map, zl]; omega) (fun d hd tm n => ⟨n, Nat.le_refl _, rfl⟩) (by
      intro d hd _ tm n
      obtain ⟨r,_,rfl⟩:=List.mem_map.mp hd
      refine ⟨n,Nat.le_refl _,?_⟩
      simp only [List.map_cons,List.map_nil,List.getElem?_cons_zero,List.getElem?_cons_succ,Option.getD_some]
      walk_at "mr"
      rw [lenM,lenM]
      unfold gW
      rw [unR_rD]
      unfold wt
      by_cases h1 : ks.length < r.1.length
      · simp only [show decide ((ks.length : Int) < (r.1.length : Int))=true by simp [h1],h1,decide_true,Bool.true_and]
        walk_at "mr"
        rw [lenM,cut_tk,tk_tI,y_eqTI]
      · simp only [show decide ((ks.length : Int) < (r.1.length : Int))=false by simp; omega,h1,decide_false,Bool.false_and]
        walk_at "mr")
  refine ⟨n'+1,by omega,?_⟩
  rw [e]
  walk_at "mr"
  have hf : ((rows.map rD).filter fun _ => true).map (gW ks)=rows.map fun r => D.bool (wt ks r):=by
    rw [List.filter_eq_self.mpr (fun _ _ => rfl),List.map_map]
    refine List.map_congr_left fun r _ => ?_
    simp only [Function.comp,gW,unR_rD]
  rw [hf,y_any (bools_any ks rows)]
  walk_at "mr"
  rw [List.any_map]
  rfl
theorem lstep_eq (rows : List Row3) (ks : List Int) (l n : Nat) (hw : ∀ r∈rows,Wf r) (hk : ks≠[]) (hz : ks.length≤1000) (hl : l < n) : f_l_step [.lst l (rows.map rD),tI ks] n=.ok (.tup [.lst n ((stepM rows ks).1.map .int),.lst (n+1) ((stepM rows ks).2.1.map .int),tI (stepM rows ks).2.2]) [.lst l (rows.map rD),tI ks] (n+2):=by
  unfold f_l_step m_l_step
  walk_at "mr"
  obtain ⟨s',e,hs⟩:=for_lsti (P:=fun i s => ∃ o5,s=⟨[some (.lst l (rows.map rD)),some (tI ks),some (tI (bb1 ((rows.take i).foldl (better ks) none))),some (tI (bb2 ((rows.take i).foldl (better ks) none))),some (tI (bb3 ((rows.take i).foldl (better ks) none))),o5],some (.lst l (rows.map rD)) :: [some (.lst l (rows.map rD)),some (tI ks)],n⟩) (l:=l) (ds:=rows.map rD) (g:=.nm 5) (tm:=[some (.lst l (rows.map rD)),some (tI ks)])
    (b:=sIf (mAnd (mBoo (mBin (mCB [(mBin (mVar 5) (mC (.int 0)) ixD)] lenD) (mCB [(mVar 2)] lenD) gtD)) (mBoo (mBin (mSl (mVar 1) none (some (mCB [(mBin (mVar 5) (mC (.int 0)) ixD)] lenD))) (mBin (mVar 5) (mC (.int 0)) ixD) eqD))) (sAsg (.tp [(.nm 2),(.nm 3),(.nm 4)]) (mVar 5)) sNx)
    (by rintro i s ⟨o3,rfl⟩; rfl) (by
      rintro i d hd s ⟨o3,rfl⟩
      refine ⟨_,rfl,?_⟩
      rw [List.getElem?_map] at hd
      cases hr : rows[i]? with
      | none => rw [hr] at hd; cases hd
      | some r =>
        rw [hr] at hd
        cases hd
        have hf : (rows.take (i+1)).foldl (better ks) none=better ks ((rows.take i).foldl (better ks) none) r:=by
          rw [List.take_add_one,hr,Option.toList_some,List.foldl_append]; rfl
        rw [hf]
        generalize (rows.take i).foldl (better ks) none=best
        show ∃ s',_∧∃ o3,s'=_
        have hb : better ks best r=if ks.take r.1.length=r.1∧(bb1 best).length < r.1.length then some r else best:=by
          unfold better bb1; cases best <;> rfl
        rw [hb]
        walk_at "mr"
        rw [lenM,lenM]
        by_cases h2 : (bb1 best).length < r.1.length
        · simp only [show decide (((bb1 best).length : Int) < (r.1.length : Int))=true by simp [h2]]
          walk_at "mr"
          rw [lenM,cut_tk,tk_tI,y_eqTI]
          walk_at "mr"
          by_cases h1 : ks.take r.1.length=r.1
          · simp only [h1,decide_true]
            walk_at "mr"
            refine ⟨_,rfl,some (rD r),?_⟩
            rw [if_pos ⟨trivial,h2⟩]
            rfl
          · simp only [h1,decide_false]
            walk_at "mr"
            refine ⟨_,rfl,some (rD r),?_⟩
            rw [if_neg fun h => h.1.elim]
        · simp only [show decide (((bb1 best).length : Int) < (r.1.length : Int))=false by simp; omega]
          walk_at "mr"
          refine ⟨_,rfl,some (rD r),?_⟩
          rw [if_neg fun h => h2 h.2]) rows.length 0 ⟨[some (.lst l (rows.map rD)),some (tI ks),some (tI []),some (tI []),some (tI []),none],some (.lst l (rows.map rD)) :: [some (.lst l (rows.map rD)),some (tI ks)],n⟩ (by simp) ⟨none,by simp [bb1,bb2,bb3]⟩
  obtain ⟨o3,rfl⟩:=hs
  rw [x_seqI (l := l) (ds := rows.map rD) (σ := [some (.lst l (rows.map rD)), some (tI ks), some (.tup []), some (.tup []), some (.tup []), none]) (tm := [some (.lst l (rows.map rD)), some (tI ks)]) (n := n) (by walk_at "mr")]
  walk_at "mr"
  rw [show kLst.len (some (.lst l (rows.map rD)) :: [some (.lst l (rows.map rD)),some (tI ks)])=rows.length by show (rows.map rD).length=_; simp]
  rw [show (D.tup [])=tI [] from rfl,e]
  simp only [px1]
  walk_at "mr"
  rw [List.length_map,List.take_length]
  show ((_ : RS)).fin=_
  have hlg : rows.foldl (better ks) none=longest rows ks:=rfl
  rw [hlg]
  unfold stepM
  cases hb : longest rows ks with
  | none =>
    simp only [bb1,bb2,bb3,Option.elim]
    walk_at "mr"
    rw [show (D.tup [])=tI [] from rfl,y_eqTI]
    simp only [decide_true]
    walk_at "mr"
    cases ks with
    | nil => exact absurd rfl hk
    | cons a ks =>
      rw [atI0]
      walk_at "mr"
      rw [cut_d1]
      rfl
  | some r =>
    obtain ⟨w1,w2,w3,w4⟩:=hw r (longest_mem hb).1
    simp only [bb1,bb2,bb3,Option.elim]
    walk_at "mr"
    rw [show (D.tup [])=tI [] from rfl,y_eqTI]
    simp only [show decide (r.1=[])=false by simp; intro h; rw [h] at w1; simp at w1]
    walk_at "mr"
    rw [lenM,cut_dr,dr_tI,y_addT (by rw [zl]; simp only [List.length_map,List.length_drop]; omega)]
    walk_at "mr"
    rw [← List.map_append]
set_option Elab.async false
set_option linter.all false
set_option maxRecDepth 100000
set_option maxHeartbeats 1000000
theorem ints_labs : ∀ ns : List Int,labsL (ns.map D.int)=[]
  | [] => rfl
  | n :: ns => by simp only [List.map_cons,labsL,labs,ints_labs ns]; rfl
theorem tI_labs (ns : List Int) : labs (tI ns)=[]:=ints_labs ns
theorem rD_labs (r : Row3) : labs (rD r)=[]:=by simp only [labs,labsL,ints_labs]; rfl
theorem rows_labs : ∀ rows : List Row3,labsL (rows.map rD)=[]
  | [] => rfl
  | r :: rows => by simp only [List.map_cons,labsL,rows_labs rows]; rw [rD_labs]; rfl
theorem rp_tI {k : Nat} {d : D} {ns : List Int} : rp (pl k d) (.tup (ns.map D.int))=.tup (ns.map D.int):=rp_fresh (by rw [show labs (.tup (ns.map D.int))=[] from ints_labs ns]; exact List.not_mem_nil)
theorem rpL_ints {k : Nat} {d : D} {ns : List Int} : rpL (pl k d) (ns.map D.int)=ns.map D.int:=rpL_id _ fun j hj => by rw [ints_labs] at hj; cases hj
theorem rpL_rows {k : Nat} {d : D} {rows : List Row3} : rpL (pl k d) (rows.map rD)=rows.map rD:=rpL_id _ fun j hj => by rw [rows_labs] at hj; cases hj
theorem rp_rows {k l : Nat} {d : D} {rows : List Row3} (h : l≠k) : rp (pl k d) (.lst l (rows.map rD))=.lst l (rows.map rD):=by rw [rp_ne h,rpL_rows]
theorem rp_li {k l : Nat} {d : D} {ns : List Int} (h : l≠k) : rp (pl k d) (.lst l (ns.map D.int))=.lst l (ns.map D.int):=by rw [rp_ne h,rpL_ints]
theorem rp_self {l : Nat} {d : D} {ds : List D} : rp (pl l d) (.lst l ds)=d:=by simp only [rp,pl,if_true]
theorem y_extT {l : Nat} {ds es : List D} {σ tm : List (Option D)} {n : Nat} (h : ds.length+es.length≤sizeLine) (hl : labsL es=[]) : extD (.lst l ds) [.tup es] ⟨σ,tm,n⟩=.ok .non ⟨rpO (pl l (.lst l (ds++es))) σ,rpO (pl l (.lst l (ds++es))) tm,n⟩:=by
  simp only [extD,seqD]
  rw [if_pos ⟨h,by rw [hl]; exact List.not_mem_nil⟩]
  rfl
theorem y_extL {l k : Nat} {ds es : List D} {σ tm : List (Option D)} {n : Nat} (h : ds.length+es.length≤sizeLine) (hl : labsL es=[]) : extD (.lst l ds) [.lst k es] ⟨σ,tm,n⟩=.ok .non ⟨rpO (pl l (.lst l (ds++es))) σ,rpO (pl l (.lst l (ds++es))) tm,n⟩:=by
  simp only [extD,seqD]
  rw [if_pos ⟨h,by rw [hl]; exact List.not_mem_nil⟩]
  rfl
theorem read_len {rows : List Row3} (hw : ∀ r∈rows,Wf r) : ∀ (m : Nat) (ks : List Int),ks.length≤m→(readA rows ks).1.length≤3 * ks.length∧(readA rows ks).2.length≤ks.length
  | 0,ks,h => by
    have e : ks=[]:=List.eq_nil_of_length_eq_zero (by omega)
    subst e; simp [readA_nil]
  | m+1,ks,h => by
    by_cases e : ks=[]
    · subst e; simp [readA_nil]
    · obtain ⟨l1,l2,l3⟩:=step_len hw e
      have ih:=read_len hw m (stepM rows ks).2.2 (by omega)
      rw [readA_step hw e]
      simp only [List.length_append]
      omega
theorem pread_while (rows : List Row3) (hw : ∀ r∈rows,Wf r) (l n q : Nat) (K : D) (hl : l < n) (hK : ∀ d,rp (pl n d) K=K) (hK1 : ∀ d,rp (pl (n+1) d) K=K) : ∀ (m : Nat) (R S L : List Int) (o5 o6 : Option D),R.length < m→R.length≤200→S.length+3 * R.length≤2000→L.length+R.length≤2000→(∀ k d,Option.map (rp (pl k d)) o5=o5)→(∀ k d,Option.map (rp (pl k d)) o6=o6)→∃ p5 p6,(∀ k d,Option.map (rp (pl k d)) p5=p5)∧(∀ k d,Option.map (rp (pl k d)) p6=p6) ∧
    whileGo (mTest (mVar 4)) (seqS (sAsg (.tp [(.nm 5),(.nm 6),(.nm 4)]) (mCall f_p_read_step [(mVar 0),(mVar 4)])) (seqS (sExpr (mMeth (mVar 2) [(mVar 5)] extD)) (sExpr (mMeth (mVar 3) [(mVar 6)] extD)))) m ⟨[some (.lst l (rows.map rD)),some K,some (.lst n (S.map .int)),some (.lst (n+1) (L.map .int)),some (.tup (R.map .int)),o5,o6],[some (.lst l (rows.map rD)),some K],q⟩
      = .nx ⟨[some (.lst l (rows.map rD)),some K,some (.lst n ((S++(readA rows R).1).map .int)),some (.lst (n+1) ((L++(readA rows R).2).map .int)),some (.tup []),p5,p6],[some (.lst l (rows.map rD)),some K],q⟩:=by
  intro m
  induction m with
  | zero => intro R S L o5 o6 h; omega
  | succ m ih =>
    intro R S L o5 o6 h h2 h3 h4 r5 r6
    unfold whileGo
    cases R with
    | nil =>
      refine ⟨o5,o6,r5,r6,?_⟩
      walk_at "mr"
      simp only [readA_nil,List.append_nil,List.map_nil,List.isEmpty_nil,Bool.not_true]
      walk_at "mr"
    | cons a R =>
      obtain ⟨l1,l2,l3⟩:=step_len hw (List.cons_ne_nil a R)
      have e0:=readA_step hw (List.cons_ne_nil a R)
      have ps:=pstep_eq rows (a :: R) l q hw (by omega)
      have hne : ((a :: R).map D.int).isEmpty=false:=rfl
      generalize hR : a :: R=R' at *
      walk_at "mr"
      simp only [hne]
      walk_at "mr"
      rw [ps]
      walk_at "mr"
      rw [y_extT (by rw [zl]; simp only [List.length_map]; omega) (ints_labs _)]
      walk_at "mr"
      simp only [← List.map_append,rp_rows (show l≠n by omega),rp_li (show n+1≠n by omega),rpL_ints,hK]
      walk_at "mr"
      simp only [rp_li (show n+1≠n by omega)]
      rw [y_extT (by rw [zl]; simp only [List.length_map]; omega) (ints_labs _)]
      walk_at "mr"
      simp only [← List.map_append,rp_rows (show l≠n+1 by omega),rp_li (show n≠n+1 by omega),rpL_ints,hK1]
      obtain ⟨p5,p6,g5,g6,e⟩:=ih (stepM rows R').2.2 (S++(stepM rows R').1) (L++(stepM rows R').2.1) (some (.tup ((stepM rows R').1.map .int))) (some (.tup ((stepM rows R').2.1.map .int))) (by omega) (by omega) (by rw [List.length_append]; omega) (by rw [List.length_append]; omega) (fun _ _ => by rw [Option.map_some,rp_tI]) (fun _ _ => by rw [Option.map_some,rp_tI])
      refine ⟨p5,p6,g5,g6,?_⟩
      rw [e,e0]
      simp only [List.append_assoc]
theorem pread_eq (rows : List Row3) (ks : List Int) (l n : Nat) (K : D) (hw : ∀ r∈rows,Wf r) (hk : ks.length≤200) (hl : l < n) (hK : (∃ k,k < n∧K=.lst k (ks.map .int))∨K=.tup (ks.map .int)) : f_p_read_keys [.lst l (rows.map rD),K] n=.ok (.tup [.lst n ((readA rows ks).1.map .int),.lst (n+1) ((readA rows ks).2.map .int)]) [.lst l (rows.map rD),K] (n+2):=by
  have hK2 : tupF [K]=tupF [.tup (ks.map .int)]:=by
    rcases hK with ⟨k,_,rfl⟩ | rfl <;> rfl
  unfold f_p_read_keys m_p_read_keys
  walk_at "mr"
  rw [hK2]
  walk_at "mr"
  rw [x_whl]
  have rK : ∀ j,n≤j→∀ d,rp (pl j d) K=K:=fun j hj d => by
    rcases hK with ⟨k,hk,rfl⟩ | rfl
    · exact rp_li (by omega)
    · exact rp_tI
  obtain ⟨p5,p6,_,_,e⟩:=pread_while rows hw l n (n+1+1) K hl (rK n (Nat.le_refl _)) (rK (n+1) (by omega)) 1000 ks [] [] none none (by omega) hk (by simp; omega) (by simp; omega) (fun _ _ => rfl) (fun _ _ => rfl)
  simp only [List.map_nil,List.nil_append] at e
  rw [e]
  walk_at "mr"
set_option Elab.async false
set_option linter.all false
set_option maxRecDepth 100000
set_option maxHeartbeats 1000000
theorem lread_while (rows : List Row3) (hw : ∀ r∈rows,Wf r) (l n : Nat) (K : D) (hl : l < n) (hK : ∀ d,rp (pl n d) K=K) (hK1 : ∀ d,rp (pl (n+1) d) K=K) : ∀ (m : Nat) (R S L : List Int) (o5 o6 : Option D) (q : Nat),n+2≤q→R.length < m→R.length≤200→S.length+3 * R.length≤2000→L.length+R.length≤2000→∃ p5 p6 q',q≤q' ∧
    whileGo (mBoo (mBin (mVar 4) (mCB [] tupD) neD)) (seqS (sAsg (.tp [(.nm 5),(.nm 6),(.nm 4)]) (mCall f_l_step [(mVar 0),(mVar 4)])) (seqS (sExpr (mMeth (mVar 2) [(mVar 5)] extD)) (sExpr (mMeth (mVar 3) [(mVar 6)] extD)))) m ⟨[some (.lst l (rows.map rD)),some K,some (.lst n (S.map .int)),some (.lst (n+1) (L.map .int)),some (.tup (R.map .int)),o5,o6],[some (.lst l (rows.map rD)),some K],q⟩
      = .nx ⟨[some (.lst l (rows.map rD)),some K,some (.lst n ((S++(readA rows R).1).map .int)),some (.lst (n+1) ((L++(readA rows R).2).map .int)),some (.tup []),p5,p6],[some (.lst l (rows.map rD)),some K],q'⟩:=by
  intro m
  induction m with
  | zero => intro R S L o5 o6 q hq h; omega
  | succ m ih =>
    intro R S L o5 o6 q hq h h2 h3 h4
    unfold whileGo
    by_cases hR : R=[]
    · subst hR
      refine ⟨o5,o6,q,Nat.le_refl _,?_⟩
      walk_at "mr"
      rw [show (D.tup [])=.tup (([] : List Int).map .int) from rfl,y_neTI]
      simp only [readA_nil,List.append_nil,decide_true,Bool.not_true]
      walk_at "mr"
    · obtain ⟨l1,l2,l3⟩:=step_len hw hR
      have e0:=readA_step hw hR
      have ps:=lstep_eq rows R l q hw hR (by omega) (by omega)
      walk_at "mr"
      rw [show (D.tup [])=.tup (([] : List Int).map .int) from rfl,y_neTI]
      simp only [hR,decide_false,Bool.not_false]
      walk_at "mr"
      rw [ps]
      walk_at "mr"
      rw [y_extL (by rw [zl]; simp only [List.length_map]; omega) (ints_labs _)]
      walk_at "mr"
      simp only [← List.map_append,rp_rows (show l≠n by omega),rp_li (show n+1≠n by omega),rp_li (show q≠n by omega),rp_li (show q+1≠n by omega),rpL_ints,hK]
      walk_at "mr"
      simp only [rp_li (show n+1≠n by omega)]
      rw [y_extL (by rw [zl]; simp only [List.length_map]; omega) (ints_labs _)]
      walk_at "mr"
      simp only [← List.map_append,rp_rows (show l≠n+1 by omega),rp_li (show n≠n+1 by omega),rp_li (show q≠n+1 by omega),rp_li (show q+1≠n+1 by omega),rpL_ints,hK1]
      obtain ⟨p5,p6,q',hq',e⟩:=ih (stepM rows R).2.2 (S++(stepM rows R).1) (L++(stepM rows R).2.1) (some (.lst q ((stepM rows R).1.map .int))) (some (.lst (q+1) ((stepM rows R).2.1.map .int))) (q+2) (by omega) (by omega) (by omega) (by rw [List.length_append]; omega) (by rw [List.length_append]; omega)
      refine ⟨p5,p6,q',by omega,?_⟩
      rw [e,e0]
      simp only [List.append_assoc]
theorem lread_eq (rows : List Row3) (ks : List Int) (l n : Nat) (K : D) (hw : ∀ r∈rows,Wf r) (hk : ks.length≤200) (hl : l < n) (hK : (∃ k,k < n∧K=.lst k (ks.map .int))∨K=.tup (ks.map .int)) : ∃ n',n≤n'∧f_l_read [.lst l (rows.map rD),K] n=.ok (.tup [.lst n ((readA rows ks).1.map .int),.lst (n+1) ((readA rows ks).2.map .int)]) [.lst l (rows.map rD),K] n':=by
  have hK2 : tupF [K]=tupF [.tup (ks.map .int)]:=by
    rcases hK with ⟨k,_,rfl⟩ | rfl <;> rfl
  unfold f_l_read m_l_read
  walk_at "mr"
  rw [hK2]
  walk_at "mr"
  rw [x_whl]
  have rK : ∀ j,n≤j→∀ d,rp (pl j d) K=K:=fun j hj d => by
    rcases hK with ⟨k,hk,rfl⟩ | rfl
    · exact rp_li (by omega)
    · exact rp_tI
  obtain ⟨p5,p6,q',hq',e⟩:=lread_while rows hw l n K hl (rK n (Nat.le_refl _)) (rK (n+1) (by omega)) 1000 ks [] [] none none (n+1+1) (by omega) (by omega) hk (by simp; omega) (by simp; omega)
  simp only [List.map_nil,List.nil_append] at e
  refine ⟨q',by omega,?_⟩
  rw [e]
  walk_at "mr"
theorem pend_eq (rows : List Row3) (ks : List Int) (l n : Nat) (hw : ∀ r∈rows,Wf r) (hk : ks.length≤200) (hl : l < n) : f_p_end_keys [.lst l (rows.map rD),.tup (ks.map .int)] n=.ok (.tup [.lst n ((readA rows ks).1.map .int),.lst (n+1) ((readA rows ks).2.map .int)]) [.lst l (rows.map rD),.tup (ks.map .int)] (n+2):=by
  unfold f_p_end_keys m_p_end_keys
  walk_at "mr"
  rw [pread_eq rows ks l n _ hw hk hl (.inr rfl)]
  walk_at "mr"
set_option Elab.async false
set_option linter.all false
set_option maxRecDepth 100000
set_option maxHeartbeats 1000000
noncomputable def stopB (rows : List Row3) (R : List Int) : Bool:=decide (R=[]) || rows.any (wt R)
noncomputable def pressM (rows : List Row3) : Nat→List Int→Row3
  | 0,R => ([],[],R)
  | m+1,R => if stopB rows R=true then ([],[],R) else ((stepM rows R).1++(pressM rows m (stepM rows R).2.2).1,(stepM rows R).2.1++(pressM rows m (stepM rows R).2.2).2.1,(pressM rows m (stepM rows R).2.2).2.2)
theorem keysOf_ints : ∀ ns : List Int,keysOf (ns.map D.int)=some (ns.map Sum.inl)
  | [] => rfl
  | n :: ns => by simp only [List.map_cons,keysOf,keyOf,keysOf_ints ns]
theorem tkey_tI (ns : List Int) : tkey (.tup (ns.map D.int))=some (ns.map Sum.inl):=keysOf_ints ns
structure SD (rows : List Row3) (ks vs : List D) : Prop where
  t : isT ks=true
  z : ks.length≤1000
  lv : labsL vs=[]
  lk : labsL ks=[]
  h : ∀ R : List Int,(findK ks vs (R.map Sum.inl)).isSome=stopB rows R
theorem y_dnin {rows : List Row3} {ks vs : List D} {j : Nat} {R : List Int} {s : Stt} (h : SD rows ks vs) : dninD (.tup (R.map D.int)) (.dct j ks vs) s=.ok (.bool (!stopB rows R)) s:=by
  unfold dninD
  simp only [rdD,if_pos h.t,tkey_tI,h.h]
  rfl
theorem rp_dct {k j : Nat} {d : D} {ks vs : List D} (h : j≠k) (hv : labsL vs=[]) : rp (pl k d) (.dct j ks vs)=.dct j ks vs:=by
  simp only [rp,pl,if_neg h]
  rw [rpL_id _ fun i hi => by rw [hv] at hi; cases hi]
theorem ppress_while (rows : List Row3) (hw : ∀ r∈rows,Wf r) (hr : rows.length < 1000) (l n : Nat) (W : List Int) (k : Int) (hl : l < n) : ∀ (m : Nat) (R S L : List Int) (o5 o6 : Option D) (q : Nat),n+2≤q→R.length < m→R.length≤200→S.length+3 * R.length≤2000→L.length+R.length≤2000→(∀ k d,Option.map (rp (pl k d)) o5=o5)→(∀ k d,Option.map (rp (pl k d)) o6=o6)→∃ p5 p6 q',q≤q' ∧
    whileGo (mAnd (mTest (mVar 5)) (mNot (mTest (mCall f_p_may_wait [(mVar 0),(mVar 5)])))) (seqS (sAsg (.tp [(.nm 6),(.nm 7),(.nm 5)]) (mCall f_p_read_step [(mVar 0),(mVar 5)])) (seqS (sExpr (mMeth (mVar 3) [(mVar 6)] extD)) (sExpr (mMeth (mVar 4) [(mVar 7)] extD)))) m ⟨[some (.lst l (rows.map rD)),some (.tup (W.map .int)),some (.int k),some (.lst n (S.map .int)),some (.lst (n+1) (L.map .int)),some (.tup (R.map .int)),o5,o6],[some (.lst l (rows.map rD)),some (.tup (W.map .int)),some (.int k)],q⟩
      = .nx ⟨[some (.lst l (rows.map rD)),some (.tup (W.map .int)),some (.int k),some (.lst n ((S++(pressM rows m R).1).map .int)),some (.lst (n+1) ((L++(pressM rows m R).2.1).map .int)),some (.tup ((pressM rows m R).2.2.map .int)),p5,p6],[some (.lst l (rows.map rD)),some (.tup (W.map .int)),some (.int k)],q'⟩:=by
  intro m
  induction m with
  | zero => intro R S L o5 o6 q hq h; omega
  | succ m ih =>
    intro R S L o5 o6 q hq h h2 h3 h4 r5 r6
    unfold whileGo pressM
    by_cases hR : R=[]
    · subst hR
      refine ⟨o5,o6,q,Nat.le_refl _,?_⟩
      walk_at "mr"
      simp only [stopB,decide_true,Bool.true_or,if_true,List.append_nil,List.map_nil,List.isEmpty_nil,Bool.not_true]
      walk_at "mr"
    · obtain ⟨l1,l2,l3⟩:=step_len hw hR
      have hne : (R.map D.int).isEmpty=false:=by cases R with | nil => exact absurd rfl hR | cons _ _ => rfl
      obtain ⟨q1,hq1,ew⟩:=wait_eq rows R l q hr
      walk_at "mr"
      simp only [hne]
      walk_at "mr"
      rw [ew]
      walk_at "mr"
      have hs : stopB rows R=rows.any (wt R):=by simp only [stopB,hR,decide_false,Bool.false_or]
      rw [hs]
      cases hwt : rows.any (wt R) with
      | true =>
        refine ⟨o5,o6,q1,hq1,?_⟩
        walk_at "mr"
        simp only [if_true,List.append_nil]
      | false =>
        walk_at "mr"
        rw [pstep_eq rows R l q1 hw (by omega)]
        walk_at "mr"
        rw [y_extT (by rw [zl]; simp only [List.length_map]; omega) (ints_labs _)]
        walk_at "mr"
        simp only [← List.map_append,rp_rows (show l≠n by omega),rp_li (show n+1≠n by omega),rpL_ints]
        walk_at "mr"
        simp only [rp_li (show n+1≠n by omega)]
        rw [y_extT (by rw [zl]; simp only [List.length_map]; omega) (ints_labs _)]
        walk_at "mr"
        simp only [← List.map_append,rp_rows (show l≠n+1 by omega),rp_li (show n≠n+1 by omega),rpL_ints]
        obtain ⟨p5,p6,q',hq',e⟩:=ih (stepM rows R).2.2 (S++(stepM rows R).1) (L++(stepM rows R).2.1) (some (.tup ((stepM rows R).1.map .int))) (some (.tup ((stepM rows R).2.1.map .int))) q1 (by omega) (by omega) (by omega) (by rw [List.length_append]; omega) (by rw [List.length_append]; omega) (fun _ _ => by rw [Option.map_some,rp_tI]) (fun _ _ => by rw [Option.map_some,rp_tI])
        refine ⟨p5,p6,q',by omega,?_⟩
        rw [e]
        simp only [List.append_assoc,Bool.false_eq_true,if_false]
theorem ppress_eq (rows : List Row3) (W : List Int) (k : Int) (l n : Nat) (hw : ∀ r∈rows,Wf r) (hr : rows.length < 1000) (hk : W.length≤100) (hl : l < n) : ∃ n',n+2≤n'∧f_p_press [.lst l (rows.map rD),.tup (W.map .int),.int k] n=.ok (.tup [.lst n ((pressM rows 1000 (W++[k])).1.map .int),.lst (n+1) ((pressM rows 1000 (W++[k])).2.1.map .int),.tup ((pressM rows 1000 (W++[k])).2.2.map .int)]) [.lst l (rows.map rD),.tup (W.map .int),.int k] n':=by
  unfold f_p_press m_p_press
  walk_at "mr"
  rw [y_addT (by rw [zl]; simp only [List.length_map,List.length_cons,List.length_nil]; omega)]
  walk_at "mr"
  rw [x_whl,show W.map D.int++[D.int k]=(W++[k]).map D.int by rw [List.map_append]; rfl]
  have hl2 : (W++[k]).length=W.length+1:=by simp
  obtain ⟨p5,p6,q',hq',e⟩:=ppress_while rows hw hr l n W k hl 1000 (W++[k]) [] [] none none (n+1+1) (by omega) (by omega) (by omega) (by simp only [List.length_nil]; omega) (by simp only [List.length_nil]; omega) (fun _ _ => rfl) (fun _ _ => rfl)
  simp only [List.map_nil,List.nil_append] at e
  refine ⟨q',by omega,?_⟩
  rw [e]
  walk_at "mr"
set_option Elab.async false
set_option linter.all false
set_option maxRecDepth 100000
set_option maxHeartbeats 1000000
theorem lpress_while (rows : List Row3) (hw : ∀ r∈rows,Wf r) (l n j : Nat) (ks vs : List D) (hd : SD rows ks vs) (W : List Int) (k : Int) (hl : l < n) (hj : j < n) : ∀ (m : Nat) (R S L : List Int) (o5 o6 : Option D) (q : Nat),n+2≤q→R.length < m→R.length≤200→S.length+3 * R.length≤2000→L.length+R.length≤2000→∃ p5 p6 q',q≤q' ∧
    whileGo (mBoo (mBin (mVar 6) (mVar 1) dninD)) (seqS (sAsg (.tp [(.nm 7),(.nm 8),(.nm 6)]) (mCall f_l_step [(mVar 0),(mVar 6)])) (seqS (sExpr (mMeth (mVar 4) [(mVar 7)] extD)) (sExpr (mMeth (mVar 5) [(mVar 8)] extD)))) m ⟨[some (.lst l (rows.map rD)),some (.dct j ks vs),some (.tup (W.map .int)),some (.int k),some (.lst n (S.map .int)),some (.lst (n+1) (L.map .int)),some (.tup (R.map .int)),o5,o6],[some (.lst l (rows.map rD)),some (.dct j ks vs),some (.tup (W.map .int)),some (.int k)],q⟩
      = .nx ⟨[some (.lst l (rows.map rD)),some (.dct j ks vs),some (.tup (W.map .int)),some (.int k),some (.lst n ((S++(pressM rows m R).1).map .int)),some (.lst (n+1) ((L++(pressM rows m R).2.1).map .int)),some (.tup ((pressM rows m R).2.2.map .int)),p5,p6],[some (.lst l (rows.map rD)),some (.dct j ks vs),some (.tup (W.map .int)),some (.int k)],q'⟩:=by
  intro m
  induction m with
  | zero => intro R S L o5 o6 q hq h; omega
  | succ m ih =>
    intro R S L o5 o6 q hq h h2 h3 h4
    unfold whileGo pressM
    walk_at "mr"
    rw [y_dnin hd]
    cases hs : stopB rows R with
    | true =>
      refine ⟨o5,o6,q,Nat.le_refl _,?_⟩
      walk_at "mr"
      simp only [if_true,List.append_nil]
    | false =>
      have hR : R≠[]:=fun e => by rw [e] at hs; simp [stopB] at hs
      obtain ⟨l1,l2,l3⟩:=step_len hw hR
      walk_at "mr"
      rw [lstep_eq rows R l q hw hR (by omega) (by omega)]
      walk_at "mr"
      rw [y_extL (by rw [zl]; simp only [List.length_map]; omega) (ints_labs _)]
      walk_at "mr"
      simp only [← List.map_append,rp_rows (show l≠n by omega),rp_dct (show j≠n by omega) hd.lv,rp_li (show n+1≠n by omega),rp_li (show q≠n by omega),rp_li (show q+1≠n by omega),rpL_ints]
      walk_at "mr"
      simp only [rp_li (show n+1≠n by omega)]
      rw [y_extL (by rw [zl]; simp only [List.length_map]; omega) (ints_labs _)]
      walk_at "mr"
      simp only [← List.map_append,rp_rows (show l≠n+1 by omega),rp_dct (show j≠n+1 by omega) hd.lv,rp_li (show n≠n+1 by omega),rp_li (show q≠n+1 by omega),rp_li (show q+1≠n+1 by omega),rpL_ints]
      obtain ⟨p5,p6,q',hq',e⟩:=ih (stepM rows R).2.2 (S++(stepM rows R).1) (L++(stepM rows R).2.1) (some (.lst q ((stepM rows R).1.map .int))) (some (.lst (q+1) ((stepM rows R).2.1.map .int))) (q+2) (by omega) (by omega) (by omega) (by rw [List.length_append]; omega) (by rw [List.length_append]; omega)
      refine ⟨p5,p6,q',by omega,?_⟩
      rw [e]
      simp only [List.append_assoc,Bool.false_eq_true,if_false]
theorem lpress_eq (rows : List Row3) (W : List Int) (k : Int) (l n j : Nat) (ks vs : List D) (hd : SD rows ks vs) (hw : ∀ r∈rows,Wf r) (hk : W.length≤100) (hl : l < n) (hj : j < n) : ∃ n',n+2≤n'∧f_l_press [.lst l (rows.map rD),.dct j ks vs,.tup (W.map .int),.int k] n=.ok (.tup [.lst n ((pressM rows 1000 (W++[k])).1.map .int),.lst (n+1) ((pressM rows 1000 (W++[k])).2.1.map .int),.tup ((pressM rows 1000 (W++[k])).2.2.map .int)]) [.lst l (rows.map rD),.dct j ks vs,.tup (W.map .int),.int k] n':=by
  unfold f_l_press m_l_press
  walk_at "mr"
  rw [y_addT (by rw [zl]; simp only [List.length_map,List.length_cons,List.length_nil]; omega)]
  walk_at "mr"
  rw [x_whl,show W.map D.int++[D.int k]=(W++[k]).map D.int by rw [List.map_append]; rfl]
  have hl2 : (W++[k]).length=W.length+1:=by simp
  obtain ⟨p5,p6,q',hq',e⟩:=lpress_while rows hw l n j ks vs hd W k hl hj 1000 (W++[k]) [] [] none none (n+1+1) (by omega) (by omega) (by omega) (by simp only [List.length_nil]; omega) (by simp only [List.length_nil]; omega)
  simp only [List.map_nil,List.nil_append] at e
  refine ⟨q',by omega,?_⟩
  rw [e]
  walk_at "mr"
set_option Elab.async false
set_option linter.all false
set_option maxRecDepth 100000
set_option maxHeartbeats 1000000
noncomputable def kd (p : List Int) : D:=.tup (p.map .int)
noncomputable def dD (j : Nat) (PK : List (List Int)) : D:=.dct j (PK.map kd) (PK.map fun _ => .bool true)
noncomputable def addK (PK : List (List Int)) (p : List Int) : List (List Int):=if p∈PK then PK else PK++[p]
theorem inl_inj {a b : List Int} (h : (a.map Sum.inl : List Key)=b.map Sum.inl) : a=b:=by
  induction a generalizing b with
  | nil => cases b with | nil => rfl | cons _ _ => simp at h
  | cons x a ih => cases b with
    | nil => simp at h
    | cons y b =>
      simp only [List.map_cons,List.cons.injEq,Sum.inl.injEq] at h
      rw [h.1,ih h.2]
theorem tkey_kd {p R : List Int} : (tkey (kd p)=some (R.map Sum.inl))↔p=R:=by
  unfold kd
  rw [tkey_tI,Option.some.injEq]
  exact ⟨inl_inj,fun h => by rw [h]⟩
theorem dk_kd (p : List Int) : dkD (p.map Sum.inl)=kd p:=by
  unfold dkD kd
  rw [List.map_map]; rfl
theorem find_dD (R : List Int) : ∀ PK : List (List Int),(findK (PK.map kd) (PK.map fun _ => D.bool true) (R.map Sum.inl)).isSome=decide (R∈PK)
  | [] => rfl
  | p :: PK => by
    simp only [List.map_cons,findK]
    by_cases h : p=R
    · rw [if_pos (tkey_kd.mpr h)]; simp [h]
    · rw [if_neg fun z => h (tkey_kd.mp z),find_dD R PK]
      simp only [List.mem_cons,decide_eq_decide]
      exact ⟨.inr,fun z => z.resolve_left fun e => h e.symm⟩
theorem any_kd (PK : List (List Int)) (R : List Int) : ((PK.map kd).any fun d => decide (tkey d=some (R.map Sum.inl)))=decide (R∈PK):=by
  rw [List.any_map]
  induction PK with
  | nil => rfl
  | cons p PK ih =>
    simp only [List.any_cons,Function.comp,tkey_kd]
    try simp only [Function.comp,tkey_kd] at ih
    rw [ih]
    by_cases h : p=R
    · simp [h]
    · simp only [h,decide_false,Bool.false_or,List.mem_cons,decide_eq_decide]
      exact ⟨.inr,fun z => z.resolve_left fun e => h e.symm⟩
theorem put_dD {j : Nat} {PK : List (List Int)} {R : List Int} {s : Stt} (hz : PK.length≤1000) : dputD (dD j PK) (.tup (R.map .int)) (.bool true) s=.nx (s.put j (dD j (addK PK R))):=by
  have hT : isT (PK.map kd)=true:=by cases PK <;> rfl
  have hl : labsL (PK.map fun _ => D.bool true)=[]:=labsL_nil fun d hd => by obtain ⟨_,_,rfl⟩:=List.mem_map.mp hd; rfl
  unfold dputD dD
  simp only [tkey_tI]
  rw [if_pos ⟨hT,by rw [List.length_map,zl]; omega,rfl,hl⟩]
  have e1 : putKs (PK.map kd) (R.map Sum.inl)=(addK PK R).map kd:=by
    unfold putKs addK
    rw [any_kd]
    by_cases h : R∈PK
    · simp only [h,decide_true,if_true]
    · simp only [h,decide_false,Bool.false_eq_true,if_false,List.map_append,dk_kd]; rfl
  have e2 : putVs (PK.map kd) (PK.map fun _ => D.bool true) (R.map Sum.inl) (.bool true)=(addK PK R).map fun _ => D.bool true:=by
    unfold putVs addK
    rw [any_kd]
    by_cases h : R∈PK
    · simp only [h,decide_true,if_true]
      clear h hz hT hl e1
      induction PK with
      | nil => rfl
      | cons p PK ih => simp only [List.map_cons,List.zipWith_cons_cons,ite_self,ih]
    · simp only [h,decide_false,Bool.false_eq_true,if_false,List.map_append]; rfl
  rw [e1,e2]
theorem mem_addK {PK : List (List Int)} {p R : List Int} : R∈addK PK p↔R∈PK∨R=p:=by
  unfold addK
  split
  · rename_i h; exact ⟨.inl,fun z => z.elim id fun e => e ▸ h⟩
  · simp
theorem len_addK {PK : List (List Int)} {p : List Int} : (addK PK p).length≤PK.length+1:=by
  unfold addK; split <;> simp
theorem rp_dDs {j : Nat} {d : D} {PK : List (List Int)} : rp (pl j d) (dD j PK)=d:=by unfold dD; simp only [rp,pl,if_true]
theorem rp_rD {k : Nat} {d : D} {r : Row3} : rp (pl k d) (rD r)=rD r:=rp_fresh (by rw [rD_labs]; exact List.not_mem_nil)
theorem disp_nil {σ tm : List (Option D)} {n : Nat} (hσ : ∀ d,rpO (pl n d) σ=σ) (ht : ∀ d,rpO (pl n d) tm=tm) : mDisp1 (mCB [] tupD) (mC (.bool true)) ⟨σ,tm,n⟩=.ok (dD n [[]]) ⟨σ,tm,n+1⟩:=by
  have e : mDisp1 (mCB [] tupD) (mC (.bool true)) ⟨σ,tm,n⟩=.ok (dD n [[]]) ⟨rpO (pl n (dD n [[]])) σ,rpO (pl n (dD n [[]])) tm,n+1⟩:=by
    unfold mDisp1
    rfl
  rw [e,hσ,ht]
theorem starts_row (r : Row3) (l j n : Nat) (rows : List Row3) (hl : l≠j) (hr : r.1.length≤4) (PK : List (List Int)) (hz : PK.length≤900) (o3 : Option D) (h3 : ∀ k d,Option.map (rp (pl k d)) o3=o3) : ∃ PK' p3,(∀ k d,Option.map (rp (pl k d)) p3=p3)∧PK'.length≤PK.length+4∧(∀ R,R∈PK'↔R∈PK∨(R≠[]∧R.length < r.1.length∧r.1.take R.length=R)) ∧
    sFor (mRng2 [(mC (.int 1)),(mCB [(mBin (mVar 2) (mC (.int 0)) ixD)] lenD)]) (.nm 3) (mTri (mC (.bool true)) (mVar 1) (mSl (mBin (mVar 2) (mC (.int 0)) ixD) none (some (mVar 3))) dputD) ⟨[some (.lst l (rows.map rD)),some (dD j PK),some (rD r),o3],[some (.lst l (rows.map rD)),some (.lst l (rows.map rD))],n⟩
      = .nx ⟨[some (.lst l (rows.map rD)),some (dD j PK'),some (rD r),p3],[some (.lst l (rows.map rD)),some (.lst l (rows.map rD))],n⟩:=by
  have er : rng2 [.int 1,.int (r.1.length : Int)] ⟨[some (.lst l (rows.map rD)),some (dD j PK),some (rD r),o3],[some (.lst l (rows.map rD)),some (.lst l (rows.map rD))],n⟩=.ok (kRng 1 (r.1.length - 1)) ⟨[some (.lst l (rows.map rD)),some (dD j PK),some (rD r),o3],[some (.lst l (rows.map rD)),some (.lst l (rows.map rD))],n⟩:=by
    simp only [rng2]
    rw [if_pos (by omega),show ((r.1.length : Int) - 1).toNat=r.1.length - 1 by omega]
    rfl
  have em : mRng2 [(mC (.int 1)),(mCB [(mBin (mVar 2) (mC (.int 0)) ixD)] lenD)] ⟨[some (.lst l (rows.map rD)),some (dD j PK),some (rD r),o3],[some (.lst l (rows.map rD)),some (.lst l (rows.map rD))],n⟩=.ok (kRng 1 (r.1.length - 1)) ⟨[some (.lst l (rows.map rD)),some (dD j PK),some (rD r),o3],[some (.lst l (rows.map rD)),some (.lst l (rows.map rD))],n⟩:=by
    show bd (mArgs _) rng2 _=_
    walk_at "mr"
    rw [lenM,er]
  walk_at "mr"
  rw [em]
  walk_at "mr"
  obtain ⟨s',e,PK',p3,rfl,g3,hlen,hmem⟩:=for_rng (P:=fun i s => ∃ PK' p3,s=⟨[some (.lst l (rows.map rD)),some (dD j PK'),some (rD r),p3],[some (.lst l (rows.map rD)),some (.lst l (rows.map rD))],n⟩∧(∀ k d,Option.map (rp (pl k d)) p3=p3)∧PK'.length≤PK.length+i∧∀ R,R∈PK'↔R∈PK∨∃ t : Nat,1≤t∧t≤i∧R=r.1.take t) (lo:=1) (N:=r.1.length - 1) (g:=.nm 3) (b:=mTri (mC (.bool true)) (mVar 1) (mSl (mBin (mVar 2) (mC (.int 0)) ixD) none (some (mVar 3))) dputD) (by
    rintro i hi s ⟨PK',p3,rfl,g3,hlen,hmem⟩
    refine ⟨_,rfl,?_⟩
    refine ⟨_,?_,addK PK' (r.1.take (i+1)),some (.int (1+(i : Int))),rfl,fun _ _ => rfl,Nat.le_trans len_addK (by omega),fun R => ?_⟩
    · walk_at "mr"
      rw [show (1+(i : Int))=((i+1 : Nat) : Int) by omega,cut_tk,tk_tI,put_dD (by omega)]
      simp only [put_pl,rpO_cons,rpO_nil,Option.map_some,rp_rows hl,rp_dDs,rp_rD,rp_int]
    · rw [mem_addK,hmem]
      constructor
      · rintro ((h | ⟨t,h1,h2,h3⟩) | h)
        · exact .inl h
        · exact .inr ⟨t,h1,by omega,h3⟩
        · exact .inr ⟨i+1,by omega,by omega,h⟩
      · rintro (h | ⟨t,h1,h2,h3⟩)
        · exact .inl (.inl h)
        · by_cases ht : t=i+1
          · exact .inr (ht ▸ h3)
          · exact .inl (.inr ⟨t,h1,by omega,h3⟩)) (r.1.length - 1) 0 ⟨[some (.lst l (rows.map rD)),some (dD j PK),some (rD r),o3],[some (.lst l (rows.map rD)),some (.lst l (rows.map rD))],n⟩ (by omega) ⟨PK,o3,rfl,h3,by omega,fun R => ⟨.inl,fun h => h.elim id fun ⟨t,h1,h2,_⟩ => by omega⟩⟩
  refine ⟨PK',p3,g3,by omega,fun R => ?_,?_⟩
  · rw [hmem]
    constructor
    · rintro (h | ⟨t,h1,h2,h3⟩)
      · exact .inl h
      · have hlt : (r.1.take t).length=t:=by rw [List.length_take]; omega
        refine .inr ⟨fun e => ?_,by rw [h3,hlt]; omega,by rw [h3,hlt]⟩
        rw [e] at h3
        have:=congrArg List.length h3
        rw [hlt] at this
        simp at this; omega
    · rintro (h | ⟨h1,h2,h3⟩)
      · exact .inl h
      · refine .inr ⟨R.length,?_,by omega,h3.symm⟩
        cases R with
        | nil => exact absurd rfl h1
        | cons _ _ => simp
  · exact e
theorem starts_eq (rows : List Row3) (l n : Nat) (hw : ∀ r∈rows,Wf r) (hr : rows.length≤60) (hl : l < n) : ∃ ks vs,SD rows ks vs∧f_l_starts [.lst l (rows.map rD)] n=.ok (.dct n ks vs) [.lst l (rows.map rD)] (n+1):=by
  unfold f_l_starts m_l_starts
  walk_at "mr"
  rw [disp_nil (fun d => by simp only [rpO_cons,rpO_nil,Option.map_some,Option.map_none,rp_rows (show l≠n by omega)]) (fun d => by simp only [rpO_cons,rpO_nil,Option.map_some,rp_rows (show l≠n by omega)])]
  walk_at "mr"
  obtain ⟨s',e,PK,o2,o3,rfl,g3,hlen,hmem⟩:=for_lsti (P:=fun i s => ∃ PK o2 o3,s=⟨[some (.lst l (rows.map rD)),some (dD n PK),o2,o3],some (.lst l (rows.map rD)) :: [some (.lst l (rows.map rD))],n+1⟩∧(∀ k d,Option.map (rp (pl k d)) o3=o3)∧PK.length≤1+4 * i∧∀ R,R∈PK↔R=[]∨∃ r∈rows.take i,R≠[]∧R.length < r.1.length∧r.1.take R.length=R) (l:=l) (ds:=rows.map rD) (g:=.nm 2) (tm:=[some (.lst l (rows.map rD))])
    (b:=sFor (mRng2 [(mC (.int 1)),(mCB [(mBin (mVar 2) (mC (.int 0)) ixD)] lenD)]) (.nm 3) (mTri (mC (.bool true)) (mVar 1) (mSl (mBin (mVar 2) (mC (.int 0)) ixD) none (some (mVar 3))) dputD))
    (by rintro i s ⟨PK,o2,o3,rfl,_⟩; rfl) (by
      rintro i d hd s ⟨PK,o2,o3,rfl,g3,hlen,hmem⟩
      refine ⟨_,rfl,?_⟩
      rw [List.getElem?_map] at hd
      cases hr' : rows[i]? with
      | none => rw [hr'] at hd; cases hd
      | some r =>
        rw [hr'] at hd
        cases hd
        have hi : i < rows.length:=(List.getElem?_eq_some_iff.mp hr').1
        obtain ⟨PK',p3,g3',hlen',hmem',e⟩:=starts_row r l n (n+1) rows (by omega) (hw r (List.mem_of_getElem? hr')).2.1 PK (by omega) o3 g3
        refine ⟨_,e,PK',some (rD r),p3,rfl,g3',by omega,fun R => ?_⟩
        rw [hmem',hmem,List.take_add_one,hr',Option.toList_some]
        constructor
        · rintro ((h | ⟨q,hq,h⟩) | h)
          · exact .inl h
          · exact .inr ⟨q,List.mem_append_left _ hq,h⟩
          · exact .inr ⟨r,List.mem_append_right _ (List.mem_singleton.mpr rfl),h⟩
        · rintro (h | ⟨q,hq,h⟩)
          · exact .inl (.inl h)
          · rcases List.mem_append.mp hq with hq | hq
            · exact .inl (.inr ⟨q,hq,h⟩)
            · rw [List.mem_singleton.mp hq] at h; exact .inr h) rows.length 0 ⟨[some (.lst l (rows.map rD)),some (dD n [[]]),none,none],some (.lst l (rows.map rD)) :: [some (.lst l (rows.map rD))],n+1⟩ (by simp) ⟨[[]],none,none,rfl,fun _ _ => rfl,by simp,fun R => by simp⟩
  rw [x_seqI (l := l) (ds := rows.map rD) (σ := [some (.lst l (rows.map rD)), some (dD n [[]]), none, none]) (tm := [some (.lst l (rows.map rD))]) (n := n + 1) (by walk_at "mr")]
  walk_at "mr"
  rw [show kLst.len (some (.lst l (rows.map rD)) :: [some (.lst l (rows.map rD))])=rows.length by show (rows.map rD).length=_; simp,e]
  simp only [px1]
  walk_at "mr"
  rw [List.length_map,List.take_length] at hmem
  rw [List.length_map] at hlen
  refine ⟨_,_,⟨by cases PK <;> rfl,by rw [List.length_map]; omega,labsL_nil fun d hd => (by obtain ⟨_,_,rfl⟩:=List.mem_map.mp hd; rfl),labsL_nil fun d hd => (by obtain ⟨p,_,rfl⟩:=List.mem_map.mp hd; exact ints_labs p),fun R => ?_⟩,rfl⟩
  rw [find_dD]
  unfold stopB
  by_cases hR : R=[]
  · simp only [hR,decide_true,Bool.true_or]
    exact decide_eq_true ((hmem []).mpr (.inl rfl))
  · simp only [hR,decide_false,Bool.false_or]
    rw [Bool.eq_iff_iff,decide_eq_true_iff,hmem,List.any_eq_true]
    constructor
    · rintro (h | ⟨r,h1,_,h2,h3⟩)
      · exact absurd h hR
      · exact ⟨r,h1,by simp only [wt,h2,h3,decide_true,Bool.and_self]⟩
    · rintro ⟨r,h1,h2⟩
      simp only [wt,Bool.and_eq_true,decide_eq_true_eq] at h2
      exact .inr ⟨r,h1,hR,h2⟩
set_option Elab.async false
set_option linter.all false
set_option maxRecDepth 100000
set_option maxHeartbeats 1000000
noncomputable def vD (r : Row3) : D:=.tup [tI r.2.1,tI r.2.2]
noncomputable def TD (j : Nat) (E : List Row3) : D:=.dct j (E.map fun r => kd r.1) (E.map vD)
noncomputable def putE (E : List Row3) (r : Row3) : List Row3:=if r.1∈E.map (·.1) then E.map (fun e => if e.1=r.1 then (e.1,r.2) else e) else E++[r]
theorem vD_labs (r : Row3) : labs (vD r)=[]:=by unfold vD; simp only [labs,labsL,ints_labs]; rfl
theorem TD_lv (E : List Row3) : labsL (E.map vD)=[]:=labsL_nil fun d hd => by obtain ⟨r,_,rfl⟩:=List.mem_map.mp hd; exact vD_labs r
theorem put_TD {j : Nat} {E : List Row3} {r : Row3} {s : Stt} (hz : E.length≤1000) : dputD (TD j E) (.tup (r.1.map .int)) (vD r) s=.nx (s.put j (TD j (putE E r))):=by
  have hT : isT (E.map fun r => kd r.1)=true:=by cases E <;> rfl
  have ha : ((E.map fun r => kd r.1).any fun d => decide (tkey d=some (r.1.map Sum.inl)))=decide (r.1∈E.map (·.1)):=by
    rw [← any_kd,List.map_map]; rfl
  unfold dputD TD
  simp only [tkey_tI]
  rw [if_pos ⟨hT,by rw [List.length_map,zl]; omega,vD_labs r,TD_lv E⟩]
  have e1 : putKs (E.map fun r => kd r.1) (r.1.map Sum.inl)=(putE E r).map fun r => kd r.1:=by
    unfold putKs putE
    rw [ha]
    by_cases h : r.1∈E.map (·.1)
    · simp only [h,decide_true,if_true,List.map_map]
      refine List.map_congr_left fun e _ => ?_
      simp only [Function.comp]; split <;> rfl
    · simp only [h,decide_false,Bool.false_eq_true,if_false,List.map_append,dk_kd]; rfl
  have e2 : putVs (E.map fun r => kd r.1) (E.map vD) (r.1.map Sum.inl) (vD r)=(putE E r).map vD:=by
    unfold putVs putE
    rw [ha]
    by_cases h : r.1∈E.map (·.1)
    · simp only [h,decide_true,if_true]
      clear h hz hT ha e1
      induction E with
      | nil => rfl
      | cons e E ih =>
        simp only [List.map_cons,List.zipWith_cons_cons,ih]
        congr 1
        by_cases h : e.1=r.1
        · rw [if_pos (tkey_kd.mpr h),if_pos h]; rfl
        · rw [if_neg fun z => h (tkey_kd.mp z),if_neg h]
    · simp only [h,decide_false,Bool.false_eq_true,if_false,List.map_append]; rfl
  rw [e1,e2]
theorem wf_putE {E : List Row3} {r : Row3} (h : ∀ e∈E,Wf e) (hr : Wf r) : ∀ e∈putE E r,Wf e:=fun e he => by
  unfold putE at he
  split at he
  · obtain ⟨q,hq,rfl⟩:=List.mem_map.mp he
    split
    · rename_i hk; exact hk ▸ hr
    · exact h q hq
  · rcases List.mem_append.mp he with he | he
    · exact h e he
    · rw [List.mem_singleton.mp he]; exact hr
theorem len_putE {E : List Row3} {r : Row3} : (putE E r).length≤E.length+1:=by unfold putE; split <;> simp
theorem nd_putE {E : List Row3} {r : Row3} (h : (E.map (·.1)).Nodup) : ((putE E r).map (·.1)).Nodup:=by
  unfold putE
  split
  · rw [List.map_map]
    have : ((fun x : Row3 => x.1) ∘ fun e => if e.1=r.1 then (e.1,r.2) else e)=fun x : Row3 => x.1:=by funext e; simp only [Function.comp]; split <;> rfl
    rw [this]; exact h
  · rename_i hn
    rw [List.map_append,List.nodup_append]
    refine ⟨h,by simp,fun a ha b hb e => ?_⟩
    simp only [List.map_cons,List.map_nil,List.mem_singleton] at hb
    exact hn (hb ▸ e ▸ ha)
theorem find_TD {E : List Row3} {r : Row3} (h : (E.map (·.1)).Nodup) (hr : r∈E) : findK (E.map fun r => kd r.1) (E.map vD) (r.1.map Sum.inl)=some (vD r):=by
  induction E with
  | nil => cases hr
  | cons e E ih =>
    simp only [List.map_cons,List.nodup_cons] at h
    simp only [List.map_cons,findK]
    by_cases hk : e.1=r.1
    · rw [if_pos (tkey_kd.mpr hk)]
      rcases List.mem_cons.mp hr with rfl | hm
      · rfl
      · exact absurd (List.mem_map.mpr ⟨r,hm,hk.symm⟩) h.1
    · rw [if_neg fun z => hk (tkey_kd.mp z)]
      rcases List.mem_cons.mp hr with rfl | hm
      · exact absurd rfl hk
      · exact ih h.2 hm
theorem rp_TD {k j : Nat} {d : D} {E : List Row3} (h : j≠k) : rp (pl k d) (TD j E)=TD j E:=rp_dct h (TD_lv E)
theorem rp_TDs {j : Nat} {d : D} {E : List Row3} : rp (pl j d) (TD j E)=d:=by unfold TD; simp only [rp,pl,if_true]
noncomputable def FD (E : List Row3) : D:=.fdc (E.map fun r => kd r.1) (E.map vD)
theorem y_dgtF {E : List Row3} {r : Row3} {s : Stt} (h : (E.map (·.1)).Nodup) (hr : r∈E) : dgtD (FD E) (.tup (r.1.map .int)) s=.ok (vD r) s:=by
  unfold dgtD FD
  simp only [rdD,tkey_tI,find_TD h hr]
  rfl
noncomputable def gE (E : List Row3) (d : D) : D:=match E.find? (fun r => decide (r.1=unI d)) with
  | some r => rD r
  | none => d
theorem gE_kd {E : List Row3} {r : Row3} (h : (E.map (·.1)).Nodup) (hr : r∈E) : gE E (kd r.1)=rD r:=by
  unfold gE kd
  rw [unI_tI]
  have : E.find? (fun e => decide (e.1=r.1))=some r:=by
    induction E with
    | nil => cases hr
    | cons e E ih =>
      simp only [List.map_cons,List.nodup_cons] at h
      rw [List.find?_cons]
      by_cases hk : e.1=r.1
      · simp only [hk,decide_true]
        rcases List.mem_cons.mp hr with rfl | hm
        · rfl
        · exact absurd (List.mem_map.mpr ⟨r,hm,hk.symm⟩) h.1
      · simp only [hk,decide_false]
        rcases List.mem_cons.mp hr with rfl | hm
        · exact absurd rfl hk
        · exact ih h.2 hm
  rw [this]
theorem rows_ret {E : List Row3} {j : Nat} {m0 : M D} {σ tm : List (Option D)} {n : Nat} {s : Stt} (hn : (E.map (·.1)).Nodup) (hz : E.length≤1000) (i0 : Nat) (hσ : σ[i0]?=some (some (FD E))) (hm : mDctI m0 s=.ok kDct ⟨σ,some (FD E) :: tm,n⟩) :
    ∃ n',n≤n'∧mComp (mDctI m0) (.nm 0) (rt true) (mBin (mCB [(mVar 0)] tupD) (mBin (mVar 1) (mVar 0) dgtD) addD) 1 [i0] s=.ok (.lst n' (E.map rD)) ⟨σ,tm,n'+1⟩:=by
  obtain ⟨n',h1,h2⟩:=mComp_gen (mi:=mDctI m0) (K:=kDct) (mt:=rt true) (me:=mBin (mCB [(mVar 0)] tupD) (mBin (mVar 1) (mVar 0) dgtD) addD) (p:=fun _ => true) (g:=gE E) (items:=E.map fun r => kd r.1) (its:=[some (FD E)]) (ix:=[i0]) (s:=s) (σ:=σ) (tm:=tm) (n:=n) hm rfl (by rw [List.length_map,zl]; omega) (fun i rest => rfl) (by show (E.map fun r => kd r.1).length=_; rfl) (fun d hd tm n => ⟨n,Nat.le_refl _,rfl⟩) (by
      intro d hd _ tm n
      obtain ⟨r,hr,rfl⟩:=List.mem_map.mp hd
      refine ⟨n,Nat.le_refl _,?_⟩
      rw [gE_kd hn hr]
      simp only [List.map_cons,List.map_nil,hσ,Option.getD_some]
      walk_at "mr"
      unfold kd
      rw [y_dgtF hn hr]
      walk_at "mr"
      unfold vD
      rw [y_addT (by rw [zl]; simp)]
      rfl)
  refine ⟨n',h1,?_⟩
  rw [h2,List.filter_eq_self.mpr (fun _ _ => rfl),List.map_map]
  have e : List.map (gE E ∘ fun r => kd r.1) E=E.map rD:=List.map_congr_left fun r hr => gE_kd hn hr
  rw [e]
set_option Elab.async false
set_option linter.all false
set_option maxRecDepth 100000
set_option maxHeartbeats 1000000
noncomputable abbrev sg (l : Nat) (c x : Int) (o1 : Option D) (lt fi tp : Int) (dc : D) (o6 o7 o8 o9 oa : Option D) : List (Option D):=[some (.lst l [.int c,.int x]),o1,some (.int lt),some (.int fi),some (.int tp),some dc,o6,o7,o8,o9,oa]
theorem ints_of : ∀ {ys : List D},(∀ y∈ys,∃ i : Int,y=.int i)→∃ ns : List Int,ys=ns.map .int
  | [],_ => ⟨[],rfl⟩
  | y :: ys,h => by
    obtain ⟨i,rfl⟩:=h y (List.mem_cons_self ..)
    obtain ⟨ns,rfl⟩:=ints_of fun z hz => h z (List.mem_cons_of_mem _ hz)
    exact ⟨i :: ns,rfl⟩
theorem cmpA (l n : Nat) (c x lt fi tp N : Int) (o1 o6 o7 o8 o9 oa : Option D) (dc : D) (ms : List (M D)) (s : Stt) (hms : mArgs ms s=.ok [.int N] ⟨sg l c x o1 lt fi tp dc o6 o7 o8 o9 oa,[some (.lst l [.int c,.int x])],n⟩) (h0 : 0≤N) (h1 : N≤100) (hb : Bg c x) (hn : l < n) (hlt : 0 < lt) (hlt' : lt < 1000)
    (r1 : ∀ d,Option.map (rp (pl l d)) o1=o1) (rd : ∀ d,rp (pl l d) dc=dc) (r6 : ∀ d,Option.map (rp (pl l d)) o6=o6) (r7 : ∀ d,Option.map (rp (pl l d)) o7=o7) (r8 : ∀ d,Option.map (rp (pl l d)) o8=o8) (r9 : ∀ d,Option.map (rp (pl l d)) o9=o9) (ra : ∀ d,Option.map (rp (pl l d)) oa=oa) :
    ∃ (ns : List Int) (c' x' : Int) (n' : Nat),(ns.length : Int)=N∧Bg c' x'∧n≤n'∧mComp (mRng1 ms) (.nm 0) (rt true) (mBin (mBin (mVar 1) (mCall f_l_take [(mVar 2),(mVar 3)]) addD) (mC (.int 26)) modD) 1 [3,0,2] s=.ok (.lst n' (ns.map .int)) ⟨sg l c' x' o1 lt fi tp dc o6 o7 o8 o9 oa,[some (.lst l [.int c',.int x'])],n'+1⟩:=by
  obtain ⟨ys,b',n',g1,g2,g3,⟨c3,x3,rfl,h3⟩,g5,g6⟩:=mComp_rng (ms:=ms) (me:=mBin (mBin (mVar 1) (mCall f_l_take [(mVar 2),(mVar 3)]) addD) (mC (.int 26)) modD) (N:=N.toNat) (ix:=[3,0,2]) (s:=s) (l:=l) (n:=n) (j:=N) (σ0:=sg l c x o1 lt fi tp dc o6 o7 o8 o9 oa) (tm0:=[some (.lst l [.int c,.int x])]) (b:=[.int c,.int x]) (Bg:=fun b => ∃ c x,b=[.int c,.int x]∧Bg c x) (Q:=fun _ d => ∃ i : Int,d=.int i) (fun _ _ _ _ h => h)
      hms rfl ⟨by omega,by omega⟩ (by rw [zl]; omega) ⟨c,x,rfl,hb⟩ hn (by simp only [sg,rpO_cons,rpO_nil,Option.map_some,rp_self,rp_int,r1,rd,r6,r7,r8,r9,ra]) (by simp only [rpO_cons,rpO_nil,Option.map_some,rp_self]) (by simp only [sg,List.map_cons,List.map_nil,List.getElem?_cons_zero,List.getElem?_cons_succ,Option.getD_some,rpO_cons,rpO_nil,Option.map_some,rp_self,rp_int]) (by
        rintro i hi b tm m ⟨c,x,rfl,hb⟩ hm hf
        obtain ⟨r,c',x',hs0,hs1,h',e'⟩:=take_eq l c x lt m hb hlt (by omega)
        refine ⟨.int ((fi+r) % 26),[.int c',.int x'],m,⟨c',x',rfl,h'⟩,⟨_,rfl⟩,Nat.le_refl _,by simp [labs],?_⟩
        simp only [sg,List.map_cons,List.map_nil,List.getElem?_cons_zero,List.getElem?_cons_succ,Option.getD_some]
        walk_at "mr"
        rw [e', callK_bag rfl rfl rfl (by walk_at "mr") (by walk_at "mr"; simp only [hf])]
        walk_at "mr"
        rw [y_mod (by decide)]
        try rfl)
  obtain ⟨ns,rfl⟩:=ints_of g2
  refine ⟨ns,c3,x3,n',by simp at g1; omega,h3,by omega,?_⟩
  rw [g6]
  simp only [sg,rpO_cons,rpO_nil,Option.map_some,rp_self,rp_int,r1,rd,r6,r7,r8,r9,ra]
theorem cmpB (l n : Nat) (c x lt fi tp N : Int) (o1 o6 o7 o8 o9 oa : Option D) (dc : D) (ms : List (M D)) (s : Stt) (hms : mArgs ms s=.ok [.int N] ⟨sg l c x o1 lt fi tp dc o6 o7 o8 o9 oa,[some (.lst l [.int c,.int x])],n⟩) (h0 : 0≤N) (h1 : N≤100) (hb : Bg c x) (hn : l < n) (hlt : 0 < tp) (hlt' : tp < 1000)
    (r1 : ∀ d,Option.map (rp (pl l d)) o1=o1) (rd : ∀ d,rp (pl l d) dc=dc) (r6 : ∀ d,Option.map (rp (pl l d)) o6=o6) (r7 : ∀ d,Option.map (rp (pl l d)) o7=o7) (r8 : ∀ d,Option.map (rp (pl l d)) o8=o8) (r9 : ∀ d,Option.map (rp (pl l d)) o9=o9) (ra : ∀ d,Option.map (rp (pl l d)) oa=oa) :
    ∃ (ns : List Int) (c' x' : Int) (n' : Nat),(ns.length : Int)=N∧Bg c' x'∧n≤n'∧mComp (mRng1 ms) (.nm 0) (rt true) (mCall f_l_take [(mVar 1),(mVar 2)]) 1 [0,4] s=.ok (.lst n' (ns.map .int)) ⟨sg l c' x' o1 lt fi tp dc o6 o7 o8 o9 oa,[some (.lst l [.int c',.int x'])],n'+1⟩:=by
  obtain ⟨ys,b',n',g1,g2,g3,⟨c3,x3,rfl,h3⟩,g5,g6⟩:=mComp_rng (ms:=ms) (me:=mCall f_l_take [(mVar 1),(mVar 2)]) (N:=N.toNat) (ix:=[0,4]) (s:=s) (l:=l) (n:=n) (j:=N) (σ0:=sg l c x o1 lt fi tp dc o6 o7 o8 o9 oa) (tm0:=[some (.lst l [.int c,.int x])]) (b:=[.int c,.int x]) (Bg:=fun b => ∃ c x,b=[.int c,.int x]∧Bg c x) (Q:=fun _ d => ∃ i : Int,d=.int i) (fun _ _ _ _ h => h)
      hms rfl ⟨by omega,by omega⟩ (by rw [zl]; omega) ⟨c,x,rfl,hb⟩ hn (by simp only [sg,rpO_cons,rpO_nil,Option.map_some,rp_self,rp_int,r1,rd,r6,r7,r8,r9,ra]) (by simp only [rpO_cons,rpO_nil,Option.map_some,rp_self]) (by simp only [sg,List.map_cons,List.map_nil,List.getElem?_cons_zero,List.getElem?_cons_succ,Option.getD_some,rpO_cons,rpO_nil,Option.map_some,rp_self,rp_int]) (by
        rintro i hi b tm m ⟨c,x,rfl,hb⟩ hm hf
        obtain ⟨r,c',x',hs0,hs1,h',e'⟩:=take_eq l c x tp m hb hlt (by omega)
        refine ⟨.int r,[.int c',.int x'],m,⟨c',x',rfl,h'⟩,⟨_,rfl⟩,Nat.le_refl _,by simp [labs],?_⟩
        simp only [sg,List.map_cons,List.map_nil,List.getElem?_cons_zero,List.getElem?_cons_succ,Option.getD_some]
        walk_at "mr"
        rw [e', callK_bag rfl rfl rfl (by walk_at "mr") hf]
        walk_at "mr")
  obtain ⟨ns,rfl⟩:=ints_of g2
  refine ⟨ns,c3,x3,n',by simp at g1; omega,h3,by omega,?_⟩
  rw [g6]
  simp only [sg,rpO_cons,rpO_nil,Option.map_some,rp_self,rp_int,r1,rd,r6,r7,r8,r9,ra]
set_option Elab.async false
set_option linter.all false
set_option maxRecDepth 100000
set_option maxHeartbeats 1000000
noncomputable def tb : MS:=(seqS (sAsg (.nm 8) (mCB [(mComp (mRng1 [(mBin (mC (.int 1)) (mCall f_l_take [(mVar 0),(mC (.int 4))]) addD)]) (.nm 0) (rt true) (mBin (mBin (mVar 1) (mCall f_l_take [(mVar 2),(mVar 3)]) addD) (mC (.int 26)) modD) 1 [3,0,2])] tupF))
    (seqS (sAsg (.nm 9) (mCB [(mComp (mRng1 [(mCall f_l_take [(mVar 0),(mC (.int 4))])]) (.nm 0) (rt true) (mCall f_l_take [(mVar 1),(mVar 2)]) 1 [0,4])] tupF))
    (seqS (sAsg (.nm 10) (mCB [(mComp (mRng1 [(mCall f_l_take [(mVar 0),(mCB [(mVar 8)] lenD)])]) (.nm 0) (rt true) (mBin (mBin (mVar 1) (mCall f_l_take [(mVar 2),(mVar 3)]) addD) (mC (.int 26)) modD) 1 [3,0,2])] tupF))
    (mTri (mCB [(mVar 9),(mVar 10)] tupD) (mVar 5) (mVar 8) dputD))))
noncomputable abbrev Fre (o : Option D) : Prop:=∀ k d,Option.map (rp (pl k d)) o=o
theorem fre_tI (ns : List Int) : Fre (some (.tup (ns.map .int))):=fun _ _ => by rw [Option.map_some,rp_tI]
theorem fre_int (i : Int) : Fre (some (.int i)):=fun _ _ => rfl
theorem fre_none : Fre none:=fun _ _ => rfl
theorem tb_eq (l j n : Nat) (c x lt fi tp : Int) (o1 o6 o7 o8 o9 oa : Option D) (E : List Row3) (hE : E.length≤900) (hb : Bg c x) (hn : l < n) (hj : j < n) (hlj : l≠j) (h0 : 0 < lt) (h1 : lt < 1000) (h2 : 0 < tp) (h3 : tp < 1000) (f1 : Fre o1) (f6 : Fre o6) (f7 : Fre o7) (f8 : Fre o8) (f9 : Fre o9) (fa : Fre oa) :
    ∃ (r : Row3) (c' x' : Int) (n' : Nat) (p8 p9 pa : Option D),Wf r∧Bg c' x'∧n≤n'∧Fre p8∧Fre p9∧Fre pa∧tb ⟨sg l c x o1 lt fi tp (TD j E) o6 o7 o8 o9 oa,[some (.lst l [.int c,.int x])],n⟩=.nx ⟨sg l c' x' o1 lt fi tp (TD j (putE E r)) o6 o7 p8 p9 pa,[some (.lst l [.int c',.int x'])],n'⟩:=by
  have rd : ∀ d,rp (pl l d) (TD j E)=TD j E:=fun d => rp_TD (fun h => hlj h.symm)
  unfold tb
  walk_at "mr"
  obtain ⟨q,c1,x1,hq0,hq1,b1,e1⟩:=take_eq l c x 4 n hb (by decide) (by decide)
  obtain ⟨ks,c2,x2,n2,lk,b2,hn2,e2⟩:=cmpA l n c1 x1 lt fi tp (1+q) o1 o6 o7 o8 o9 oa (TD j E) [(mBin (mC (.int 1)) (mCall f_l_take [(mVar 0),(mC (.int 4))]) addD)] ⟨sg l c x o1 lt fi tp (TD j E) o6 o7 o8 o9 oa,[some (.lst l [.int c,.int x])],n⟩ (by
    unfold sg
    walk_at "mr"
    rw [e1, callK_bag rfl rfl rfl (by walk_at "mr"; simp only [f1 l, f6 l, f7 l, f8 l, f9 l, fa l, rd]) (by walk_at "mr")]
    walk_at "mr"
    simp only [f1 l,f6 l,f7 l,f8 l,f9 l,fa l,rd]) (by omega) (by omega) b1 hn h0 h1 (f1 l) rd (f6 l) (f7 l) (f8 l) (f9 l) (fa l)
  rw [e2]
  unfold sg
  walk_at "mr"
  obtain ⟨q3,c3,x3,hq30,hq31,b3,e3⟩:=take_eq l c2 x2 4 (n2+1) b2 (by decide) (by decide)
  obtain ⟨ss,c4,x4,n4,ls,b4,hn4,e4⟩:=cmpB l (n2+1) c3 x3 lt fi tp q3 o1 o6 o7 (some (.tup (ks.map .int))) o9 oa (TD j E) [(mCall f_l_take [(mVar 0),(mC (.int 4))])] ⟨sg l c2 x2 o1 lt fi tp (TD j E) o6 o7 (some (.tup (ks.map .int))) o9 oa,[some (.lst l [.int c2,.int x2])],n2+1⟩ (by
    unfold sg
    walk_at "mr"
    rw [e3, callK_bag rfl rfl rfl (by walk_at "mr"; simp only [f1 l, f6 l, f7 l, f9 l, fa l, rd, rpL_ints]) (by walk_at "mr")]
    walk_at "mr"
    simp only [f1 l,f6 l,f7 l,f9 l,fa l,rd,rpL_ints]) (by omega) (by omega) b3 (by omega) h2 h3 (f1 l) rd (f6 l) (f7 l) (fre_tI ks l) (f9 l) (fa l)
  unfold sg at e4
  rw [e4]
  walk_at "mr"
  obtain ⟨q5,c5,x5,hq50,hq51,b5,e5⟩:=take_eq l c4 x4 ks.length (n4+1) b4 (by omega) (by omega)
  obtain ⟨fs,c6,x6,n6,lf,b6,hn6,e6⟩:=cmpA l (n4+1) c5 x5 lt fi tp q5 o1 o6 o7 (some (.tup (ks.map .int))) (some (.tup (ss.map .int))) oa (TD j E) [(mCall f_l_take [(mVar 0),(mCB [(mVar 8)] lenD)])] ⟨sg l c4 x4 o1 lt fi tp (TD j E) o6 o7 (some (.tup (ks.map .int))) (some (.tup (ss.map .int))) oa,[some (.lst l [.int c4,.int x4])],n4+1⟩ (by
    unfold sg
    walk_at "mr"
    rw [lenM, e5, callK_bag rfl rfl rfl (by walk_at "mr"; simp only [f1 l, f6 l, f7 l, fa l, rd, rpL_ints]) (by walk_at "mr")]
    walk_at "mr"
    simp only [f1 l,f6 l,f7 l,fa l,rd,rpL_ints]) (by omega) (by omega) b5 (by omega) h0 h1 (f1 l) rd (f6 l) (f7 l) (fre_tI ks l) (fre_tI ss l) (fa l)
  unfold sg at e6
  rw [e6]
  walk_at "mr"
  have hp:=put_TD (j:=j) (E:=E) (r:=(ks,ss,fs)) (s:=⟨[some (.lst l [.int c6,.int x6]),o1,some (.int lt),some (.int fi),some (.int tp),some (TD j E),o6,o7,some (.tup (ks.map .int)),some (.tup (ss.map .int)),some (.tup (fs.map .int))],[some (.lst l [.int c6,.int x6])],n6+1⟩) (by omega)
  unfold vD tI at hp
  rw [hp]
  refine ⟨(ks,ss,fs),c6,x6,n6+1,some (.tup (ks.map .int)),some (.tup (ss.map .int)),some (.tup (fs.map .int)),⟨by show 1≤ks.length; omega,by show ks.length≤4; omega,by show ss.length≤3; omega,by show fs.length < ks.length; omega⟩,b6,by omega,fre_tI ks,fre_tI ss,fre_tI fs,?_⟩
  simp only [put_pl,rpO_cons,rpO_nil,Option.map_some,rp_tI,rp_int,rp_TDs,f1 j,f6 j,f7 j,rp_ne hlj,rpL_cons,rpL_nil]
set_option Elab.async false
set_option linter.all false
set_option maxRecDepth 100000
set_option maxHeartbeats 1000000
theorem at2' {a b w : Int} (h0 : 0≤w) (h1 : w < 2) : ∃ v,(v=a∨v=b)∧atI [D.int a,D.int b] w=some (.int v):=by
  have : w=0∨w=1:=by omega
  rcases this with rfl | rfl
  · exact ⟨a,.inl rfl,at0⟩
  · exact ⟨b,.inr rfl,at1⟩
noncomputable def tb1 : MS:=mTri (mCB [(mCB [(mCall f_l_take [(mVar 0),(mVar 4)])] tupD),(mCB [] tupD)] tupD) (mVar 5) (mCB [(mBin (mBin (mVar 3) (mVar 6) addD) (mC (.int 26)) modD)] tupD) dputD
theorem x_dnew {σ tm : List (Option D)} {n : Nat} : dnewM ⟨σ,tm,n⟩=.ok (TD n []) ⟨σ,tm,n+1⟩:=(rfl)
theorem tb1_eq (l j n : Nat) (c x lt fi tp k : Int) (o1 o7 o8 o9 oa : Option D) (E : List Row3) (hE : E.length≤900) (hb : Bg c x) (hlj : l≠j) (h2 : 0 < tp) (h3 : tp < 1000) (f1 : Fre o1) (f7 : Fre o7) (f8 : Fre o8) (f9 : Fre o9) (fa : Fre oa) :
    ∃ (r : Row3) (c' x' : Int),Wf r∧Bg c' x'∧tb1 ⟨sg l c x o1 lt fi tp (TD j E) (some (.int k)) o7 o8 o9 oa,[some (.lst l [.int c,.int x])],n⟩=.nx ⟨sg l c' x' o1 lt fi tp (TD j (putE E r)) (some (.int k)) o7 o8 o9 oa,[some (.lst l [.int c',.int x'])],n⟩:=by
  have rd : ∀ d,rp (pl l d) (TD j E)=TD j E:=fun d => rp_TD (fun h => hlj h.symm)
  unfold tb1 sg
  walk_at "mr"
  obtain ⟨q,c1,x1,hq0,hq1,b1,e1⟩:=take_eq l c x tp n hb h2 (by omega)
  rw [e1, callK_bag rfl rfl rfl (by walk_at "mr"; simp only [f1 l, f7 l, f8 l, f9 l, fa l, rd]) (by walk_at "mr")]
  walk_at "mr"
  simp only [f1 l,f7 l,f8 l,f9 l,fa l,rd]
  try (walk_at "mr")
  rw [y_mod (by decide)]
  walk_at "mr"
  have hp:=put_TD (j:=j) (E:=E) (r:=([(fi+k) % 26],[q],[])) (s:=⟨[some (.lst l [.int c1,.int x1]),o1,some (.int lt),some (.int fi),some (.int tp),some (TD j E),some (.int k),o7,o8,o9,oa],[some (.lst l [.int c1,.int x1])],n⟩) (by omega)
  unfold vD tI at hp
  simp only [List.map_cons,List.map_nil] at hp
  rw [hp]
  refine ⟨([(fi+k) % 26],[q],[]),c1,x1,⟨by simp,by simp,by simp,by simp⟩,b1,?_⟩
  simp only [put_pl,rpO_cons,rpO_nil,Option.map_some,rp_int,rp_TDs,f1 j,f7 j,f8 j,f9 j,fa j,rp_ne hlj,rpL_cons,rpL_nil]
theorem table_eq (l n : Nat) (c x : Int) (hb : Bg c x) (hn : l < n) : ∃ (rows : List Row3) (c' x' : Int) (k n' : Nat),(∀ r∈rows,Wf r)∧rows.length≤40∧Bg c' x'∧n≤k∧k < n'∧f_l_table [.lst l [.int c,.int x]] n=.ok (.lst k (rows.map rD)) [.lst l [.int c',.int x']] n':=by
  unfold f_l_table
  have e0 : m_l_table=(seqS (sAsg (.nm 1) (mBin (mCall f_l_take [(mVar 0),(mC (.int 8))]) (mC (.int 7)) fdivD))
    (seqS (sAsg (.nm 2) (mBin (mCB [(mBin (mC (.int 1)) (mCall f_l_take [(mVar 0),(mC (.int 4))]) addD),(mC (.int 26))] lstM) (mVar 1) ixD))
    (seqS (sAsg (.nm 3) (mCall f_l_take [(mVar 0),(mC (.int 26))]))
    (seqS (sAsg (.nm 4) (mBin (mCB [(mC (.int 3)),(mC (.int 40))] lstM) (mCall f_l_take [(mVar 0),(mC (.int 2))]) ixD))
    (seqS (sAsg (.nm 5) dnewM)
    (seqS (sIf (mBoo (mBin (mCall f_l_take [(mVar 0),(mC (.int 2))]) (mC (.int 0)) eqD)) (sFor (mRng1 [(mVar 2)]) (.nm 6) tb1) sNx)
    (seqS (sFor (mRng1 [(mBin (mCB [(mCall f_l_take [(mVar 0),(mC (.int 8))]),(mC (.int 40))] lstM) (mVar 1) ixD)]) (.nm 7) tb)
    (sRet (mSl (mComp (mDctI (mVar 5)) (.nm 0) (rt true) (mBin (mCB [(mVar 0)] tupD) (mBin (mVar 1) (mVar 0) dgtD) addD) 1 [5]) none (some (mC (.int 40)))))))))))):=rfl
  rw [e0]
  walk_at "mr"
  obtain ⟨q1,c1,x1,hq1,hq1',b1,e1⟩:=take_eq l c x 8 n hb (by decide) (by decide)
  rw [e1, callK_bag rfl rfl rfl (by walk_at "mr") (by walk_at "mr")]
  walk_at "mr"
  rw [y_fdiv ⟨by decide,by decide⟩]
  walk_at "mr"
  obtain ⟨q2,c2,x2,hq2,hq2',b2,e2⟩:=take_eq l c1 x1 4 n b1 (by decide) (by decide)
  rw [e2, callK_bag rfl rfl rfl (by walk_at "mr") (by walk_at "mr")]
  walk_at "mr"
  generalize hw : q1 / 7=w
  have hw0 : 0≤w:=by omega
  have hw1 : w < 2:=by omega
  obtain ⟨lt,hlt,elt⟩:=at2' (a:=1+q2) (b:=26) hw0 hw1
  rw [elt]
  walk_at "mr"
  obtain ⟨fi,c3,x3,hq3,hq3',b3,e3⟩:=take_eq l c2 x2 26 (n+1) b2 (by decide) (by decide)
  rw [e3, callK_bag rfl rfl rfl (by walk_at "mr") (by walk_at "mr")]
  walk_at "mr"
  obtain ⟨q4,c4,x4,hq4,hq4',b4,e4⟩:=take_eq l c3 x3 2 (n+1+1) b3 (by decide) (by decide)
  rw [e4, callK_bag rfl rfl rfl (by walk_at "mr"; try simp only [rp_ne (show n + 1 ≠ l by omega), rpL_cons, rpL_nil, rp_int]) (by walk_at "mr"; try simp only [rp_ne (show n + 1 ≠ l by omega), rpL_cons, rpL_nil, rp_int])]
  walk_at "mr"
  simp only [rp_ne (show n+1≠l by omega),rpL_cons,rpL_nil,rp_int]
  walk_at "mr"
  obtain ⟨tp,htp,etp⟩:=at2' (a:=3) (b:=40) hq4 hq4'
  rw [etp]
  walk_at "mr"
  rw [x_dnew]
  walk_at "mr"
  have hj : l≠n+1+1:=by omega
  have rd0 : ∀ d,rp (pl l d) (TD (n+1+1) [])=TD (n+1+1) []:=fun d => rp_TD (fun h => hj h.symm)
  obtain ⟨q5,c5,x5,hq5,hq5',b5,e5⟩:=take_eq l c4 x4 2 (n+1+1+1) b4 (by decide) (by decide)
  rw [e5, callK_bag rfl rfl rfl (by walk_at "mr"; simp only [rd0]) (by walk_at "mr")]
  walk_at "mr"
  simp only [rd0]
  try (walk_at "mr")
  have k1 : ∃ (E : List Row3) (c6 x6 : Int) (o6 : Option D),(∀ e∈E,Wf e)∧E.length≤26∧(E.map (·.1)).Nodup∧Bg c6 x6∧Fre o6∧iteS (q5 == 0) (sFor (mRng1 [(mVar 2)]) (.nm 6) tb1) sNx ⟨sg l c5 x5 (some (.int w)) lt fi tp (TD (n+1+1) []) none none none none none,[some (.lst l [.int c5,.int x5])],n+1+1+1⟩=.nx ⟨sg l c6 x6 (some (.int w)) lt fi tp (TD (n+1+1) E) o6 none none none none,[some (.lst l [.int c6,.int x6])],n+1+1+1⟩:=by
    cases (q5 == 0) with
    | false => exact ⟨[], c5, x5, none, fun e h => absurd h List.not_mem_nil, by simp, by simp, b5, fre_none, by unfold sg; walk_at "mr"⟩
    | true =>
      unfold sg
      walk_at "mr"
      rw [y_rng1 ⟨by omega,by omega⟩]
      walk_at "mr"
      obtain ⟨s',e,E,c6,x6,o6,rfl,g1,g2,g3,g4,g5⟩:=for_rng (P:=fun i s => ∃ (E : List Row3) (c6 x6 : Int) (o6 : Option D),s=⟨sg l c6 x6 (some (.int w)) lt fi tp (TD (n+1+1) E) o6 none none none none,[some (.lst l [.int c6,.int x6])],n+1+1+1⟩∧(∀ e∈E,Wf e)∧E.length≤i∧(E.map (·.1)).Nodup∧Bg c6 x6∧Fre o6) (lo:=0) (N:=lt.toNat) (g:=.nm 6) (b:=tb1) (by
        rintro i hi s ⟨E,c6,x6,o6,rfl,g1,g2,g3,g4,g5⟩
        refine ⟨sg l c6 x6 (some (.int w)) lt fi tp (TD (n+1+1) E) (some (.int (0+(i : Int)))) none none none none,rfl,?_⟩
        obtain ⟨r,c7,x7,hr,b7,e7⟩:=tb1_eq l (n+1+1) (n+1+1+1) c6 x6 lt fi tp (0+(i : Int)) (some (.int w)) none none none none E (by omega) g4 hj (by omega) (by omega) (fre_int w) fre_none fre_none fre_none fre_none
        exact ⟨_,e7,putE E r,c7,x7,_,rfl,wf_putE g1 hr,Nat.le_trans len_putE (by omega),nd_putE g3,b7,fre_int _⟩) lt.toNat 0 ⟨sg l c5 x5 (some (.int w)) lt fi tp (TD (n+1+1) []) none none none none none,[some (.lst l [.int c5,.int x5])],n+1+1+1⟩ (by omega) ⟨[],c5,x5,none,rfl,fun e h => absurd h List.not_mem_nil,by simp,by simp,b5,fre_none⟩
      exact ⟨E,c6,x6,o6,g1,by omega,g3,g4,g5,e⟩
  obtain ⟨E,c6,x6,o6,g1,g2,g3,b6,f6,e6⟩:=k1
  unfold sg at e6
  rw [e6]
  walk_at "mr"
  have rd1 : ∀ d,rp (pl l d) (TD (n+1+1) E)=TD (n+1+1) E:=fun d => rp_TD (fun h => hj h.symm)
  obtain ⟨q7,c7,x7,hq7,hq7',b7,e7⟩:=take_eq l c6 x6 8 (n+1+1+1) b6 (by decide) (by decide)
  rw [e7, callK_bag rfl rfl rfl (by walk_at "mr"; simp only [rd1, f6 l]) (by walk_at "mr")]
  walk_at "mr"
  simp only [rd1,f6 l]
  try (walk_at "mr")
  obtain ⟨N,hN,eN⟩:=at2' (a:=q7) (b:=40) hw0 hw1
  rw [eN]
  walk_at "mr"
  rw [y_rng1 ⟨by omega,by omega⟩]
  walk_at "mr"
  obtain ⟨s',e8,E2,c8,x8,o7,o8,o9,oa,n8,rfl,g1',g2',g3',b8,hn8,f7,f8,f9,fa⟩:=for_rng (P:=fun i s => ∃ (E2 : List Row3) (c8 x8 : Int) (o7 o8 o9 oa : Option D) (n8 : Nat),s=⟨sg l c8 x8 (some (.int w)) lt fi tp (TD (n+1+1) E2) o6 o7 o8 o9 oa,[some (.lst l [.int c8,.int x8])],n8⟩∧(∀ e∈E2,Wf e)∧E2.length≤26+i∧(E2.map (·.1)).Nodup∧Bg c8 x8∧n+1+1+1+1≤n8∧Fre o7∧Fre o8∧Fre o9∧Fre oa) (lo:=0) (N:=N.toNat) (g:=.nm 7) (b:=tb) (by
    rintro i hi s ⟨E2,c8,x8,o7,o8,o9,oa,n8,rfl,g1',g2',g3',b8,hn8,f7,f8,f9,fa⟩
    refine ⟨sg l c8 x8 (some (.int w)) lt fi tp (TD (n+1+1) E2) o6 (some (.int (0+(i : Int)))) o8 o9 oa,rfl,?_⟩
    obtain ⟨r,c9,x9,n9,p8,p9,pa,hr,b9,hn9,h8,h9,ha,e9⟩:=tb_eq l (n+1+1) n8 c8 x8 lt fi tp (some (.int w)) o6 (some (.int (0+(i : Int)))) o8 o9 oa E2 (by omega) b8 (by omega) (by omega) hj (by omega) (by omega) (by omega) (by omega) (fre_int w) f6 (fre_int _) f8 f9 fa
    exact ⟨_,e9,putE E2 r,c9,x9,_,p8,p9,pa,n9,rfl,wf_putE g1' hr,Nat.le_trans len_putE (by omega),nd_putE g3',b9,by omega,fre_int _,h8,h9,ha⟩) N.toNat 0 ⟨sg l c7 x7 (some (.int w)) lt fi tp (TD (n+1+1) E) o6 none none none none,[some (.lst l [.int c7,.int x7])],n+1+1+1+1⟩ (by omega) ⟨E,c7,x7,none,none,none,none,n+1+1+1+1,rfl,g1,by omega,g3,b7,Nat.le_refl _,fre_none,fre_none,fre_none,fre_none⟩
  unfold sg at e8
  rw [e8]
  walk_at "mr"
  have hT : isT (E2.map fun r => kd r.1)=true:=by cases E2 <;> rfl
  obtain ⟨n9,hn9,e9⟩:=rows_ret (E:=E2) (j:=n+1+1) (m0:=mVar 5) (σ:=[some (.lst l [.int c8,.int x8]),some (.int w),some (.int lt),some (.int fi),some (.int tp),some (FD E2),o6,o7,o8,o9,oa]) (tm:=[some (.lst l [.int c8,.int x8])]) (n:=n8) (s:=⟨[some (.lst l [.int c8,.int x8]),some (.int w),some (.int lt),some (.int fi),some (.int tp),some (TD (n+1+1) E2),o6,o7,o8,o9,oa],[some (.lst l [.int c8,.int x8])],n8⟩) g3' (by omega) 5 rfl (by
    unfold mDctI
    walk_at "mr"
    show (if isT (E2.map fun r => kd r.1)=true∧labsL (E2.map vD)=[] then _ else _)=_
    rw [if_pos ⟨hT,TD_lv E2⟩]
    simp only [put_pl,rpO_cons,rpO_nil,Option.map_some,rp_int,rp_TDs,f6 (n+1+1),f7 (n+1+1),f8 (n+1+1),f9 (n+1+1),fa (n+1+1),rp_ne hj,rpL_cons,rpL_nil]
    rfl)
  rw [e9]
  walk_at "mr"
  refine ⟨E2.take 40,c8,x8,n9+1,n9+1+1,fun r hr => g1' r (List.mem_of_mem_take hr),by rw [List.length_take]; omega,b8,by omega,by omega,?_⟩
  rw [show (40 : Int)=((40 : Nat) : Int) from rfl,cut_tk,← List.map_take]
set_option Elab.async false
set_option linter.all false
set_option maxRecDepth 100000
set_option maxHeartbeats 1000000
theorem y_app {l : Nat} {ds : List D} {y : D} {σ tm : List (Option D)} {n : Nat} (h : ds.length < sizeLine) (hl : labs y=[]) : appD (.lst l ds) [y] ⟨σ,tm,n⟩=.ok .non ⟨rpO (pl l (.lst l (ds++[y]))) σ,rpO (pl l (.lst l (ds++[y]))) tm,n⟩:=by
  simp only [appD]
  rw [if_pos ⟨h,by rw [hl]; exact List.not_mem_nil⟩]
  rfl
theorem at_ints {ns : List Int} {i : Int} (h0 : 0≤i) (h1 : i < ns.length) : ∃ v : Int,atI (ns.map D.int) i=some (.int v):=by
  obtain ⟨d,hd,e⟩:=at_mem (ds:=ns.map D.int) h0 (by simpa using h1)
  obtain ⟨v,_,rfl⟩:=List.mem_map.mp hd
  exact ⟨v,e⟩
theorem intB {b : Bool} : ∃ v : Int,(0≤v∧v < 2)∧(if b then (1 : Int) else 0)=v:=by cases b <;> exact ⟨_,⟨by decide,by decide⟩,rfl⟩
theorem pr1_eq (rows : List Row3) (hw : ∀ r∈rows,Wf r) (hr : rows.length≤60) (B : D) (k n : Nat) (m7 : Option D) (hk : k < n) (hB : ∀ d,rp (pl n d) B=B) : ∃ (ms : List Int) (o4 o5 o6 : Option D),ms≠[]∧ms.length≤300∧Fre o4∧Fre o5∧Fre o6 ∧
    sFor (mSeqI (mVar 1)) (.tp [(.nm 4),(.nm 5),(.nm 6)]) (sExpr (mMeth (mVar 3) [(mVar 4)] extD)) ⟨[some B,some (.lst k (rows.map rD)),some (.int 60),some (.lst n [.int 0]),none,none,none,none,none,none],[some B,some (.lst k (rows.map rD)),some (.int 60)],n+1⟩
      = .nx ⟨[some B,some (.lst k (rows.map rD)),some (.int 60),some (.lst n (ms.map .int)),o4,o5,o6,none,none,none],[some B,some (.lst k (rows.map rD)),some (.int 60)],n+1⟩:=by
  walk_at "mr"
  obtain ⟨s',e,ms,o4,o5,o6,rfl,g1,g2,g4,g5,g6⟩:=for_lsti (P:=fun i s => ∃ (ms : List Int) (o4 o5 o6 : Option D),s=⟨[some B,some (.lst k (rows.map rD)),some (.int 60),some (.lst n (ms.map .int)),o4,o5,o6,none,none,none],some (.lst k (rows.map rD)) :: [some B,some (.lst k (rows.map rD)),some (.int 60)],n+1⟩∧ms≠[]∧ms.length≤1+4 * i∧Fre o4∧Fre o5∧Fre o6) (l:=k) (ds:=rows.map rD) (g:=.tp [(.nm 4),(.nm 5),(.nm 6)]) (tm:=[some B,some (.lst k (rows.map rD)),some (.int 60)])
    (b:=sExpr (mMeth (mVar 3) [(mVar 4)] extD)) (by rintro i s ⟨ms,o4,o5,o6,rfl,_⟩; rfl) (by
      rintro i d hd s ⟨ms,o4,o5,o6,rfl,g1,g2,g4,g5,g6⟩
      rw [List.getElem?_map] at hd
      cases hr' : rows[i]? with
      | none => rw [hr'] at hd; cases hd
      | some r =>
        rw [hr'] at hd
        cases hd
        have hi : i < rows.length:=(List.getElem?_eq_some_iff.mp hr').1
        have hl:=(hw r (List.mem_of_getElem? hr')).2.1
        refine ⟨[some B,some (.lst k (rows.map rD)),some (.int 60),some (.lst n (ms.map .int)),some (.tup (r.1.map .int)),some (.tup (r.2.1.map .int)),some (.tup (r.2.2.map .int)),none,none,none],rfl,?_⟩
        refine ⟨_,?_,ms++r.1,some (.tup (r.1.map .int)),some (.tup (r.2.1.map .int)),some (.tup (r.2.2.map .int)),rfl,by simp [g1],by rw [List.length_append]; omega,fre_tI _,fre_tI _,fre_tI _⟩
        walk_at "mr"
        rw [y_extT (by rw [zl]; simp only [List.length_map]; omega) (ints_labs _)]
        walk_at "mr"
        simp only [← List.map_append,rp_rows (show k≠n by omega),rpL_ints,hB]) rows.length 0 ⟨[some B,some (.lst k (rows.map rD)),some (.int 60),some (.lst n [.int 0]),none,none,none,none,none,none],some (.lst k (rows.map rD)) :: [some B,some (.lst k (rows.map rD)),some (.int 60)],n+1⟩ (by simp) ⟨[0],none,none,none,rfl,by simp,by simp,fre_none,fre_none,fre_none⟩
  rw [List.length_map] at g2
  refine ⟨ms,o4,o5,o6,g1,by omega,g4,g5,g6,?_⟩
  rw [x_seqI (l := k) (ds := rows.map rD) (σ := [some B, some (.lst k (rows.map rD)), some (.int 60), some (.lst n [.int 0]), none, none, none, none, none, none]) (tm := [some B, some (.lst k (rows.map rD)), some (.int 60)]) (n := n + 1) (by walk_at "mr")]
  walk_at "mr"
  rw [show kLst.len (some (.lst k (rows.map rD)) :: [some B,some (.lst k (rows.map rD)),some (.int 60)])=rows.length by show (rows.map rD).length=_; simp,e]
  rfl
noncomputable def pb : MS:=(seqS (sAsg (.nm 9) (mCB [(mBin (mCall f_l_take [(mVar 0),(mC (.int 8))]) (mC (.int 7)) eqD)] intD))
    (sExpr (mMeth (mVar 7) [(mBin (mCB [(mBin (mVar 3) (mCall f_l_take [(mVar 0),(mCB [(mVar 3)] lenD)]) ixD),(mCall f_l_take [(mVar 0),(mC (.int 26))])] lstM) (mVar 9) ixD)] appD)))
theorem pb_eq (rows : List Row3) (l k n q : Nat) (c x i : Int) (ms ks : List Int) (o4 o5 o6 o9 : Option D) (hb : Bg c x) (hl : l < n) (hk : k < n) (hlk : k≠l) (hq : n+1 < q) (hm : ms≠[]) (lm : ms.length≤300) (lk : ks.length≤500) (f4 : Fre o4) (f5 : Fre o5) (f6 : Fre o6) (f9 : Fre o9) : ∃ (v c' x' w : Int) (q' : Nat),Bg c' x'∧q≤q' ∧
    pb ⟨[some (.lst l [.int c,.int x]),some (.lst k (rows.map rD)),some (.int 60),some (.lst n (ms.map .int)),o4,o5,o6,some (.lst (n+1) (ks.map .int)),some (.int i),o9],[some (.lst l [.int c,.int x]),some (.lst k (rows.map rD)),some (.int 60)],q⟩
      = .nx ⟨[some (.lst l [.int c',.int x']),some (.lst k (rows.map rD)),some (.int 60),some (.lst n (ms.map .int)),o4,o5,o6,some (.lst (n+1) ((ks++[v]).map .int)),some (.int i),some (.int w)],[some (.lst l [.int c',.int x']),some (.lst k (rows.map rD)),some (.int 60)],q'⟩:=by
  have rr : ∀ d,rp (pl l d) (.lst k (rows.map rD))=.lst k (rows.map rD):=fun d => rp_rows hlk
  have rm : ∀ d,rp (pl l d) (.lst n (ms.map .int))=.lst n (ms.map .int):=fun d => rp_li (by omega)
  have rk : ∀ d,rp (pl l d) (.lst (n+1) (ks.map .int))=.lst (n+1) (ks.map .int):=fun d => rp_li (by omega)
  have lpos : 0 < ms.length:=by cases ms with | nil => exact absurd rfl hm | cons _ _ => simp
  unfold pb
  walk_at "mr"
  obtain ⟨q1,c1,x1,hq1,hq1',b1,e1⟩:=take_eq l c x 8 q hb (by decide) (by decide)
  rw [e1, callK_bag rfl rfl rfl (by walk_at "mr"; simp only [rr, rm, rk, f4 l, f5 l, f6 l, f9 l]) (by walk_at "mr"; simp only [rr])]
  walk_at "mr"
  simp only [rr,rm,rk,f4 l,f5 l,f6 l,f9 l]
  try (walk_at "mr")
  obtain ⟨w,⟨hw0,hw1⟩,ew⟩:=@intB (q1 == 7)
  rw [ew]
  try (walk_at "mr")
  rw [lenM]
  obtain ⟨q2,c2,x2,hq2,hq2',b2,e2⟩:=take_eq l c1 x1 ms.length q b1 (by omega) (by omega)
  rw [e2, callK_bag rfl rfl rfl (by walk_at "mr"; simp only [rr, rm, rk, f4 l, f5 l, f6 l]) (by walk_at "mr"; simp only [rr, rm, rk])]
  walk_at "mr"
  simp only [rr,rm,rk,f4 l,f5 l,f6 l]
  try (walk_at "mr")
  obtain ⟨v1,ev1⟩:=at_ints hq2 hq2'
  rw [ev1]
  walk_at "mr"
  obtain ⟨v2,c3,x3,hq3,hq3',b3,e3⟩:=take_eq l c2 x2 26 q b2 (by decide) (by decide)
  rw [e3, callK_bag rfl rfl rfl (by walk_at "mr"; simp only [rr, rm, rk, f4 l, f5 l, f6 l]) (by walk_at "mr"; simp only [rr, rk])]
  walk_at "mr"
  simp only [rr,rm,rk,f4 l,f5 l,f6 l]
  try (walk_at "mr")
  obtain ⟨v,hv,ev⟩:=at2' (a:=v1) (b:=v2) hw0 hw1
  rw [ev]
  walk_at "mr"
  try simp only [rk]
  rw [y_app (by rw [zl,List.length_map]; omega) rfl]
  walk_at "mr"
  refine ⟨v,c3,x3,w,q+1,b3,by omega,?_⟩
  have hs : ks.map D.int++[D.int v]=(ks++[v]).map D.int:=by rw [List.map_append]; rfl
  simp only [hs,rp_rows (show k≠n+1 by omega),rp_li (show n≠n+1 by omega),f4 (n+1),f5 (n+1),f6 (n+1),rp_ne (show l≠n+1 by omega),rpL_cons,rpL_nil,rp_int]
theorem pressed_eq (rows : List Row3) (hw : ∀ r∈rows,Wf r) (hr : rows.length≤60) (l k n : Nat) (c x : Int) (hb : Bg c x) (hl : l < n) (hk : k < n) (hlk : k≠l) : ∃ (ks : List Int) (c' x' : Int) (q n' : Nat),ks.length≤60∧Bg c' x'∧n≤q∧q < n'∧f_l_pressed [.lst l [.int c,.int x],.lst k (rows.map rD),.int 60] n=.ok (.lst q (ks.map .int)) [.lst l [.int c',.int x'],.lst k (rows.map rD),.int 60] n':=by
  unfold f_l_pressed m_l_pressed
  walk_at "mr"
  obtain ⟨ms,o4,o5,o6,hm,lm,f4,f5,f6,e1⟩:=pr1_eq rows hw hr (.lst l [.int c,.int x]) k n none hk (fun d => by rw [rp_ne (by omega)]; simp only [rpL_cons,rpL_nil,rp_int])
  rw [x_for] at e1
  rw [e1]
  walk_at "mr"
  obtain ⟨q2,c2,x2,hq2,hq2',b2,e2⟩:=take_eq l c x 61 (n+1+1) hb (by decide) (by decide)
  have rr : ∀ d,rp (pl l d) (.lst k (rows.map rD))=.lst k (rows.map rD):=fun d => rp_rows hlk
  have rm : ∀ d,rp (pl l d) (.lst n (ms.map .int))=.lst n (ms.map .int):=fun d => rp_li (by omega)
  rw [show (60 : Int) + 1 = 61 from rfl, e2, callK_bag rfl rfl rfl (by walk_at "mr"; simp only [rr, rm, f4 l, f5 l, f6 l, rp_ne (show n + 1 ≠ l by omega), rpL_nil]) (by walk_at "mr"; simp only [rr])]
  walk_at "mr"
  simp only [rr,rm,f4 l,f5 l,f6 l,rp_ne (show n+1≠l by omega),rpL_nil]
  try (walk_at "mr")
  rw [y_rng1 ⟨by omega,by omega⟩]
  walk_at "mr"
  obtain ⟨s',e3,ks,c3,x3,o8,o9,q,rfl,b3,hq,lk,f8,f9⟩:=for_rng (P:=fun i s => ∃ (ks : List Int) (c3 x3 : Int) (o8 o9 : Option D) (q : Nat),s=⟨[some (.lst l [.int c3,.int x3]),some (.lst k (rows.map rD)),some (.int 60),some (.lst n (ms.map .int)),o4,o5,o6,some (.lst (n+1) (ks.map .int)),o8,o9],[some (.lst l [.int c3,.int x3]),some (.lst k (rows.map rD)),some (.int 60)],q⟩∧Bg c3 x3∧n+1 < q∧ks.length=i∧Fre o8∧Fre o9) (lo:=0) (N:=q2.toNat) (g:=.nm 8) (b:=pb) (by
    rintro i hi s ⟨ks,c3,x3,o8,o9,q,rfl,b3,hq,lk,f8,f9⟩
    refine ⟨[some (.lst l [.int c3,.int x3]),some (.lst k (rows.map rD)),some (.int 60),some (.lst n (ms.map .int)),o4,o5,o6,some (.lst (n+1) (ks.map .int)),some (.int (0+(i : Int))),o9],rfl,?_⟩
    obtain ⟨v,c4,x4,w,q',b4,hq',e4⟩:=pb_eq rows l k n q c3 x3 (0+(i : Int)) ms ks o4 o5 o6 o9 b3 hl hk hlk hq hm lm (by omega) f4 f5 f6 f9
    exact ⟨_,e4,ks++[v],c4,x4,_,_,q',rfl,b4,by omega,by rw [List.length_append,lk]; rfl,fre_int _,fre_int _⟩) q2.toNat 0 ⟨[some (.lst l [.int c2,.int x2]),some (.lst k (rows.map rD)),some (.int 60),some (.lst n (ms.map .int)),o4,o5,o6,some (.lst (n+1) []),none,none],[some (.lst l [.int c2,.int x2]),some (.lst k (rows.map rD)),some (.int 60)],n+1+1⟩ (by omega) ⟨[],c2,x2,none,none,n+1+1,rfl,b2,by omega,rfl,fre_none,fre_none⟩
  unfold pb at e3
  rw [e3]
  walk_at "mr"
  exact ⟨ks,c3,x3,n+1,q,by omega,b3,by omega,by omega,rfl⟩
set_option Elab.async false
set_option linter.all false
set_option maxRecDepth 100000
set_option maxHeartbeats 1000000
theorem take_app {R ext : List Int} {k : Nat} (h : k≤R.length) : (R++ext).take k=R.take k:=List.take_append_of_le_length h
theorem drop_app {R ext : List Int} {k : Nat} (h : k≤R.length) : (R++ext).drop k=R.drop k++ext:=by rw [List.drop_append_of_le_length h]
theorem pre_iff {rows : List Row3} {R ext : List Int} {r : Row3} (hs : stopB rows R=false) (hr : r∈rows) : (R++ext).take r.1.length=r.1↔R.take r.1.length=r.1:=by
  by_cases h : r.1.length≤R.length
  · rw [take_app h]
  · have h' : R.length < r.1.length:=by omega
    constructor
    · intro e
      exfalso
      have : wt R r=true:=by
        simp only [wt,h',decide_true,Bool.true_and,decide_eq_true_eq]
        rw [← e,List.take_take,Nat.min_eq_left (by omega),List.take_append_of_le_length (Nat.le_refl _),List.take_length]
      simp only [stopB,Bool.or_eq_false_iff,List.any_eq_false] at hs
      exact absurd this (hs.2 r hr)
    · intro e
      have:=congrArg List.length e
      rw [List.length_take] at this
      omega
theorem fold_app {rows0 : List Row3} {R ext : List Int} (hs : stopB rows0 R=false) : ∀ (rows : List Row3) (best : Option Row3),(∀ r∈rows,r∈rows0)→rows.foldl (better (R++ext)) best=rows.foldl (better R) best
  | [],_,_ => rfl
  | r :: rows,best,h => by
    have e : better (R++ext) best r=better R best r:=by
      unfold better
      simp only [pre_iff hs (h r (List.mem_cons_self ..))]
    rw [List.foldl_cons,List.foldl_cons,e,fold_app hs rows _ fun q hq => h q (List.mem_cons_of_mem _ hq)]
theorem step_app {rows : List Row3} {R ext : List Int} (hs : stopB rows R=false) : stepM rows (R++ext)=((stepM rows R).1,(stepM rows R).2.1,(stepM rows R).2.2++ext):=by
  have hl : longest rows (R++ext)=longest rows R:=fold_app hs rows none fun _ h => h
  have hR : 1≤R.length:=by
    cases R with
    | nil => simp [stopB] at hs
    | cons _ _ => simp
  unfold stepM
  rw [hl]
  cases e : longest rows R with
  | none => dsimp only; rw [take_app hR,drop_app hR]
  | some r =>
    have ht:=(longest_mem e).2
    have : r.1.length≤R.length:=by have:=congrArg List.length ht; rw [List.length_take] at this; omega
    dsimp only
    rw [drop_app this,List.append_assoc]
theorem press_read {rows : List Row3} (hw : ∀ r∈rows,Wf r) (ext : List Int) : ∀ (m : Nat) (R : List Int),readA rows (R++ext)=((pressM rows m R).1++(readA rows ((pressM rows m R).2.2++ext)).1,(pressM rows m R).2.1++(readA rows ((pressM rows m R).2.2++ext)).2)
  | 0,R => by simp [pressM]
  | m+1,R => by
    unfold pressM
    cases hs : stopB rows R with
    | true => simp
    | false =>
      have hne : R++ext≠[]:=fun e => by
        have:=(List.append_eq_nil_iff.mp e).1
        rw [this] at hs; simp [stopB] at hs
      simp only [Bool.false_eq_true,if_false]
      rw [readA_step hw hne,step_app hs,press_read hw ext m]
      simp only [List.append_assoc]
theorem press_len {rows : List Row3} (hw : ∀ r∈rows,Wf r) : ∀ (m : Nat) (R : List Int),(pressM rows m R).2.2.length≤R.length
  | 0,R => Nat.le_refl _
  | m+1,R => by
    unfold pressM
    cases hs : stopB rows R with
    | true => simp
    | false =>
      have hne : R≠[]:=fun e => by rw [e] at hs; simp [stopB] at hs
      have:=(step_len hw hne).1
      have:=press_len hw m (stepM rows R).2.2
      simp only [Bool.false_eq_true,if_false]
      omega
noncomputable def Inv3 (rows : List Row3) (p S L W : List Int) : Prop:=W.length≤p.length∧∀ ext,readA rows (p++ext)=(S++(readA rows (W++ext)).1,L++(readA rows (W++ext)).2)
theorem inv_nil (rows : List Row3) : Inv3 rows [] [] [] []:=⟨Nat.le_refl _,fun ext => by simp⟩
theorem inv_press {rows : List Row3} (hw : ∀ r∈rows,Wf r) {p S L W : List Int} {k : Int} (h : Inv3 rows p S L W) : Inv3 rows (p++[k]) (S++(pressM rows 1000 (W++[k])).1) (L++(pressM rows 1000 (W++[k])).2.1) (pressM rows 1000 (W++[k])).2.2:=by
  refine ⟨?_,fun ext => ?_⟩
  · have:=press_len hw 1000 (W++[k])
    have:=h.1
    simp only [List.length_append,List.length_cons,List.length_nil] at *
    omega
  · rw [List.append_assoc,h.2,← List.append_assoc W,press_read hw ext 1000 (W++[k])]
    simp only [List.append_assoc]
theorem inv_end {rows : List Row3} {p S L W : List Int} (h : Inv3 rows p S L W) : readA rows p=(S++(readA rows W).1,L++(readA rows W).2):=by
  have:=h.2 []
  rwa [List.append_nil,List.append_nil] at this
set_option Elab.async false
set_option linter.all false
set_option maxRecDepth 100000
set_option maxHeartbeats 1000000
noncomputable def f2 (q p : Nat) (A B : List D) : Nat→Option D:=fun k => if q=k then some (.lst q A) else if p=k then some (.lst p B) else none
theorem callK_T {t : D} {q p n' n : Nat} {S L W : List Int} {v : Int} {σ tm : List (Option D)} (h : q≠p) :
    callK (.ok t [.tup [.lst q ((S++[v]).map .int),.lst p (L.map .int),.tup (W.map .int)]] n') [.tup [.lst q (S.map .int),.lst p (L.map .int),.tup (W.map .int)]] ⟨σ,tm,n⟩=.ok t ⟨rpO (f2 q p ((S++[v]).map .int) (L.map .int)) σ,rpO (f2 q p ((S++[v]).map .int) (L.map .int)) tm,n'⟩:=by
  have e : (fun k => findL k [D.tup [.lst q ((S++[v]).map .int),.lst p (L.map .int),.tup (W.map .int)]])=f2 q p ((S++[v]).map .int) (L.map .int):=by
    funext k
    simp only [findL,findT,f2]
    by_cases h1 : q=k
    · simp only [if_pos h1]
    · simp only [if_neg h1,findL_none _ (show k ∉ labsL ((S++[v]).map D.int) by rw [ints_labs]; exact List.not_mem_nil)]
      by_cases h2 : p=k
      · simp only [if_pos h2]
      · simp only [if_neg h2,findL_none _ (show k ∉ labsL (L.map D.int) by rw [ints_labs]; exact List.not_mem_nil),findL_none _ (show k ∉ labsL (W.map D.int) by rw [ints_labs]; exact List.not_mem_nil)]
  unfold callK
  dsimp only
  rw [if_neg,if_pos]
  · rw [e]
  · intro k _ hk
    have:=congrFun e k
    rw [show findL k [D.tup [.lst q ((S++[v]).map .int),.lst p (L.map .int),.tup (W.map .int)]]=f2 q p ((S++[v]).map .int) (L.map .int) k from this]
    simp only [labsL,labs,ints_labs,List.append_nil,List.mem_append,List.mem_cons,List.not_mem_nil,or_false] at hk
    unfold f2
    rcases hk with rfl | rfl
    · simp
    · simp [h]
  · intro z
    simp only [List.cons.injEq,D.tup.injEq,D.lst.injEq,true_and,and_true] at z
    have:=congrArg List.length z
    simp at this
theorem rp2_ints {q p : Nat} {A B : List D} {ns : List Int} : rpL (f2 q p A B) (ns.map D.int)=ns.map D.int:=rpL_id _ fun j hj => by rw [ints_labs] at hj; cases hj
theorem rp2_rows {q p k : Nat} {A B : List D} {rows : List Row3} (h1 : q≠k) (h2 : p≠k) : rp (f2 q p A B) (.lst k (rows.map rD))=.lst k (rows.map rD):=by
  simp only [rp,f2,if_neg h1,if_neg h2]
  rw [rpL_id _ fun j hj => by rw [rows_labs] at hj; cases hj]
theorem rp2_li {q p k : Nat} {A B : List D} {ns : List Int} (h1 : q≠k) (h2 : p≠k) : rp (f2 q p A B) (.lst k (ns.map D.int))=.lst k (ns.map D.int):=by
  simp only [rp,f2,if_neg h1,if_neg h2]
  rw [rp2_ints]
theorem rp2_q {q p : Nat} {A B ds : List D} : rp (f2 q p A B) (.lst q ds)=.lst q A:=by simp only [rp,f2,if_true]
theorem rp2_p {q p : Nat} {A B ds : List D} (h : q≠p) : rp (f2 q p A B) (.lst p ds)=.lst p B:=by simp only [rp,f2,if_neg h,if_true]
theorem rp2_dct {q p k : Nat} {A B ks vs : List D} (h1 : q≠k) (h2 : p≠k) (hv : labsL vs=[]) : rp (f2 q p A B) (.dct k ks vs)=.dct k ks vs:=by
  simp only [rp,f2,if_neg h1,if_neg h2]
  rw [rpL_id _ fun i hi => by rw [hv] at hi; cases hi]
theorem t2c {a b c : D} : cutA [a,b,c] none (some (2 : Int))=[a,b]:=cut_tk (l:=2)
theorem x_seqT {m : M D} {s : Stt} {ds : List D} {σ tm : List (Option D)} {n : Nat} (h : m s=.ok (.tup ds) ⟨σ,tm,n⟩) : mSeqI m s=.ok kTup ⟨σ,some (.tup ds) :: tm,n⟩:=by
  unfold mSeqI; rw [x_bd,h]; rfl
theorem forT2 {g : Tg} {b : MS} {a c : D} {σ σ1 σ2 σ3 σ4 tm : List (Option D)} {n n2 n4 : Nat} (h1 : asg g a σ=some σ1) (h2 : b ⟨σ1,some (.tup [a,c]) :: tm,n⟩=.nx ⟨σ2,some (.tup [a,c]) :: tm,n2⟩) (h3 : asg g c σ2=some σ3) (h4 : b ⟨σ3,some (.tup [a,c]) :: tm,n2⟩=.nx ⟨σ4,some (.tup [a,c]) :: tm,n4⟩) : forGo kTup g b 2 0 ⟨σ,some (.tup [a,c]) :: tm,n⟩=.nx ⟨σ4,tm,n4⟩:=by
  unfold forGo
  show (match asg g a σ with | none => _ | some σ' => _)=_
  rw [h1]
  dsimp only
  rw [h2]
  dsimp only
  unfold forGo
  show (match asg g c σ2 with | none => _ | some σ' => _)=_
  rw [h3]
  dsimp only
  rw [h4]
  dsimp only
  unfold forGo
  rfl
theorem lwhole_eq (i : Int) (n : Nat) : f_l_whole [.int i] n=.ok (.bool true) [.int i] n:=by
  unfold f_l_whole m_l_whole
  walk_at "mr"
theorem wcomp (σ tm : List (Option D)) (n q : Nat) (S : List Int) (hs : σ[1]?=some (some (.lst q (S.map .int)))) (hz : S.length < 10000) : ∃ n',n≤n'∧mComp (mSeqI (mVar 1)) (.nm 0) (rt true) (mCall f_l_whole [(mVar 0)]) 1 [] ⟨σ,tm,n⟩=.ok (.lst n' ((S.map D.int).map fun _ => .bool true)) ⟨σ,tm,n'+1⟩:=by
  obtain ⟨n', hn, e⟩ := mComp_lstG (mc := mVar 1) (mt := rt true) (me := mCall f_l_whole [(mVar 0)]) (p := fun _ => true) (g := fun _ => .bool true) (l := q) (ds := S.map .int) (ix := []) (s := ⟨σ, tm, n⟩) (σ := σ) (tm := tm) (n := n) (by walk_at "mr"; rw [hs]; walk_at "mr") (by rw [List.length_map, zl]; omega) (fun d hd tm n => ⟨n, Nat.le_refl _, rfl⟩) (by
    intro d hd _ tm n
    obtain ⟨i,_,rfl⟩:=List.mem_map.mp hd
    refine ⟨n,Nat.le_refl _,?_⟩
    walk_at "mr"
    rw [lwhole_eq]
    walk_at "mr")
  refine ⟨n',hn,?_⟩
  rw [e,List.filter_eq_self.mpr (fun _ _ => rfl)]
noncomputable def ab : MS := sIf (mOr (mNot (mTest (mIsi "list" (mVar 1)))) (mNot (mTest (mCB [(mComp (mSeqI (mVar 1)) (.nm 0) (rt true) (mCall f_l_whole [(mVar 0)]) 1 [])] allD)))) (sRet (mC (.bool false))) sNx
theorem ab_eq (T : D) (q n : Nat) (S : List Int) (o2 : Option D) (tm : List (Option D)) (hz : S.length < 10000) : ∃ n',n≤n'∧ab ⟨[some T,some (.lst q (S.map .int)),o2],tm,n⟩=.nx ⟨[some T,some (.lst q (S.map .int)),o2],tm,n'⟩:=by
  obtain ⟨n',hn,e⟩:=wcomp [some T,some (.lst q (S.map .int)),o2] tm n q S rfl hz
  refine ⟨n'+1,by omega,?_⟩
  unfold ab
  walk_at "mr"
  rw [e]
  walk_at "mr"
  rw [y_all (bools_map (S.map D.int) fun _ => true)]
  simp only [show (List.map (fun _ => true) (S.map D.int)).all id=true by simp]
  walk_at "mr"
theorem ares_eq (q p n : Nat) (S L W : List Int) (hqp : q≠p) (hz : S.length < 9000) (hz2 : L.length < 9000) : ∃ n',n≤n'∧f_l_are_lists [.tup [.lst q (S.map .int),.lst p (L.map .int),.tup (W.map .int)]] n=.ok (.bool true) [.tup [.lst q ((S++[0]).map .int),.lst p (L.map .int),.tup (W.map .int)]] n':=by
  obtain ⟨n1,hn1,e1⟩:=ab_eq (.tup [.lst q (S.map .int),.lst p (L.map .int),.tup (W.map .int)]) q n S none [some (.tup [.lst q (S.map .int),.lst p (L.map .int)]),some (.tup [.lst q (S.map .int),.lst p (L.map .int),.tup (W.map .int)])] (by omega)
  obtain ⟨n2,hn2,e2⟩:=ab_eq (.tup [.lst q (S.map .int),.lst p (L.map .int),.tup (W.map .int)]) p n1 L none [some (.tup [.lst q (S.map .int),.lst p (L.map .int)]),some (.tup [.lst q (S.map .int),.lst p (L.map .int),.tup (W.map .int)])] (by omega)
  refine ⟨n2,by omega,?_⟩
  unfold f_l_are_lists
  have e0 : m_l_are_lists=(seqS (sFor (mSeqI (mSl (mVar 0) none (some (mC (.int 2))))) (.nm 1) ab)
    (seqS (sAsg (.nm 2) (mCB [(mBin (mVar 0) (mC (.int 1)) ixD)] lenD))
    (seqS (sExpr (mMeth (mBin (mVar 0) (mC (.int 0)) ixD) [(mC (.int 0))] appD))
    (sRet (mBin (mCB [(mBin (mVar 0) (mC (.int 1)) ixD)] lenD) (mVar 2) eqD))))):=rfl
  rw [e0]
  walk_at "mr"
  rw [x_seqT (ds := [.lst q (S.map .int), .lst p (L.map .int)]) (σ := [some (.tup [.lst q (S.map .int), .lst p (L.map .int), .tup (W.map .int)]), none, none]) (tm := [some (.tup [.lst q (S.map .int), .lst p (L.map .int), .tup (W.map .int)])]) (n := n) (by walk_at "mr"; rw [t2c])]
  walk_at "mr"
  rw [show kTup.len (some (.tup [.lst q (S.map .int),.lst p (L.map .int)]) :: [some (.tup [.lst q (S.map .int),.lst p (L.map .int),.tup (W.map .int)])])=2 from rfl,forT2 rfl e1 rfl e2]
  walk_at "mr"
  rw [y_app (by rw [zl,List.length_map]; omega) rfl]
  walk_at "mr"
  have hs : S.map D.int++[D.int 0]=(S++[0]).map D.int:=by rw [List.map_append]; rfl
  simp only [hs,rp_li (show p≠q from fun z => hqp z.symm),rpL_ints]
  walk_at "mr"
  all_goals (try simp only [rp_li (show p≠q from fun z => hqp z.symm)])
  all_goals (try (walk_at "mr"))
  all_goals (try simp)
set_option Elab.async false
set_option linter.all false
set_option maxRecDepth 100000
set_option maxHeartbeats 1000000
theorem rs_int {n k : Nat} {i : Int} : Rs n (.int i)=true∧(er (.int i)).depth≤k:=⟨rfl,by simp [er,PyData.depth]⟩
theorem rs_ints {n : Nat} {ns : List Int} : ∀ e∈ns.map D.int,Rs n e=true∧(er e).depth≤0:=fun e he => by obtain ⟨i,_,rfl⟩:=List.mem_map.mp he; exact rs_int
theorem rs_T {q p : Nat} {S L W : List Int} (h1 : S.length≤2000) (h2 : L.length≤2000) (h3 : W.length≤2000) : Rs 0 (.tup [.lst q (S.map .int),.lst p (L.map .int),.tup (W.map .int)])=true∧(er (.tup [.lst q (S.map .int),.lst p (L.map .int),.tup (W.map .int)])).depth≤2:=rs_tup (by simp) fun e he => by
  simp only [List.mem_cons,List.not_mem_nil,or_false] at he
  rcases he with rfl | rfl | rfl
  · exact rs_lst (Nat.zero_le _) (by simpa using h1) rs_ints
  · exact rs_lst (Nat.zero_le _) (by simpa using h2) rs_ints
  · exact rs_tup (by simpa using h3) rs_ints
theorem rs_rD {r : Row3} (h : Wf r) : Rs 0 (rD r)=true∧(er (rD r)).depth≤2:=rs_tup (by simp) fun e he => by
  obtain ⟨h1,h2,h3,h4⟩:=h
  simp only [List.mem_cons,List.not_mem_nil,or_false] at he
  rcases he with rfl | rfl | rfl
  · exact rs_tup (by rw [List.length_map]; omega) rs_ints
  · exact rs_tup (by rw [List.length_map]; omega) rs_ints
  · exact rs_tup (by rw [List.length_map]; omega) rs_ints
theorem rs_rows {k : Nat} {rows : List Row3} (hw : ∀ r∈rows,Wf r) (h : rows.length≤60) : Rs 0 (.lst k (rows.map rD))=true∧(er (.lst k (rows.map rD))).depth≤3:=rs_lst (Nat.zero_le _) (by rw [List.length_map]; omega) fun e he => by
  obtain ⟨r,hr,rfl⟩:=List.mem_map.mp he
  exact rs_rD (hw r hr)
noncomputable def td : MS:=(seqS (sAsg (.nm 7) (mCall f_p_press [(mVar 5),(mVar 2),(mVar 3)]))
    (seqS (sIf (mOr (mNot (mTest (mIsi "tuple" (mVar 7)))) (mOr (mBoo (mBin (mVar 7) (mVar 4) neD)) (mOr (mBoo (mBin (mVar 5) (mVar 0) neD)) (mNot (mTest (mIsi "tuple" (mBin (mVar 7) (mC (.int 2)) ixD))))))) (sRet (mC .non)) sNx)
    (seqS (sIf (mNot (mTest (mCall f_l_are_lists [(mVar 7)]))) (sRet (mC .non)) sNx)
    (sExpr (mMeth (mBin (mVar 7) (mC (.int 1)) ixD) [(mC (.int 0))] appD)))))
theorem td_eq (rows : List Row3) (hw : ∀ r∈rows,Wf r) (hr : rows.length≤60) (k j a h q : Nat) (ks vs : List D) (hd : SD rows ks vs) (W : List Int) (key : Int) (o6 o7 : Option D) (S L W' : List Int) (hP : pressM rows 1000 (W++[key])=(S,L,W')) (lS : S.length≤1500) (lL : L.length≤1500) (lW' : W'.length≤1500) (lW : W.length≤100) (f6 : ∀ f : Nat→Option D,Option.map (rp f) o6=o6) (hk : k < h) (hj : j < h) (ha : a+1 < h) (hq : h < q) : ∃ (T : D) (q' : Nat),q≤q' ∧
    td ⟨[some (.lst k (rows.map rD)),some (.dct j ks vs),some (.tup (W.map .int)),some (.int key),some (.tup [.lst a (S.map .int),.lst (a+1) (L.map .int),.tup (W'.map .int)]),some (.lst h (rows.map rD)),o6,o7],[some (.lst k (rows.map rD)),some (.dct j ks vs),some (.tup (W.map .int)),some (.int key)],q⟩
      = .nx ⟨[some (.lst k (rows.map rD)),some (.dct j ks vs),some (.tup (W.map .int)),some (.int key),some (.tup [.lst a (S.map .int),.lst (a+1) (L.map .int),.tup (W'.map .int)]),some (.lst h (rows.map rD)),o6,some T],[some (.lst k (rows.map rD)),some (.dct j ks vs),some (.tup (W.map .int)),some (.int key)],q'⟩:=by
  obtain ⟨q1,hq1,e1⟩:=ppress_eq rows W key h q hw (by omega) lW hq
  rw [hP] at e1
  obtain ⟨q2,hq2,e2⟩:=ares_eq q (q+1) q1 S L W' (by omega) (by omega) (by omega)
  have g1:=rs_T (q:=q) (p:=q+1) (S:=S) (L:=L) (W:=W') (by omega) (by omega) (by omega)
  have g2:=rs_T (q:=a) (p:=a+1) (S:=S) (L:=L) (W:=W') (by omega) (by omega) (by omega)
  have g3:=rs_rows (k:=h) hw hr
  have g4:=rs_rows (k:=k) hw hr
  unfold td
  walk_at "mr"
  rw [e1]
  walk_at "mr"
  rw [ne_same (Rs_gd _ g1.1) (Rs_gd _ g2.1) rfl (by omega)]
  walk_at "mr"
  rw [ne_same (Rs_gd _ g3.1) (Rs_gd _ g4.1) rfl (by omega)]
  walk_at "mr"
  rw [e2,callK_T (by omega)]
  walk_at "mr"
  simp only [rp2_rows (show q≠k by omega) (show q+1≠k by omega),rp2_rows (show q≠h by omega) (show q+1≠h by omega),rp2_dct (show q≠j by omega) (show q+1≠j by omega) hd.lv,rp2_ints,rp2_li (show q≠a by omega) (show q+1≠a by omega),rp2_li (show q≠a+1 by omega) (show q+1≠a+1 by omega),rp2_q,rp2_p (show q≠q+1 by omega),f6]
  walk_at "mr"
  try simp only [rp2_p (show q≠q+1 by omega)]
  rw [y_app (by rw [zl,List.length_map]; omega) rfl]
  walk_at "mr"
  simp only [rp_rows (show k≠q+1 by omega),rp_rows (show h≠q+1 by omega),rp_dct (show j≠q+1 by omega) hd.lv,rpL_ints,rp_li (show a≠q+1 by omega),rp_li (show a+1≠q+1 by omega),f6]
  exact ⟨_,_,by omega,rfl⟩
theorem told_eq (rows : List Row3) (hw : ∀ r∈rows,Wf r) (hr : rows.length≤60) (k j n : Nat) (ks vs : List D) (hd : SD rows ks vs) (W : List Int) (key : Int) (S L W' : List Int) (hP : pressM rows 1000 (W++[key])=(S,L,W')) (lS : S.length≤1500) (lL : L.length≤1500) (lW' : W'.length≤1500) (lW : W.length≤100) (hk : k < n) (hj : j < n) : ∃ n',n+2≤n' ∧
    f_l_told [.lst k (rows.map rD),.dct j ks vs,.tup (W.map .int),.int key] n=.ok (.tup [.lst n (S.map .int),.lst (n+1) (L.map .int),.tup (W'.map .int)]) [.lst k (rows.map rD),.dct j ks vs,.tup (W.map .int),.int key] n':=by
  obtain ⟨n1,hn1,e1⟩:=lpress_eq rows W key k n j ks vs hd hw lW hk hj
  rw [hP] at e1
  unfold f_l_told
  have e0 : m_l_told=(seqS (sAsg (.nm 4) (mCall f_l_press [(mVar 0),(mVar 1),(mVar 2),(mVar 3)]))
    (seqS (sAsg (.nm 5) (mCB [(mVar 0)] listF))
    (seqS (sFor (mRng1 [(mC (.int 2))]) (.nm 6) td)
    (sRet (mVar 4))))):=rfl
  rw [e0]
  walk_at "mr"
  rw [e1]
  walk_at "mr"
  rw [y_rng1 ⟨by decide,by decide⟩]
  walk_at "mr"
  obtain ⟨s',e2,o6,o7,q,rfl,hq,f6⟩:=for_rng (P:=fun i s => ∃ (o6 o7 : Option D) (q : Nat),s=⟨[some (.lst k (rows.map rD)),some (.dct j ks vs),some (.tup (W.map .int)),some (.int key),some (.tup [.lst n (S.map .int),.lst (n+1) (L.map .int),.tup (W'.map .int)]),some (.lst n1 (rows.map rD)),o6,o7],[some (.lst k (rows.map rD)),some (.dct j ks vs),some (.tup (W.map .int)),some (.int key)],q⟩∧n1 < q∧∀ f : Nat→Option D,Option.map (rp f) o6=o6) (lo:=0) (N:=(2 : Int).toNat) (g:=.nm 6) (b:=td) (by
    rintro i hi s ⟨o6,o7,q,rfl,hq,f6⟩
    refine ⟨[some (.lst k (rows.map rD)),some (.dct j ks vs),some (.tup (W.map .int)),some (.int key),some (.tup [.lst n (S.map .int),.lst (n+1) (L.map .int),.tup (W'.map .int)]),some (.lst n1 (rows.map rD)),some (.int (0+(i : Int))),o7],rfl,?_⟩
    obtain ⟨T,q',hq',e⟩:=td_eq rows hw hr k j n n1 q ks vs hd W key (some (.int (0+(i : Int)))) o7 S L W' hP lS lL lW' lW (fun _ => rfl) (by omega) (by omega) (by omega) hq
    exact ⟨_,e,_,_,q',rfl,by omega,fun _ => rfl⟩) (2 : Int).toNat 0 ⟨[some (.lst k (rows.map rD)),some (.dct j ks vs),some (.tup (W.map .int)),some (.int key),some (.tup [.lst n (S.map .int),.lst (n+1) (L.map .int),.tup (W'.map .int)]),some (.lst n1 (rows.map rD)),none,none],[some (.lst k (rows.map rD)),some (.dct j ks vs),some (.tup (W.map .int)),some (.int key)],n1+1⟩ (by decide) ⟨none,none,n1+1,rfl,by omega,fun _ => rfl⟩
  rw [e2]
  walk_at "mr"
  exact ⟨q,by omega,rfl⟩
set_option Elab.async false
set_option linter.all false
set_option maxRecDepth 100000
set_option maxHeartbeats 1000000
noncomputable def ib : MS:=(sIf (mBoo (mBin (mVar 8) (mCB [(mBin (mVar 4) (mVar 9) ixD)] lenD) ltD)) (seqS (sAsg (.nm 10) (mCall f_l_told [(mBin (mVar 3) (mVar 9) ixD),(mBin (mVar 5) (mVar 9) ixD),(mBin (mVar 6) (mVar 9) ixD),(mBin (mBin (mVar 4) (mVar 9) ixD) (mVar 8) ixD)]))
    (seqS (sIf (mBoo (mBin (mVar 10) (mC .non) isN)) (sRet (mC (.bool false))) sNx)
    (seqS (sExpr (mMeth (mBin (mBin (mVar 7) (mVar 9) ixD) (mC (.int 0)) ixD) [(mBin (mVar 10) (mC (.int 0)) ixD)] extD))
    (seqS (sExpr (mMeth (mBin (mBin (mVar 7) (mVar 9) ixD) (mC (.int 1)) ixD) [(mBin (mVar 10) (mC (.int 1)) ixD)] extD))
    (mTri (mBin (mVar 10) (mC (.int 2)) ixD) (mVar 6) (mVar 9) setD))))) sNx)
theorem y_set0 {l n : Nat} {a b v : D} {σ tm : List (Option D)} (h : labs v=[]) : setD (.lst l [a,b]) (.int 0) v ⟨σ,tm,n⟩=.nx ⟨rpO (pl l (.lst l [v,b])) σ,rpO (pl l (.lst l [v,b])) tm,n⟩:=by
  unfold setD
  dsimp only
  rw [show ixN [a,b].length 0=some 0 from rfl]
  dsimp only
  rw [if_pos (by rw [h]; exact List.not_mem_nil)]
  rfl
theorem y_set1 {l n : Nat} {a b v : D} {σ tm : List (Option D)} (h : labs v=[]) : setD (.lst l [a,b]) (.int 1) v ⟨σ,tm,n⟩=.nx ⟨rpO (pl l (.lst l [a,v])) σ,rpO (pl l (.lst l [a,v])) tm,n⟩:=by
  unfold setD
  dsimp only
  rw [show ixN [a,b].length 1=some 1 from rfl]
  dsimp only
  rw [if_pos (by rw [h]; exact List.not_mem_nil)]
  rfl
theorem ib0 (x0 x1 x2 : Option D) (A B C E k0 p0 d0 : Nat) (r1 q1 e1 : D) (rows : List Row3) (hw : ∀ r∈rows,Wf r) (hr : rows.length≤60) (ks vs : List D) (hd : SD rows ks vs) (K W0 W1 S0 L0 S1 L1 S L W' : List Int) (at' : Nat) (key : Int) (o10 o11 o12 o13 tm0 : Option D) (n : Nat)
    (hat : K[at']?=some key) (hP : pressM rows 1000 (W0++[key])=(S,L,W')) (lS : S.length≤1500) (lL : L.length≤1500) (lW' : W'.length≤1500) (lW : W0.length≤100) (lS0 : S0.length≤1500) (lL0 : L0.length≤1500)
    (hk : k0 < E) (hj : d0 < E) (hA : A < E) (hB : B < E) (hC : C < E) (hp : p0 < E) (hn : E+5 < n)
    (f0 : ∀ j,E≤j→∀ d,Option.map (rp (pl j d)) x0=x0) (f1 : ∀ j,E≤j→∀ d,Option.map (rp (pl j d)) x1=x1) (f2 : ∀ j,E≤j→∀ d,Option.map (rp (pl j d)) x2=x2) (ft : ∀ j,E≤j→∀ d,Option.map (rp (pl j d)) tm0=tm0)
    (fr : ∀ j,E≤j→∀ d,rp (pl j d) r1=r1) (fq : ∀ j,E≤j→∀ d,rp (pl j d) q1=q1) (fe : ∀ j,E≤j→∀ d,rp (pl j d) e1=e1)
    (g11 : ∀ j,E≤j→∀ d,Option.map (rp (pl j d)) o11=o11) (g12 : ∀ j,E≤j→∀ d,Option.map (rp (pl j d)) o12=o12) (g13 : ∀ j,E≤j→∀ d,Option.map (rp (pl j d)) o13=o13) :
    ∃ T n',n+2≤n'∧UpO n' (some T)∧ib ⟨[x0,x1,x2,some (.lst A [.lst k0 (rows.map rD),r1]),some (.lst B [.lst p0 (K.map .int),q1]),some (.lst C [.dct d0 ks vs,e1]),some (.lst E [.tup (W0.map .int),.tup (W1.map .int)]),some (.lst (E+5) [.tup [.lst (E+1) (S0.map .int),.lst (E+2) (L0.map .int)],.tup [.lst (E+3) (S1.map .int),.lst (E+4) (L1.map .int)]]),some (.int at'),some (.int 0),o10,o11,o12,o13],[tm0],n⟩
      = .nx ⟨[x0,x1,x2,some (.lst A [.lst k0 (rows.map rD),r1]),some (.lst B [.lst p0 (K.map .int),q1]),some (.lst C [.dct d0 ks vs,e1]),some (.lst E [.tup (W'.map .int),.tup (W1.map .int)]),some (.lst (E+5) [.tup [.lst (E+1) ((S0++S).map .int),.lst (E+2) ((L0++L).map .int)],.tup [.lst (E+3) (S1.map .int),.lst (E+4) (L1.map .int)]]),some (.int at'),some (.int 0),some T,o11,o12,o13],[tm0],n'⟩:=by
  have hlt : at' < K.length:=(List.getElem?_eq_some_iff.mp hat).1
  obtain ⟨n1,hn1,e⟩:=told_eq rows hw hr k0 d0 n ks vs hd W0 key S L W' hP lS lL lW' lW (by omega) (by omega)
  unfold ib
  walk_at "mr"
  rw [lenM]
  simp only [show decide ((at' : Int) < (K.length : Int))=true by simp [hlt]]
  walk_at "mr"
  rw [at_nat (d:=.int key) (by omega) (by rw [Int.toNat_natCast,List.getElem?_map,hat]; rfl)]
  walk_at "mr"
  rw [e]
  walk_at "mr"
  simp only [isNon]
  walk_at "mr"
  rw [y_extL (by rw [zl]; simp only [List.length_map]; omega) (ints_labs _)]
  walk_at "mr"
  have f : ∀ j,E≤j→∀ d,rp (pl j d) (.lst A [.lst k0 (rows.map rD),r1])=.lst A [.lst k0 (rows.map rD),r1]:=fun j hj d => by rw [rp_ne (by omega)]; simp only [rpL_cons,rpL_nil,rp_rows (show k0≠j by omega),fr j hj]
  have f' : ∀ j,E≤j→∀ d,rp (pl j d) (.lst B [.lst p0 (K.map .int),q1])=.lst B [.lst p0 (K.map .int),q1]:=fun j hj d => by rw [rp_ne (by omega)]; simp only [rpL_cons,rpL_nil,rp_li (show p0≠j by omega),fq j hj]
  have f'' : ∀ j,E≤j→∀ d,rp (pl j d) (.lst C [.dct d0 ks vs,e1])=.lst C [.dct d0 ks vs,e1]:=fun j hj d => by rw [rp_ne (by omega)]; simp only [rpL_cons,rpL_nil,rp_dct (show d0≠j by omega) hd.lv,fe j hj]
  simp only [← List.map_append,f0 (E+1) (by omega),f1 (E+1) (by omega),f2 (E+1) (by omega),ft (E+1) (by omega),f (E+1) (by omega),f' (E+1) (by omega),f'' (E+1) (by omega),g11 (E+1) (by omega),g12 (E+1) (by omega),g13 (E+1) (by omega),rp_ne (show E≠E+1 by omega),rp_ne (show E+5≠E+1 by omega),rp_ne (show E+2≠E+1 by omega),rp_ne (show E+3≠E+1 by omega),rp_ne (show E+4≠E+1 by omega),rp_ne (show n≠E+1 by omega),rp_ne (show n+1≠E+1 by omega),rp_self,rp_tup,rpL_cons,rpL_nil,rpL_ints]
  walk_at "mr"
  rw [y_extL (by rw [zl]; simp only [List.length_map]; omega) (ints_labs _)]
  walk_at "mr"
  simp only [← List.map_append,f0 (E+2) (by omega),f1 (E+2) (by omega),f2 (E+2) (by omega),ft (E+2) (by omega),f (E+2) (by omega),f' (E+2) (by omega),f'' (E+2) (by omega),g11 (E+2) (by omega),g12 (E+2) (by omega),g13 (E+2) (by omega),rp_ne (show E≠E+2 by omega),rp_ne (show E+5≠E+2 by omega),rp_ne (show E+1≠E+2 by omega),rp_ne (show E+3≠E+2 by omega),rp_ne (show E+4≠E+2 by omega),rp_ne (show n≠E+2 by omega),rp_ne (show n+1≠E+2 by omega),rp_self,rp_tup,rpL_cons,rpL_nil,rpL_ints]
  try (walk_at "mr")
  try simp only [rp_ne (show E≠E+2 by omega),rp_tup,rpL_cons,rpL_nil,rpL_ints]
  rw [y_set0 (tI_labs W')]
  simp only [rpO_cons,rpO_nil,Option.map_some,rp_int,f0 E (by omega),f1 E (by omega),f2 E (by omega),ft E (by omega),f E (by omega),f' E (by omega),f'' E (by omega),g11 E (by omega),g12 E (by omega),g13 E (by omega),rp_ne (show E+5≠E by omega),rp_ne (show E+1≠E by omega),rp_ne (show E+2≠E by omega),rp_ne (show E+3≠E by omega),rp_ne (show E+4≠E by omega),rp_ne (show n≠E by omega),rp_ne (show n+1≠E by omega),rp_self,rp_tup,rpL_cons,rpL_nil,rpL_ints]
  exact ⟨_,n1,by omega,(by rintro _ ⟨⟩ j hj; simp only [labs,labsL,ints_labs,List.append_nil,List.mem_append,List.mem_cons,List.not_mem_nil,or_false] at hj; omega),rfl⟩
theorem ib1 (x0 x1 x2 : Option D) (A B C E k0 p0 d0 : Nat) (r1 q1 e1 : D) (rows : List Row3) (hw : ∀ r∈rows,Wf r) (hr : rows.length≤60) (ks vs : List D) (hd : SD rows ks vs) (K W0 W1 S0 L0 S1 L1 S L W' : List Int) (at' : Nat) (key : Int) (o10 o11 o12 o13 tm0 : Option D) (n : Nat)
    (hat : K[at']?=some key) (hP : pressM rows 1000 (W0++[key])=(S,L,W')) (lS : S.length≤1500) (lL : L.length≤1500) (lW' : W'.length≤1500) (lW : W0.length≤100) (lS0 : S0.length≤1500) (lL0 : L0.length≤1500)
    (hk : k0 < E) (hj : d0 < E) (hA : A < E) (hB : B < E) (hC : C < E) (hp : p0 < E) (hn : E+5 < n)
    (f0 : ∀ j,E≤j→∀ d,Option.map (rp (pl j d)) x0=x0) (f1 : ∀ j,E≤j→∀ d,Option.map (rp (pl j d)) x1=x1) (f2 : ∀ j,E≤j→∀ d,Option.map (rp (pl j d)) x2=x2) (ft : ∀ j,E≤j→∀ d,Option.map (rp (pl j d)) tm0=tm0)
    (fr : ∀ j,E≤j→∀ d,rp (pl j d) r1=r1) (fq : ∀ j,E≤j→∀ d,rp (pl j d) q1=q1) (fe : ∀ j,E≤j→∀ d,rp (pl j d) e1=e1)
    (g11 : ∀ j,E≤j→∀ d,Option.map (rp (pl j d)) o11=o11) (g12 : ∀ j,E≤j→∀ d,Option.map (rp (pl j d)) o12=o12) (g13 : ∀ j,E≤j→∀ d,Option.map (rp (pl j d)) o13=o13) :
    ∃ T n',n+2≤n'∧UpO n' (some T)∧ib ⟨[x0,x1,x2,some (.lst A [r1,.lst k0 (rows.map rD)]),some (.lst B [q1,.lst p0 (K.map .int)]),some (.lst C [e1,.dct d0 ks vs]),some (.lst E [.tup (W1.map .int),.tup (W0.map .int)]),some (.lst (E+5) [.tup [.lst (E+1) (S1.map .int),.lst (E+2) (L1.map .int)],.tup [.lst (E+3) (S0.map .int),.lst (E+4) (L0.map .int)]]),some (.int at'),some (.int 1),o10,o11,o12,o13],[tm0],n⟩
      = .nx ⟨[x0,x1,x2,some (.lst A [r1,.lst k0 (rows.map rD)]),some (.lst B [q1,.lst p0 (K.map .int)]),some (.lst C [e1,.dct d0 ks vs]),some (.lst E [.tup (W1.map .int),.tup (W'.map .int)]),some (.lst (E+5) [.tup [.lst (E+1) (S1.map .int),.lst (E+2) (L1.map .int)],.tup [.lst (E+3) ((S0++S).map .int),.lst (E+4) ((L0++L).map .int)]]),some (.int at'),some (.int 1),some T,o11,o12,o13],[tm0],n'⟩:=by
  have hlt : at' < K.length:=(List.getElem?_eq_some_iff.mp hat).1
  obtain ⟨n1,hn1,e⟩:=told_eq rows hw hr k0 d0 n ks vs hd W0 key S L W' hP lS lL lW' lW (by omega) (by omega)
  unfold ib
  walk_at "mr"
  rw [lenM]
  simp only [show decide ((at' : Int) < (K.length : Int))=true by simp [hlt]]
  walk_at "mr"
  rw [at_nat (d:=.int key) (by omega) (by rw [Int.toNat_natCast,List.getElem?_map,hat]; rfl)]
  walk_at "mr"
  rw [e]
  walk_at "mr"
  simp only [isNon]
  walk_at "mr"
  rw [y_extL (by rw [zl]; simp only [List.length_map]; omega) (ints_labs _)]
  walk_at "mr"
  have f : ∀ j,E≤j→∀ d,rp (pl j d) (.lst A [r1,.lst k0 (rows.map rD)])=.lst A [r1,.lst k0 (rows.map rD)]:=fun j hj d => by rw [rp_ne (by omega)]; simp only [rpL_cons,rpL_nil,rp_rows (show k0≠j by omega),fr j hj]
  have f' : ∀ j,E≤j→∀ d,rp (pl j d) (.lst B [q1,.lst p0 (K.map .int)])=.lst B [q1,.lst p0 (K.map .int)]:=fun j hj d => by rw [rp_ne (by omega)]; simp only [rpL_cons,rpL_nil,rp_li (show p0≠j by omega),fq j hj]
  have f'' : ∀ j,E≤j→∀ d,rp (pl j d) (.lst C [e1,.dct d0 ks vs])=.lst C [e1,.dct d0 ks vs]:=fun j hj d => by rw [rp_ne (by omega)]; simp only [rpL_cons,rpL_nil,rp_dct (show d0≠j by omega) hd.lv,fe j hj]
  simp only [← List.map_append,f0 (E+3) (by omega),f1 (E+3) (by omega),f2 (E+3) (by omega),ft (E+3) (by omega),f (E+3) (by omega),f' (E+3) (by omega),f'' (E+3) (by omega),g11 (E+3) (by omega),g12 (E+3) (by omega),g13 (E+3) (by omega),rp_ne (show E≠E+3 by omega),rp_ne (show E+5≠E+3 by omega),rp_ne (show E+4≠E+3 by omega),rp_ne (show E+1≠E+3 by omega),rp_ne (show E+2≠E+3 by omega),rp_ne (show n≠E+3 by omega),rp_ne (show n+1≠E+3 by omega),rp_self,rp_tup,rpL_cons,rpL_nil,rpL_ints]
  walk_at "mr"
  rw [y_extL (by rw [zl]; simp only [List.length_map]; omega) (ints_labs _)]
  walk_at "mr"
  simp only [← List.map_append,f0 (E+4) (by omega),f1 (E+4) (by omega),f2 (E+4) (by omega),ft (E+4) (by omega),f (E+4) (by omega),f' (E+4) (by omega),f'' (E+4) (by omega),g11 (E+4) (by omega),g12 (E+4) (by omega),g13 (E+4) (by omega),rp_ne (show E≠E+4 by omega),rp_ne (show E+5≠E+4 by omega),rp_ne (show E+3≠E+4 by omega),rp_ne (show E+1≠E+4 by omega),rp_ne (show E+2≠E+4 by omega),rp_ne (show n≠E+4 by omega),rp_ne (show n+1≠E+4 by omega),rp_self,rp_tup,rpL_cons,rpL_nil,rpL_ints]
  try (walk_at "mr")
  try simp only [rp_ne (show E≠E+4 by omega),rp_tup,rpL_cons,rpL_nil,rpL_ints]
  rw [y_set1 (tI_labs W')]
  simp only [rpO_cons,rpO_nil,Option.map_some,rp_int,f0 E (by omega),f1 E (by omega),f2 E (by omega),ft E (by omega),f E (by omega),f' E (by omega),f'' E (by omega),g11 E (by omega),g12 E (by omega),g13 E (by omega),rp_ne (show E+5≠E by omega),rp_ne (show E+3≠E by omega),rp_ne (show E+4≠E by omega),rp_ne (show E+1≠E by omega),rp_ne (show E+2≠E by omega),rp_ne (show n≠E by omega),rp_ne (show n+1≠E by omega),rp_self,rp_tup,rpL_cons,rpL_nil,rpL_ints]
  exact ⟨_,n1,by omega,(by rintro _ ⟨⟩ j hj; simp only [labs,labsL,ints_labs,List.append_nil,List.mem_append,List.mem_cons,List.not_mem_nil,or_false] at hj; omega),rfl⟩
set_option Elab.async false
set_option linter.all false
set_option maxRecDepth 100000
set_option maxHeartbeats 1000000
theorem forR2 {g : Tg} {b : MS} {σ σ1 σ2 σ3 σ4 tm : List (Option D)} {n n2 n4 : Nat} (h1 : asg g (.int 0) σ=some σ1) (h2 : b ⟨σ1,tm,n⟩=.nx ⟨σ2,tm,n2⟩) (h3 : asg g (.int 1) σ2=some σ3) (h4 : b ⟨σ3,tm,n2⟩=.nx ⟨σ4,tm,n4⟩) : forGo (kRng 0 2) g b 2 0 ⟨σ,tm,n⟩=.nx ⟨σ4,tm,n4⟩:=by
  unfold forGo
  show (match asg g (.int 0) σ with | none => _ | some σ' => _)=_
  rw [h1]
  dsimp only
  rw [h2]
  dsimp only
  unfold forGo
  show (match asg g (.int 1) σ2 with | none => _ | some σ' => _)=_
  rw [h3]
  dsimp only
  rw [h4]
  dsimp only
  unfold forGo
  rfl
theorem inv_len {rows : List Row3} (hw : ∀ r∈rows,Wf r) {p S L W : List Int} (h : Inv3 rows p S L W) (hp : p.length≤61) : S.length≤200∧L.length≤61∧W.length≤61:=by
  have e:=inv_end h
  have l:=read_len hw p.length p (Nat.le_refl _)
  rw [e] at l
  simp only [List.length_append] at l
  have:=h.1
  omega
theorem take_key {K : List Int} {i : Nat} {key : Int} (h : K[i]?=some key) : K.take (i+1)=K.take i++[key]:=by rw [List.take_add_one,h]; rfl
theorem take_end {K : List Int} {i : Nat} (h : K.length≤i) : K.take (i+1)=K.take i:=by rw [List.take_of_length_le h,List.take_of_length_le (by omega)]
structure Ev (E A B C k0 k1 p0 p1 d0 d1 : Nat) (R0 R1 : List Row3) (K0 K1 : List Int) (ks0 vs0 ks1 vs1 : List D) : Prop where
  w0 : ∀ r∈R0,Wf r
  w1 : ∀ r∈R1,Wf r
  r0 : R0.length≤60
  r1 : R1.length≤60
  s0 : SD R0 ks0 vs0
  s1 : SD R1 ks1 vs1
  l0 : K0.length≤60
  l1 : K1.length≤60
  b : A < E∧B < E∧C < E∧k0 < E∧k1 < E∧p0 < E∧p1 < E∧d0 < E∧d1 < E
noncomputable abbrev Fe (E : Nat) (o : Option D) : Prop:=∀ j,E≤j→∀ d,Option.map (rp (pl j d)) o=o
noncomputable abbrev fs (x0 x1 x2 : Option D) (E A B C k0 k1 p0 p1 d0 d1 : Nat) (R0 R1 : List Row3) (K0 K1 : List Int) (ks0 vs0 ks1 vs1 : List D) (W0 W1 S0 L0 S1 L1 : List Int) (o8 o9 o10 o11 o12 o13 : Option D) : List (Option D) :=
  [x0,x1,x2,some (.lst A [.lst k0 (R0.map rD),.lst k1 (R1.map rD)]),some (.lst B [.lst p0 (K0.map .int),.lst p1 (K1.map .int)]),some (.lst C [.dct d0 ks0 vs0,.dct d1 ks1 vs1]),some (.lst E [.tup (W0.map .int),.tup (W1.map .int)]),some (.lst (E+5) [.tup [.lst (E+1) (S0.map .int),.lst (E+2) (L0.map .int)],.tup [.lst (E+3) (S1.map .int),.lst (E+4) (L1.map .int)]]),o8,o9,o10,o11,o12,o13]
theorem s0_eq {x0 x1 x2 tm0 : Option D} {E A B C k0 k1 p0 p1 d0 d1 : Nat} {R0 R1 : List Row3} {K0 K1 : List Int} {ks0 vs0 ks1 vs1 : List D} (V : Ev E A B C k0 k1 p0 p1 d0 d1 R0 R1 K0 K1 ks0 vs0 ks1 vs1) (f0 : Fe E x0) (f1 : Fe E x1) (f2 : Fe E x2) (ft : Fe E tm0) (W0 W1 S0 L0 S1 L1 : List Int) (at' n : Nat) (o10 o11 o12 o13 : Option D) (g11 : Fe E o11) (g12 : Fe E o12) (g13 : Fe E o13) (hn : E+5 < n) (u10 : UpO n o10) (I : Inv3 R0 (K0.take at') S0 L0 W0) :
    ∃ (W' S' L' : List Int) (p10 : Option D) (n' : Nat),n≤n'∧UpO n' p10∧Inv3 R0 (K0.take (at'+1)) S' L' W'∧ib ⟨fs x0 x1 x2 E A B C k0 k1 p0 p1 d0 d1 R0 R1 K0 K1 ks0 vs0 ks1 vs1 W0 W1 S0 L0 S1 L1 (some (.int at')) (some (.int 0)) o10 o11 o12 o13,[tm0],n⟩=.nx ⟨fs x0 x1 x2 E A B C k0 k1 p0 p1 d0 d1 R0 R1 K0 K1 ks0 vs0 ks1 vs1 W' W1 S' L' S1 L1 (some (.int at')) (some (.int 0)) p10 o11 o12 o13,[tm0],n'⟩:=by
  obtain ⟨b1,b2,b3,b4,b5,b6,b7,b8,b9⟩:=V.b
  have l0:=V.l0
  cases hat : K0[at']? with
  | none =>
    have hl:=List.getElem?_eq_none_iff.mp hat
    refine ⟨W0,S0,L0,o10,n,Nat.le_refl _,u10,by rw [take_end hl]; exact I,?_⟩
    unfold ib fs
    walk_at "mr"
    rw [lenM]
    simp only [show decide ((at' : Int) < (K0.length : Int))=false by simp; omega]
    walk_at "mr"
  | some key =>
    have J:=inv_press V.w0 (k:=key) I
    rw [← take_key hat] at J
    have hp : (K0.take (at'+1)).length≤61:=by rw [List.length_take]; omega
    have j:=inv_len V.w0 J hp
    have i:=inv_len V.w0 I (by rw [List.length_take]; omega)
    simp only [List.length_append] at j
    obtain ⟨T,n',hn',uT,e⟩:=ib0 x0 x1 x2 A B C E k0 p0 d0 (.lst k1 (R1.map rD)) (.lst p1 (K1.map .int)) (.dct d1 ks1 vs1) R0 V.w0 V.r0 ks0 vs0 V.s0 K0 W0 W1 S0 L0 S1 L1 (pressM R0 1000 (W0++[key])).1 (pressM R0 1000 (W0++[key])).2.1 (pressM R0 1000 (W0++[key])).2.2 at' key o10 o11 o12 o13 tm0 n hat rfl (by omega) (by omega) (by omega) (by omega) (by omega) (by omega) b4 b8 b1 b2 b3 b6 hn f0 f1 f2 ft (fun j hj d => rp_rows (by omega)) (fun j hj d => rp_li (by omega)) (fun j hj d => rp_dct (by omega) V.s1.lv) g11 g12 g13
    exact ⟨_,_,_,some T,n',by omega,uT,J,e⟩
theorem s1_eq {x0 x1 x2 tm0 : Option D} {E A B C k0 k1 p0 p1 d0 d1 : Nat} {R0 R1 : List Row3} {K0 K1 : List Int} {ks0 vs0 ks1 vs1 : List D} (V : Ev E A B C k0 k1 p0 p1 d0 d1 R0 R1 K0 K1 ks0 vs0 ks1 vs1) (f0 : Fe E x0) (f1 : Fe E x1) (f2 : Fe E x2) (ft : Fe E tm0) (W0 W1 S0 L0 S1 L1 : List Int) (at' n : Nat) (o10 o11 o12 o13 : Option D) (g11 : Fe E o11) (g12 : Fe E o12) (g13 : Fe E o13) (hn : E+5 < n) (u10 : UpO n o10) (I : Inv3 R1 (K1.take at') S1 L1 W1) :
    ∃ (W' S' L' : List Int) (p10 : Option D) (n' : Nat),n≤n'∧UpO n' p10∧Inv3 R1 (K1.take (at'+1)) S' L' W'∧ib ⟨fs x0 x1 x2 E A B C k0 k1 p0 p1 d0 d1 R0 R1 K0 K1 ks0 vs0 ks1 vs1 W0 W1 S0 L0 S1 L1 (some (.int at')) (some (.int 1)) o10 o11 o12 o13,[tm0],n⟩=.nx ⟨fs x0 x1 x2 E A B C k0 k1 p0 p1 d0 d1 R0 R1 K0 K1 ks0 vs0 ks1 vs1 W0 W' S0 L0 S' L' (some (.int at')) (some (.int 1)) p10 o11 o12 o13,[tm0],n'⟩:=by
  obtain ⟨b1,b2,b3,b4,b5,b6,b7,b8,b9⟩:=V.b
  have l0:=V.l1
  cases hat : K1[at']? with
  | none =>
    have hl:=List.getElem?_eq_none_iff.mp hat
    refine ⟨W1,S1,L1,o10,n,Nat.le_refl _,u10,by rw [take_end hl]; exact I,?_⟩
    unfold ib fs
    walk_at "mr"
    rw [lenM]
    simp only [show decide ((at' : Int) < (K1.length : Int))=false by simp; omega]
    walk_at "mr"
  | some key =>
    have J:=inv_press V.w1 (k:=key) I
    rw [← take_key hat] at J
    have hp : (K1.take (at'+1)).length≤61:=by rw [List.length_take]; omega
    have j:=inv_len V.w1 J hp
    have i:=inv_len V.w1 I (by rw [List.length_take]; omega)
    simp only [List.length_append] at j
    obtain ⟨T,n',hn',uT,e⟩:=ib1 x0 x1 x2 A B C E k1 p1 d1 (.lst k0 (R0.map rD)) (.lst p0 (K0.map .int)) (.dct d0 ks0 vs0) R1 V.w1 V.r1 ks1 vs1 V.s1 K1 W1 W0 S1 L1 S0 L0 (pressM R1 1000 (W1++[key])).1 (pressM R1 1000 (W1++[key])).2.1 (pressM R1 1000 (W1++[key])).2.2 at' key o10 o11 o12 o13 tm0 n hat rfl (by omega) (by omega) (by omega) (by omega) (by omega) (by omega) b5 b9 b1 b2 b3 b7 hn f0 f1 f2 ft (fun j hj d => rp_rows (by omega)) (fun j hj d => rp_li (by omega)) (fun j hj d => rp_dct (by omega) V.s0.lv) g11 g12 g13
    exact ⟨_,_,_,some T,n',by omega,uT,J,e⟩
set_option Elab.async false
set_option linter.all false
set_option maxRecDepth 100000
set_option maxHeartbeats 1000000
noncomputable def eb : MS:=(seqS (sAsg (.tp [(.nm 11),(.nm 12)]) (mCall f_p_end_keys [(mBin (mVar 3) (mVar 9) ixD),(mBin (mVar 6) (mVar 9) ixD)]))
    (seqS (sAsg (.nm 13) (mCB [(mBin (mBin (mBin (mVar 7) (mVar 9) ixD) (mC (.int 0)) ixD) (mVar 11) addD),(mBin (mBin (mBin (mVar 7) (mVar 9) ixD) (mC (.int 1)) ixD) (mVar 12) addD)] tupD))
    (sIf (mOr (mBoo (mBin (mVar 13) (mCall f_l_read [(mBin (mVar 3) (mVar 9) ixD),(mBin (mVar 4) (mVar 9) ixD)]) neD)) (mBoo (mBin (mVar 13) (mCall f_p_read_keys [(mBin (mVar 3) (mVar 9) ixD),(mBin (mVar 4) (mVar 9) ixD)]) neD))) (sRet (mC (.bool false))) sNx)))
theorem rs_T2 {q p : Nat} {S L : List Int} (h1 : S.length≤2000) (h2 : L.length≤2000) : Rs 0 (.tup [.lst q (S.map .int),.lst p (L.map .int)])=true∧(er (.tup [.lst q (S.map .int),.lst p (L.map .int)])).depth≤2:=rs_tup (by simp) fun e he => by
  simp only [List.mem_cons,List.not_mem_nil,or_false] at he
  rcases he with rfl | rfl
  · exact rs_lst (Nat.zero_le _) (by simpa using h1) rs_ints
  · exact rs_lst (Nat.zero_le _) (by simpa using h2) rs_ints
theorem ne_T2 {a b c d : Nat} {S L : List Int} {s : Stt} (h1 : S.length≤2000) (h2 : L.length≤2000) : neD (.tup [.lst a (S.map .int),.lst b (L.map .int)]) (.tup [.lst c (S.map .int),.lst d (L.map .int)]) s=.ok (.bool false) s :=
  ne_same (Rs_gd _ (rs_T2 h1 h2).1) (Rs_gd _ (rs_T2 h1 h2).1) rfl (by have:=(rs_T2 (q:=c) (p:=d) h1 h2).2; omega)
theorem eb0 {x0 x1 x2 tm0 : Option D} {E A B C k0 k1 p0 p1 d0 d1 : Nat} {R0 R1 : List Row3} {K0 K1 : List Int} {ks0 vs0 ks1 vs1 : List D} (V : Ev E A B C k0 k1 p0 p1 d0 d1 R0 R1 K0 K1 ks0 vs0 ks1 vs1) (W0 W1 S0 L0 S1 L1 : List Int) (n : Nat) (o8 o10 o11 o12 o13 : Option D) (hn : E+5 < n) (I : Inv3 R0 K0 S0 L0 W0) :
    ∃ (n' : Nat) (p11 p12 p13 : Option D),n≤n'∧UpO n' p11∧UpO n' p12∧UpO n' p13∧eb ⟨fs x0 x1 x2 E A B C k0 k1 p0 p1 d0 d1 R0 R1 K0 K1 ks0 vs0 ks1 vs1 W0 W1 S0 L0 S1 L1 o8 (some (.int 0)) o10 o11 o12 o13,[tm0],n⟩=.nx ⟨fs x0 x1 x2 E A B C k0 k1 p0 p1 d0 d1 R0 R1 K0 K1 ks0 vs0 ks1 vs1 W0 W1 S0 L0 S1 L1 o8 (some (.int 0)) o10 p11 p12 p13,[tm0],n'⟩:=by
  obtain ⟨b1,b2,b3,b4,b5,b6,b7,b8,b9⟩:=V.b
  have l0:=V.l0
  have i:=inv_len V.w0 I (by omega)
  have hrl:=read_len V.w0 W0.length W0 (Nat.le_refl _)
  have he:=inv_end I
  obtain ⟨n2,hn2,e2⟩:=lread_eq R0 K0 k0 (n+2+1+1) (.lst p0 (K0.map .int)) V.w0 (by omega) (by omega) (.inl ⟨p0,by omega,rfl⟩)
  rw [he] at e2
  have e3:=pread_eq R0 K0 k0 n2 (.lst p0 (K0.map .int)) V.w0 (by omega) (by omega) (.inl ⟨p0,by omega,rfl⟩)
  rw [he] at e3
  unfold eb fs
  walk_at "mr"
  rw [pend_eq R0 W0 k0 n V.w0 (by omega) (by omega)]
  walk_at "mr"
  rw [y_addL (by rw [zl]; simp only [List.length_map]; omega)]
  walk_at "mr"
  rw [y_addL (by rw [zl]; simp only [List.length_map]; omega)]
  walk_at "mr"
  rw [e2]
  walk_at "mr"
  simp only [← List.map_append]
  rw [ne_T2 (by rw [List.length_append]; omega) (by rw [List.length_append]; omega)]
  walk_at "mr"
  rw [e3]
  walk_at "mr"
  try simp only [← List.map_append]
  rw [ne_T2 (by rw [List.length_append]; omega) (by rw [List.length_append]; omega)]
  walk_at "mr"
  refine ⟨n2+2,_,_,_,by omega,?_,?_,?_,rfl⟩
  · rintro _ ⟨⟩ j hj; simp only [labs,ints_labs,List.mem_singleton] at hj; omega
  · rintro _ ⟨⟩ j hj; simp only [labs,ints_labs,List.mem_singleton] at hj; omega
  · rintro _ ⟨⟩ j hj; simp only [labs,labsL,ints_labs,List.append_nil,List.mem_append,List.mem_singleton] at hj; omega
theorem eb1 {x0 x1 x2 tm0 : Option D} {E A B C k0 k1 p0 p1 d0 d1 : Nat} {R0 R1 : List Row3} {K0 K1 : List Int} {ks0 vs0 ks1 vs1 : List D} (V : Ev E A B C k0 k1 p0 p1 d0 d1 R0 R1 K0 K1 ks0 vs0 ks1 vs1) (W0 W1 S0 L0 S1 L1 : List Int) (n : Nat) (o8 o10 o11 o12 o13 : Option D) (hn : E+5 < n) (I : Inv3 R1 K1 S1 L1 W1) :
    ∃ (n' : Nat) (p11 p12 p13 : Option D),n≤n'∧UpO n' p11∧UpO n' p12∧UpO n' p13∧eb ⟨fs x0 x1 x2 E A B C k0 k1 p0 p1 d0 d1 R0 R1 K0 K1 ks0 vs0 ks1 vs1 W0 W1 S0 L0 S1 L1 o8 (some (.int 1)) o10 o11 o12 o13,[tm0],n⟩=.nx ⟨fs x0 x1 x2 E A B C k0 k1 p0 p1 d0 d1 R0 R1 K0 K1 ks0 vs0 ks1 vs1 W0 W1 S0 L0 S1 L1 o8 (some (.int 1)) o10 p11 p12 p13,[tm0],n'⟩:=by
  obtain ⟨b1,b2,b3,b4,b5,b6,b7,b8,b9⟩:=V.b
  have l0:=V.l1
  have i:=inv_len V.w1 I (by omega)
  have hrl:=read_len V.w1 W1.length W1 (Nat.le_refl _)
  have he:=inv_end I
  obtain ⟨n2,hn2,e2⟩:=lread_eq R1 K1 k1 (n+2+1+1) (.lst p1 (K1.map .int)) V.w1 (by omega) (by omega) (.inl ⟨p1,by omega,rfl⟩)
  rw [he] at e2
  have e3:=pread_eq R1 K1 k1 n2 (.lst p1 (K1.map .int)) V.w1 (by omega) (by omega) (.inl ⟨p1,by omega,rfl⟩)
  rw [he] at e3
  unfold eb fs
  walk_at "mr"
  rw [pend_eq R1 W1 k1 n V.w1 (by omega) (by omega)]
  walk_at "mr"
  rw [y_addL (by rw [zl]; simp only [List.length_map]; omega)]
  walk_at "mr"
  rw [y_addL (by rw [zl]; simp only [List.length_map]; omega)]
  walk_at "mr"
  rw [e2]
  walk_at "mr"
  simp only [← List.map_append]
  rw [ne_T2 (by rw [List.length_append]; omega) (by rw [List.length_append]; omega)]
  walk_at "mr"
  rw [e3]
  walk_at "mr"
  try simp only [← List.map_append]
  rw [ne_T2 (by rw [List.length_append]; omega) (by rw [List.length_append]; omega)]
  walk_at "mr"
  refine ⟨n2+2,_,_,_,by omega,?_,?_,?_,rfl⟩
  · rintro _ ⟨⟩ j hj; simp only [labs,ints_labs,List.mem_singleton] at hj; omega
  · rintro _ ⟨⟩ j hj; simp only [labs,ints_labs,List.mem_singleton] at hj; omega
  · rintro _ ⟨⟩ j hj; simp only [labs,labsL,ints_labs,List.append_nil,List.mem_append,List.mem_singleton] at hj; omega
theorem at_loop {x0 x1 x2 tm0 : Option D} {E A B C k0 k1 p0 p1 d0 d1 : Nat} {R0 R1 : List Row3} {K0 K1 : List Int} {ks0 vs0 ks1 vs1 : List D} (V : Ev E A B C k0 k1 p0 p1 d0 d1 R0 R1 K0 K1 ks0 vs0 ks1 vs1) (f0 : Fe E x0) (f1 : Fe E x1) (f2 : Fe E x2) (ft : Fe E tm0) (n N : Nat) (o8 o9 o10 o11 o12 o13 : Option D) (u8 : UpO n o8) (u9 : UpO n o9) (u10 : UpO n o10) (g11 : Fe E o11) (g12 : Fe E o12) (g13 : Fe E o13) (hn : E+5 < n) :
    ∃ (W0 W1 S0 L0 S1 L1 : List Int) (q8 q9 q10 : Option D) (n' : Nat),n≤n'∧(UpO n' q8∧UpO n' q9∧UpO n' q10)∧Inv3 R0 (K0.take N) S0 L0 W0∧Inv3 R1 (K1.take N) S1 L1 W1 ∧
      forGo (kRng 0 N) (.nm 8) (sFor (mRng1 [(mC (.int 2))]) (.nm 9) ib) N 0 ⟨fs x0 x1 x2 E A B C k0 k1 p0 p1 d0 d1 R0 R1 K0 K1 ks0 vs0 ks1 vs1 [] [] [] [] [] [] o8 o9 o10 o11 o12 o13,[tm0],n⟩=.nx ⟨fs x0 x1 x2 E A B C k0 k1 p0 p1 d0 d1 R0 R1 K0 K1 ks0 vs0 ks1 vs1 W0 W1 S0 L0 S1 L1 q8 q9 q10 o11 o12 o13,[tm0],n'⟩:=by
  obtain ⟨s',e,W0,W1,S0,L0,S1,L1,q8,q9,q10,n',rfl,hn',uq,I0,I1⟩:=for_rng (P:=fun i s => ∃ (W0 W1 S0 L0 S1 L1 : List Int) (q8 q9 q10 : Option D) (n' : Nat),s=⟨fs x0 x1 x2 E A B C k0 k1 p0 p1 d0 d1 R0 R1 K0 K1 ks0 vs0 ks1 vs1 W0 W1 S0 L0 S1 L1 q8 q9 q10 o11 o12 o13,[tm0],n'⟩∧n≤n'∧(UpO n' q8∧UpO n' q9∧UpO n' q10)∧Inv3 R0 (K0.take i) S0 L0 W0∧Inv3 R1 (K1.take i) S1 L1 W1) (lo:=0) (N:=N) (g:=.nm 8) (b:=sFor (mRng1 [(mC (.int 2))]) (.nm 9) ib) (by
    rintro i hi s ⟨W0,W1,S0,L0,S1,L1,q8,q9,q10,n1,rfl,hn1,uq,I0,I1⟩
    refine ⟨fs x0 x1 x2 E A B C k0 k1 p0 p1 d0 d1 R0 R1 K0 K1 ks0 vs0 ks1 vs1 W0 W1 S0 L0 S1 L1 (some (.int i)) q9 q10 o11 o12 o13,by simp only [Int.zero_add]; rfl,?_⟩
    obtain ⟨W0',S0',L0',p10,n2,hn2,up,J0,e0⟩:=s0_eq V f0 f1 f2 ft W0 W1 S0 L0 S1 L1 i n1 q10 o11 o12 o13 g11 g12 g13 (by omega) uq.2.2 I0
    obtain ⟨W1',S1',L1',p10',n3,hn3,up',J1,e1⟩:=s1_eq V f0 f1 f2 ft W0' W1 S0' L0' S1 L1 i n2 p10 o11 o12 o13 g11 g12 g13 (by omega) up I1
    refine ⟨_,?_,W0',W1',S0',L0',S1',L1',some (.int i),some (.int 1),p10',n3,rfl,by omega,⟨by rintro _ ⟨⟩ j hj; simp [labs] at hj,by rintro _ ⟨⟩ j hj; simp [labs] at hj,up'⟩,J0,J1⟩
    rw [x_for]
    rw [show mRng1 [mC (.int 2)] ⟨fs x0 x1 x2 E A B C k0 k1 p0 p1 d0 d1 R0 R1 K0 K1 ks0 vs0 ks1 vs1 W0 W1 S0 L0 S1 L1 (some (.int i)) q9 q10 o11 o12 o13,[tm0],n1⟩=.ok (kRng 0 2) ⟨fs x0 x1 x2 E A B C k0 k1 p0 p1 d0 d1 R0 R1 K0 K1 ks0 vs0 ks1 vs1 W0 W1 S0 L0 S1 L1 (some (.int i)) q9 q10 o11 o12 o13,[tm0],n1⟩ from rfl]
    exact forR2 (g:=.nm 9) rfl e0 rfl e1) N 0 ⟨fs x0 x1 x2 E A B C k0 k1 p0 p1 d0 d1 R0 R1 K0 K1 ks0 vs0 ks1 vs1 [] [] [] [] [] [] o8 o9 o10 o11 o12 o13,[tm0],n⟩ (by omega) ⟨[],[],[],[],[],[],o8,o9,o10,n,rfl,Nat.le_refl _,⟨u8,u9,u10⟩,inv_nil _,inv_nil _⟩
  exact ⟨W0,W1,S0,L0,S1,L1,q8,q9,q10,n',hn',uq,I0,I1,e⟩
set_option Elab.async false
set_option linter.all false
set_option maxRecDepth 100000
set_option maxHeartbeats 1000000
theorem comp2 {mi : M ItK} {me : M D} {A n n1 n2 : Nat} {a b y1 y2 : D} {σ0 σ1 σ2 tm0 tm1 tm2 cap1 cap2 : List (Option D)} {ix : List Nat} {s : Stt}
    (hi : mi s=.ok kLst ⟨σ0,some (.lst A [a,b]) :: tm0,n⟩) (l1 : σ1.length=σ0.length) (l2 : σ2.length=σ0.length)
    (h1 : me ⟨some a :: (ix.map fun i => (σ0[i]?).getD none),σ0++(some (.lst A [a,b]) :: tm0),n⟩=.ok y1 ⟨some a :: cap1,σ1++(some (.lst A [a,b]) :: tm1),n1⟩)
    (h2 : me ⟨some b :: cap1,some y1 :: (σ1++(some (.lst A [a,b]) :: tm1)),n1⟩=.ok y2 ⟨some b :: cap2,some y1 :: (σ2++(some (.lst A [a,b]) :: tm2)),n2⟩) :
    mComp mi (.nm 0) (rt true) me 1 ix s=.ok (.lst n2 [y1,y2]) ⟨σ2,tm2,n2+1⟩:=by
  unfold mComp bd
  rw [hi]
  dsimp only
  show compGo kLst (.nm 0) (rt true) me σ0.length 2 0 0 ⟨none :: (ix.map fun i => (σ0[i]?).getD none),σ0++(some (.lst A [a,b]) :: tm0),n⟩=_
  unfold compGo
  have a0 : kLst.at' 0 ((σ0++(some (.lst A [a,b]) :: tm0)).drop (0+σ0.length))=some (some a):=by rw [Nat.zero_add,List.drop_left]; rfl
  simp only [a0]
  show (match me ⟨some a :: (ix.map fun i => (σ0[i]?).getD none),σ0++(some (.lst A [a,b]) :: tm0),n⟩ with | .ok y s2 => _ | _ => _)=_
  rw [h1]
  dsimp only
  show compGo kLst (.nm 0) (rt true) me σ0.length 1 1 1 ⟨some a :: cap1,some y1 :: (σ1++(some (.lst A [a,b]) :: tm1)),n1⟩=_
  unfold compGo
  have a1 : kLst.at' 1 ((some y1 :: (σ1++(some (.lst A [a,b]) :: tm1))).drop (1+σ0.length))=some (some b):=by rw [Nat.add_comm,List.drop_succ_cons,← l1,List.drop_left]; rfl
  simp only [a1]
  show (match me ⟨some b :: cap1,some y1 :: (σ1++(some (.lst A [a,b]) :: tm1)),n1⟩ with | .ok y s2 => _ | _ => _)=_
  rw [h2]
  dsimp only
  show compGo kLst (.nm 0) (rt true) me σ0.length 0 2 2 ⟨some b :: cap2,some y2 :: some y1 :: (σ2++(some (.lst A [a,b]) :: tm2)),n2⟩=_
  unfold compGo
  have a2 : kLst.at' 2 ((some y2 :: some y1 :: (σ2++(some (.lst A [a,b]) :: tm2))).drop (2+σ0.length))=some none:=by rw [Nat.add_comm,List.drop_succ_cons,List.drop_succ_cons,← l2,List.drop_left]; rfl
  simp only [a2]
  show Res.ok (D.lst n2 [y1,y2]) ⟨(σ2++(some (.lst A [a,b]) :: tm2)).take σ0.length,(some y2 :: some y1 :: (σ2++(some (.lst A [a,b]) :: tm2))).drop (2+σ0.length+1),n2+1⟩=_
  rw [← l2,List.take_left,show 2+σ2.length+1=σ2.length+1+2 by omega,List.drop_succ_cons,List.drop_succ_cons,← List.drop_drop,List.drop_left]
  rfl
set_option Elab.async false
set_option linter.all false
set_option maxRecDepth 100000
set_option maxHeartbeats 1000000
theorem callK_B {t i : D} {l k n' n : Nat} {b b' R : List D} {σ tm : List (Option D)} (h : l≠k) (hb : labsL b=[]) (hb' : labsL b'=[]) (hR : labsL R=[]) (hi : labs i=[]) (g1 : rpO (f2 l k b R) σ=σ) (g2 : rpO (f2 l k b R) tm=tm) :
    callK (.ok t [.lst l b',.lst k R,i] n') [.lst l b,.lst k R,i] ⟨σ,tm,n⟩=.ok t ⟨rpO (f2 l k b' R) σ,rpO (f2 l k b' R) tm,n'⟩:=by
  have fi : ∀ j,findT j i=none:=fun j => findT_none i (by rw [hi]; exact List.not_mem_nil)
  have e : (fun j => findL j [D.lst l b',.lst k R,i])=f2 l k b' R:=by
    funext j
    simp only [findL,findT,f2]
    by_cases h1 : l=j
    · simp only [if_pos h1]
    · simp only [if_neg h1,findL_none _ (show j ∉ labsL b' by rw [hb']; exact List.not_mem_nil)]
      by_cases h2 : k=j
      · simp only [if_pos h2]
      · simp only [if_neg h2,findL_none _ (show j ∉ labsL R by rw [hR]; exact List.not_mem_nil),fi]
  unfold callK
  dsimp only
  by_cases hz : [D.lst l b',D.lst k R,i]=[D.lst l b,D.lst k R,i]
  · have hh : b'=b:=by injection hz with hz _; injection hz
    subst hh
    rw [if_pos rfl,g1,g2]
  · rw [if_neg hz,if_pos]
    · rw [e]
    · intro j _ hj
      rw [show findL j [D.lst l b',D.lst k R,i]=f2 l k b' R j from congrFun e j]
      simp only [labsL,labs,hb,hR,hi,List.append_nil,List.mem_append,List.mem_cons,List.not_mem_nil,or_false] at hj
      unfold f2
      rcases hj with rfl | rfl
      · simp
      · simp [h]
theorem fixO {n l k : Nat} {A B : List D} {o : Option D} (h : UpO n o) (hl : n≤l) (hk : n≤k) : Option.map (rp (f2 l k A B)) o=o:=by
  cases o with
  | none => rfl
  | some t =>
    rw [Option.map_some,rp_id t fun j hj => by
      have:=h t rfl j hj
      unfold f2
      rw [if_neg (by omega),if_neg (by omega)]]
theorem ro_rp2 {ns : List Int} {l k : Nat} {A B : List D} : rp (f2 l k A B) (.ro (ns.map .int))=.ro (ns.map .int):=by simp only [rp,rp2_ints]
theorem rp2_ne {q p k : Nat} {A B ds : List D} (h1 : q≠k) (h2 : p≠k) : rp (f2 q p A B) (.lst k ds)=.lst k (rpL (f2 q p A B) ds):=by simp only [rp,f2,if_neg h1,if_neg h2]
theorem head_eq (ns : List Int) (i : Int) (n : Nat) (c x : Int) (hb : Bg c x) (o3 o4 o5 o6 o7 o8 o9 o10 o11 o12 o13 : Option D) (u3 : UpO n o3) (u4 : UpO n o4) (u5 : UpO n o5) (u6 : UpO n o6) (u7 : UpO n o7) (u8 : UpO n o8) (u9 : UpO n o9) (u10 : UpO n o10) (u11 : UpO n o11) (u12 : UpO n o12) (u13 : UpO n o13) (cont : MS) :
    ∃ (c' x' : Int) (E A B C k0 k1 p0 p1 d0 d1 : Nat) (R0 R1 : List Row3) (K0 K1 : List Int) (ks0 vs0 ks1 vs1 : List D),n < E∧Ev E A B C k0 k1 p0 p1 d0 d1 R0 R1 K0 K1 ks0 vs0 ks1 vs1 ∧
      (seqS (sAsg (.nm 3) (mCB [(mCall f_l_table [(mVar 2)]),(mCall f_l_table [(mVar 2)])] lstM))
    (seqS (sAsg (.nm 4) (mComp (mSeqI (mVar 3)) (.nm 0) (rt true) (mCall f_l_pressed [(mVar 1),(mVar 0),(mC (.int 60))]) 1 [2]))
    (seqS (sAsg (.nm 5) (mComp (mSeqI (mVar 3)) (.nm 0) (rt true) (mCall f_l_starts [(mVar 0)]) 1 []))
    (seqS (sAsg (.nm 6) (mCB [(mCB [] tupD),(mCB [] tupD)] lstM))
    (seqS (sAsg (.nm 7) (mCB [(mCB [(mCB [] lstM),(mCB [] lstM)] tupD),(mCB [(mCB [] lstM),(mCB [] lstM)] tupD)] lstM)) cont))))) ⟨[some (.ro (ns.map .int)),some (.int i),some (.lst n [.int c,.int x]),o3,o4,o5,o6,o7,o8,o9,o10,o11,o12,o13],[some (.ro (ns.map .int))],n+1⟩
      = cont ⟨fs (some (.ro (ns.map .int))) (some (.int i)) (some (.lst n [.int c',.int x'])) E A B C k0 k1 p0 p1 d0 d1 R0 R1 K0 K1 ks0 vs0 ks1 vs1 [] [] [] [] [] [] o8 o9 o10 o11 o12 o13,[some (.ro (ns.map .int))],E+6⟩:=by
  have sr : ∀ k d,rp (pl k d) (.ro (ns.map .int))=.ro (ns.map .int):=fun k d => by simp only [rp,rpL_ints]
  have s3:=u3.fix
  have s4:=u4.fix
  have s5:=u5.fix
  have s6:=u6.fix
  have s7:=u7.fix
  have s8:=u8.fix
  have s9:=u9.fix
  have s10:=u10.fix
  have s11:=u11.fix
  have s12:=u12.fix
  have s13:=u13.fix
  walk_at "mr"
  obtain ⟨R0,c1,x1,k0,n1,w0,l0,b1,hk0,hn1,e1⟩:=table_eq n (n+1) c x hb (by omega)
  rw [e1, callK_bag rfl rfl rfl (by walk_at "mr"; simp only [sr, s3, s4, s5, s6, s7, s8, s9, s10, s11, s12, s13]) (by walk_at "mr"; simp only [sr])]
  walk_at "mr"
  simp only [sr,s3,s4,s5,s6,s7,s8,s9,s10,s11,s12,s13]
  try (walk_at "mr")
  obtain ⟨R1,c2,x2,k1,n2,w1,l1,b2,hk1,hn2,e2⟩:=table_eq n n1 c1 x1 b1 (by omega)
  rw [e2, callK_bag rfl rfl rfl (by walk_at "mr"; simp only [sr, s3, s4, s5, s6, s7, s8, s9, s10, s11, s12, s13]) (by walk_at "mr"; simp only [sr, rp_rows (show k0 ≠ n by omega)])]
  walk_at "mr"
  simp only [sr,s3,s4,s5,s6,s7,s8,s9,s10,s11,s12,s13,rp_rows (show k0≠n by omega)]
  try (walk_at "mr")
  obtain ⟨K0,c3,x3,p0,n3,lK0,b3,hp0,hn3,e3⟩:=pressed_eq R0 w0 (by omega) n k0 (n2+1) c2 x2 b2 (by omega) (by omega) (by omega)
  obtain ⟨K1,c4,x4,p1,n4,lK1,b4,hp1,hn4,e4⟩:=pressed_eq R1 w1 (by omega) n k1 n3 c3 x3 b3 (by omega) (by omega) (by omega)
  have ec:=comp2 (mi:=mSeqI (mVar 3)) (me:=mCall f_l_pressed [(mVar 1),(mVar 0),(mC (.int 60))]) (A:=n2) (n:=n2+1) (n1:=n3) (n2:=n4) (a:=.lst k0 (R0.map rD)) (b:=.lst k1 (R1.map rD)) (y1:=.lst p0 (K0.map .int)) (y2:=.lst p1 (K1.map .int))
    (σ0:=[some (.ro (ns.map .int)),some (.int i),some (.lst n [.int c2,.int x2]),some (.lst n2 [.lst k0 (R0.map rD),.lst k1 (R1.map rD)]),o4,o5,o6,o7,o8,o9,o10,o11,o12,o13])
    (σ1:=[some (.ro (ns.map .int)),some (.int i),some (.lst n [.int c3,.int x3]),some (.lst n2 [.lst k0 (R0.map rD),.lst k1 (R1.map rD)]),o4,o5,o6,o7,o8,o9,o10,o11,o12,o13])
    (σ2:=[some (.ro (ns.map .int)),some (.int i),some (.lst n [.int c4,.int x4]),some (.lst n2 [.lst k0 (R0.map rD),.lst k1 (R1.map rD)]),o4,o5,o6,o7,o8,o9,o10,o11,o12,o13])
    (tm0:=[some (.ro (ns.map .int))]) (tm1:=[some (.ro (ns.map .int))]) (tm2:=[some (.ro (ns.map .int))]) (cap1:=[some (.lst n [.int c3,.int x3])]) (cap2:=[some (.lst n [.int c4,.int x4])]) (ix:=[2]) (s:=⟨[some (.ro (ns.map .int)),some (.int i),some (.lst n [.int c2,.int x2]),some (.lst n2 [.lst k0 (R0.map rD),.lst k1 (R1.map rD)]),o4,o5,o6,o7,o8,o9,o10,o11,o12,o13],[some (.ro (ns.map .int))],n2+1⟩)
    (x_seqI (by walk_at "mr")) rfl rfl (by
      simp only [List.map_cons,List.map_nil,List.getElem?_cons_zero,List.getElem?_cons_succ,Option.getD_some,List.cons_append,List.nil_append]
      walk_at "mr"
      rw [e3,callK_B (show n≠k0 by omega) rfl rfl (rows_labs R0) rfl (by simp only [rpO_cons,rpO_nil,Option.map_some,ro_rp2,rp_int,rp2_q,rp2_ne (show n≠n2 by omega) (show k0≠n2 by omega),rpL_cons,rpL_nil,rp2_p (show n≠k0 by omega),rp2_rows (show n≠k1 by omega) (show k0≠k1 by omega),fixO u4 (show n≤n by omega) (show n≤k0 by omega),fixO u5 (show n≤n by omega) (show n≤k0 by omega),fixO u6 (show n≤n by omega) (show n≤k0 by omega),fixO u7 (show n≤n by omega) (show n≤k0 by omega),fixO u8 (show n≤n by omega) (show n≤k0 by omega),fixO u9 (show n≤n by omega) (show n≤k0 by omega),fixO u10 (show n≤n by omega) (show n≤k0 by omega),fixO u11 (show n≤n by omega) (show n≤k0 by omega),fixO u12 (show n≤n by omega) (show n≤k0 by omega),fixO u13 (show n≤n by omega) (show n≤k0 by omega)]) (by simp only [rpO_cons,rpO_nil,Option.map_some,ro_rp2,rp_int,rp2_q,rp2_ne (show n≠n2 by omega) (show k0≠n2 by omega),rpL_cons,rpL_nil,rp2_p (show n≠k0 by omega),rp2_rows (show n≠k1 by omega) (show k0≠k1 by omega),fixO u4 (show n≤n by omega) (show n≤k0 by omega),fixO u5 (show n≤n by omega) (show n≤k0 by omega),fixO u6 (show n≤n by omega) (show n≤k0 by omega),fixO u7 (show n≤n by omega) (show n≤k0 by omega),fixO u8 (show n≤n by omega) (show n≤k0 by omega),fixO u9 (show n≤n by omega) (show n≤k0 by omega),fixO u10 (show n≤n by omega) (show n≤k0 by omega),fixO u11 (show n≤n by omega) (show n≤k0 by omega),fixO u12 (show n≤n by omega) (show n≤k0 by omega),fixO u13 (show n≤n by omega) (show n≤k0 by omega)])]
      walk_at "mr"
      simp only [rpO_cons,rpO_nil,Option.map_some,ro_rp2,rp_int,rp2_q,rp2_ne (show n≠n2 by omega) (show k0≠n2 by omega),rpL_cons,rpL_nil,rp2_p (show n≠k0 by omega),rp2_rows (show n≠k1 by omega) (show k0≠k1 by omega),fixO u4 (show n≤n by omega) (show n≤k0 by omega),fixO u5 (show n≤n by omega) (show n≤k0 by omega),fixO u6 (show n≤n by omega) (show n≤k0 by omega),fixO u7 (show n≤n by omega) (show n≤k0 by omega),fixO u8 (show n≤n by omega) (show n≤k0 by omega),fixO u9 (show n≤n by omega) (show n≤k0 by omega),fixO u10 (show n≤n by omega) (show n≤k0 by omega),fixO u11 (show n≤n by omega) (show n≤k0 by omega),fixO u12 (show n≤n by omega) (show n≤k0 by omega),fixO u13 (show n≤n by omega) (show n≤k0 by omega)]) (by
      simp only [List.cons_append,List.nil_append]
      walk_at "mr"
      rw [e4,callK_B (show n≠k1 by omega) rfl rfl (rows_labs R1) rfl (by simp only [rpO_cons,rpO_nil,Option.map_some,ro_rp2,rp_int,rp2_q,rp2_ne (show n≠n2 by omega) (show k1≠n2 by omega),rpL_cons,rpL_nil,rp2_p (show n≠k1 by omega),rp2_rows (show n≠k0 by omega) (show k1≠k0 by omega),fixO u4 (show n≤n by omega) (show n≤k1 by omega),fixO u5 (show n≤n by omega) (show n≤k1 by omega),fixO u6 (show n≤n by omega) (show n≤k1 by omega),fixO u7 (show n≤n by omega) (show n≤k1 by omega),fixO u8 (show n≤n by omega) (show n≤k1 by omega),fixO u9 (show n≤n by omega) (show n≤k1 by omega),fixO u10 (show n≤n by omega) (show n≤k1 by omega),fixO u11 (show n≤n by omega) (show n≤k1 by omega),fixO u12 (show n≤n by omega) (show n≤k1 by omega),fixO u13 (show n≤n by omega) (show n≤k1 by omega)]) (by simp only [rpO_cons,rpO_nil,Option.map_some,ro_rp2,rp_int,rp2_q,rp2_ne (show n≠n2 by omega) (show k1≠n2 by omega),rpL_cons,rpL_nil,rp2_p (show n≠k1 by omega),rp2_rows (show n≠k0 by omega) (show k1≠k0 by omega),fixO u4 (show n≤n by omega) (show n≤k1 by omega),fixO u5 (show n≤n by omega) (show n≤k1 by omega),fixO u6 (show n≤n by omega) (show n≤k1 by omega),fixO u7 (show n≤n by omega) (show n≤k1 by omega),fixO u8 (show n≤n by omega) (show n≤k1 by omega),fixO u9 (show n≤n by omega) (show n≤k1 by omega),fixO u10 (show n≤n by omega) (show n≤k1 by omega),fixO u11 (show n≤n by omega) (show n≤k1 by omega),fixO u12 (show n≤n by omega) (show n≤k1 by omega),fixO u13 (show n≤n by omega) (show n≤k1 by omega),rp2_li (show n≠p0 by omega) (show k1≠p0 by omega)])]
      walk_at "mr"
      simp only [rpO_cons,rpO_nil,Option.map_some,ro_rp2,rp_int,rp2_q,rp2_ne (show n≠n2 by omega) (show k1≠n2 by omega),rpL_cons,rpL_nil,rp2_p (show n≠k1 by omega),rp2_rows (show n≠k0 by omega) (show k1≠k0 by omega),fixO u4 (show n≤n by omega) (show n≤k1 by omega),fixO u5 (show n≤n by omega) (show n≤k1 by omega),fixO u6 (show n≤n by omega) (show n≤k1 by omega),fixO u7 (show n≤n by omega) (show n≤k1 by omega),fixO u8 (show n≤n by omega) (show n≤k1 by omega),fixO u9 (show n≤n by omega) (show n≤k1 by omega),fixO u10 (show n≤n by omega) (show n≤k1 by omega),fixO u11 (show n≤n by omega) (show n≤k1 by omega),fixO u12 (show n≤n by omega) (show n≤k1 by omega),fixO u13 (show n≤n by omega) (show n≤k1 by omega),rp2_li (show n≠p0 by omega) (show k1≠p0 by omega)])
  rw [ec]
  walk_at "mr"
  obtain ⟨ks0,vs0,hd0,e5⟩:=starts_eq R0 k0 (n4+1) w0 (by omega) (by omega)
  obtain ⟨ks1,vs1,hd1,e6⟩:=starts_eq R1 k1 (n4+1+1) w1 (by omega) (by omega)
  have ed:=comp2 (mi:=mSeqI (mVar 3)) (me:=mCall f_l_starts [(mVar 0)]) (A:=n2) (n:=n4+1) (n1:=n4+1+1) (n2:=n4+1+1+1) (a:=.lst k0 (R0.map rD)) (b:=.lst k1 (R1.map rD)) (y1:=.dct (n4+1) ks0 vs0) (y2:=.dct (n4+1+1) ks1 vs1)
    (σ0:=[some (.ro (ns.map .int)),some (.int i),some (.lst n [.int c4,.int x4]),some (.lst n2 [.lst k0 (R0.map rD),.lst k1 (R1.map rD)]),some (.lst n4 [.lst p0 (K0.map .int),.lst p1 (K1.map .int)]),o5,o6,o7,o8,o9,o10,o11,o12,o13])
    (σ1:=[some (.ro (ns.map .int)),some (.int i),some (.lst n [.int c4,.int x4]),some (.lst n2 [.lst k0 (R0.map rD),.lst k1 (R1.map rD)]),some (.lst n4 [.lst p0 (K0.map .int),.lst p1 (K1.map .int)]),o5,o6,o7,o8,o9,o10,o11,o12,o13])
    (σ2:=[some (.ro (ns.map .int)),some (.int i),some (.lst n [.int c4,.int x4]),some (.lst n2 [.lst k0 (R0.map rD),.lst k1 (R1.map rD)]),some (.lst n4 [.lst p0 (K0.map .int),.lst p1 (K1.map .int)]),o5,o6,o7,o8,o9,o10,o11,o12,o13])
    (tm0:=[some (.ro (ns.map .int))]) (tm1:=[some (.ro (ns.map .int))]) (tm2:=[some (.ro (ns.map .int))]) (cap1:=[]) (cap2:=[]) (ix:=[]) (s:=⟨[some (.ro (ns.map .int)),some (.int i),some (.lst n [.int c4,.int x4]),some (.lst n2 [.lst k0 (R0.map rD),.lst k1 (R1.map rD)]),some (.lst n4 [.lst p0 (K0.map .int),.lst p1 (K1.map .int)]),o5,o6,o7,o8,o9,o10,o11,o12,o13],[some (.ro (ns.map .int))],n4+1⟩)
    (x_seqI (by walk_at "mr")) rfl rfl (by
      simp only [List.map_nil,List.cons_append,List.nil_append]
      walk_at "mr"
      rw [e5]
      walk_at "mr") (by
      simp only [List.cons_append,List.nil_append]
      walk_at "mr"
      rw [e6]
      walk_at "mr")
  rw [ed]
  walk_at "mr"
  exact ⟨c4,x4,n4+1+1+1+1,n2,n4,n4+1+1+1,k0,k1,p0,p1,n4+1,n4+1+1,R0,R1,K0,K1,ks0,vs0,ks1,vs1,by omega,⟨w0,w1,by omega,by omega,hd0,hd1,lK0,lK1,by omega,by omega,by omega,by omega,by omega,by omega,by omega,by omega,by omega⟩,rfl⟩
end My
namespace My
open PySem L2 Mi
noncomputable def contM : MS:=(seqS (sFor (mRng1 [(mCB [(mCB [(mBin (mVar 4) (mC (.int 0)) ixD)] lenD),(mCB [(mBin (mVar 4) (mC (.int 1)) ixD)] lenD)] maxD)]) (.nm 8) (sFor (mRng1 [(mC (.int 2))]) (.nm 9) ib))
    (sFor (mRng1 [(mC (.int 2))]) (.nm 9) eb))
noncomputable def turnM : MS:=(seqS (sAsg (.nm 2) (mCall f_l_bag [(mVar 0),(mVar 1)]))
    (seqS (sAsg (.nm 3) (mCB [(mCall f_l_table [(mVar 2)]),(mCall f_l_table [(mVar 2)])] lstM))
    (seqS (sAsg (.nm 4) (mComp (mSeqI (mVar 3)) (.nm 0) (rt true) (mCall f_l_pressed [(mVar 1),(mVar 0),(mC (.int 60))]) 1 [2]))
    (seqS (sAsg (.nm 5) (mComp (mSeqI (mVar 3)) (.nm 0) (rt true) (mCall f_l_starts [(mVar 0)]) 1 []))
    (seqS (sAsg (.nm 6) (mCB [(mCB [] tupD),(mCB [] tupD)] lstM))
    (seqS (sAsg (.nm 7) (mCB [(mCB [(mCB [] lstM),(mCB [] lstM)] tupD),(mCB [(mCB [] lstM),(mCB [] lstM)] tupD)] lstM)) contM))))))
theorem feU {n E : Nat} {o : Option D} (h : UpO n o) (hE : n≤E) : Fe E o:=fun j hj d => UpO.fixk h (by omega) d
theorem upO_mono {n m : Nat} {o : Option D} (h : UpO n o) (hm : n≤m) : UpO m o:=fun d e k hk => Nat.lt_of_lt_of_le (h d e k hk) hm
local macro_rules | `(tactic| walk_at "mr") => `(tactic| (simp (config := { dsimp := false }) only [x_run, x_bd, bnd_ok, bnd_ex, bnd_no, lf_ok, lf_no, sq_nx, sq_rt, sq_bk, sq_ct, sq_no, x_rt, x_fl, x_psh, x_pshs, x_nxt, x_pop, vOf_some, x_var, x_C, x_bin, x_boo, x_booD, x_test, x_tB, x_tI, x_tT, x_tL, x_and, x_or, x_not, x_andV, x_orV, x_notV, x_mif, x_it, x_if, x_args0, x_args1, x_cb, x_call, isiK_some, x_isi, x_isiT, x_chain, x_flI, intK_some, x_part0, x_part1, x_mInt, x_sl,
  y_addI,y_sub,y_lt,y_le,y_gt,y_ge,y_neg,y_ixT,y_ixL,y_ixR,y_opt,y_slT,y_slL,y_lenT,y_lenL,y_lenR,y_abs,y_min,y_max,y_int,y_intB,y_tupT,y_tupL,y_listT,y_listL,
  x_seq,x_lift,x_sNx,x_sBk,x_sCt,x_sRet,x_sRetN,x_sExpr,x_sIf,x_sT,x_sF,asgK_some,x_asg,x_tri,x_meth,x_isL,callK_pure,fn_rt,fn_nx,finO_some,isiD,allSome,asg,asgL,
  List.map_cons,List.map_nil,List.replicate,List.nil_append,List.cons_append,List.append_nil,List.getElem?_cons_zero,List.getElem?_cons_succ,List.getElem?_nil,List.set_cons_zero,List.set_cons_succ,List.length_cons,List.length_nil,Nat.reduceAdd,Nat.reduceSub,Option.map_some,Option.map_none,Bool.not_true,Bool.not_false,String.reduceBEq,beq_self_eq_true,Nat.zero_add,Nat.sub_self,t0,t1,t2,t3,t4,k0,k1,k2,k3,k4,Int.reduceBEq,Bool.or_false,Bool.false_or,Bool.true_or,Bool.or_true,Bool.and_true,Bool.true_and,Bool.and_false,Bool.false_and,at0,at1,at2,at3,y_eqI,y_neI,x_for,x_rng1,x_rlen,Int.zero_add,put_pl,rpO_nil,rpO_cons,rp_bag,rp_int,rp_str,rp_bool,rp_non,rp_tup,rpL_nil,rpL_cons,y_isN,y_notN,y_eqTI,y_neTI]))
set_option maxHeartbeats 4000000 in
theorem cont_eq {x0 x1 x2 tm0 : Option D} {E A B C k0 k1 p0 p1 d0 d1 : Nat} {R0 R1 : List Row3} {K0 K1 : List Int} {ks0 vs0 ks1 vs1 : List D} (V : Ev E A B C k0 k1 p0 p1 d0 d1 R0 R1 K0 K1 ks0 vs0 ks1 vs1) (f0 : Fe E x0) (f1 : Fe E x1) (f2 : Fe E x2) (ft : Fe E tm0) (n : Nat) (o8 o9 o10 o11 o12 o13 : Option D) (u8 : UpO n o8) (u9 : UpO n o9) (u10 : UpO n o10) (g11 : Fe E o11) (g12 : Fe E o12) (g13 : Fe E o13) (hn : E+5 < n) :
    ∃ (W0 W1 S0 L0 S1 L1 : List Int) (q8 q9 q10 q11 q12 q13 : Option D) (n' : Nat),n≤n'∧(UpO n' q8∧UpO n' q9∧UpO n' q10)∧(UpO n' q11∧UpO n' q12∧UpO n' q13)∧contM ⟨fs x0 x1 x2 E A B C k0 k1 p0 p1 d0 d1 R0 R1 K0 K1 ks0 vs0 ks1 vs1 [] [] [] [] [] [] o8 o9 o10 o11 o12 o13,[tm0],n⟩=.nx ⟨fs x0 x1 x2 E A B C k0 k1 p0 p1 d0 d1 R0 R1 K0 K1 ks0 vs0 ks1 vs1 W0 W1 S0 L0 S1 L1 q8 q9 q10 q11 q12 q13,[tm0],n'⟩:=by
  have l0:=V.l0
  have l1:=V.l1
  have hm : ∃ N : Nat,K0.length≤N∧K1.length≤N∧mRng1 [(mCB [(mCB [(mBin (mVar 4) (mC (.int 0)) ixD)] lenD),(mCB [(mBin (mVar 4) (mC (.int 1)) ixD)] lenD)] maxD)] ⟨fs x0 x1 x2 E A B C k0 k1 p0 p1 d0 d1 R0 R1 K0 K1 ks0 vs0 ks1 vs1 [] [] [] [] [] [] o8 o9 o10 o11 o12 o13,[tm0],n⟩=.ok (kRng 0 N) ⟨fs x0 x1 x2 E A B C k0 k1 p0 p1 d0 d1 R0 R1 K0 K1 ks0 vs0 ks1 vs1 [] [] [] [] [] [] o8 o9 o10 o11 o12 o13,[tm0],n⟩:=by
    obtain ⟨m,hk⟩ : ∃ m : Int,(if (K1.length : Int) > (K0.length : Int) then (K1.length : Int) else (K0.length : Int))=m:=⟨_,rfl⟩
    have hb : 0≤m∧m≤60∧(K0.length : Int)≤m∧(K1.length : Int)≤m:=by split at hk <;> omega
    have ea : mArgs [(mCB [(mCB [(mBin (mVar 4) (mC (.int 0)) ixD)] lenD),(mCB [(mBin (mVar 4) (mC (.int 1)) ixD)] lenD)] maxD)] ⟨fs x0 x1 x2 E A B C k0 k1 p0 p1 d0 d1 R0 R1 K0 K1 ks0 vs0 ks1 vs1 [] [] [] [] [] [] o8 o9 o10 o11 o12 o13,[tm0],n⟩=.ok [.int m] ⟨fs x0 x1 x2 E A B C k0 k1 p0 p1 d0 d1 R0 R1 K0 K1 ks0 vs0 ks1 vs1 [] [] [] [] [] [] o8 o9 o10 o11 o12 o13,[tm0],n⟩:=by
      unfold fs
      walk_at "mr"
      rw [lenM,lenM,hk]
    refine ⟨m.toNat,by omega,by omega,?_⟩
    rw [x_rng1,ea,bnd_ok,y_rng1 ⟨by omega,by omega⟩]
  obtain ⟨N,h0,h1,em⟩:=hm
  obtain ⟨W0,W1,S0,L0,S1,L1,q8,q9,q10,n1,hn1,uq,I0,I1,e1⟩:=at_loop V f0 f1 f2 ft n N o8 o9 o10 o11 o12 o13 u8 u9 u10 g11 g12 g13 hn
  rw [List.take_of_length_le h0] at I0
  rw [List.take_of_length_le h1] at I1
  obtain ⟨n2,p11,p12,p13,hn2,_,_,_,e2⟩:=eb0 (x0:=x0) (x1:=x1) (x2:=x2) (tm0:=tm0) V W0 W1 S0 L0 S1 L1 n1 q8 q10 o11 o12 o13 (by omega) I0
  obtain ⟨n3,r11,r12,r13,hn3,v11,v12,v13,e3⟩:=eb1 (x0:=x0) (x1:=x1) (x2:=x2) (tm0:=tm0) V W0 W1 S0 L0 S1 L1 n2 q8 q10 p11 p12 p13 (by omega) I1
  refine ⟨W0,W1,S0,L0,S1,L1,q8,some (.int 1),q10,r11,r12,r13,n3,by omega,⟨upO_mono uq.1 (by omega),by rintro _ ⟨⟩ j hj; simp [labs] at hj,upO_mono uq.2.2 (by omega)⟩,⟨v11,v12,v13⟩,?_⟩
  unfold contM
  rw [x_seq,x_for,em]
  show (forGo (kRng 0 N) (.nm 8) (sFor (mRng1 [(mC (.int 2))]) (.nm 9) ib) N 0 _).sq _=_
  rw [e1]
  show sFor (mRng1 [(mC (.int 2))]) (.nm 9) eb _=_
  rw [x_for]
  show forGo (kRng 0 2) (.nm 9) eb 2 0 _=_
  exact forR2 (g:=.nm 9) rfl e2 rfl e3
end My
namespace My
open PySem L2 Mi
local macro_rules | `(tactic| walk_at "mr") => `(tactic| (simp (config := { dsimp := false }) only [x_run, x_bd, bnd_ok, bnd_ex, bnd_no, lf_ok, lf_no, sq_nx, sq_rt, sq_bk, sq_ct, sq_no, x_rt, x_fl, x_psh, x_pshs, x_nxt, x_pop, vOf_some, x_var, x_C, x_bin, x_boo, x_booD, x_test, x_tB, x_tI, x_tT, x_tL, x_and, x_or, x_not, x_andV, x_orV, x_notV, x_mif, x_it, x_if, x_args0, x_args1, x_cb, x_call, isiK_some, x_isi, x_isiT, x_chain, x_flI, intK_some, x_part0, x_part1, x_mInt, x_sl,
  y_addI,y_sub,y_lt,y_le,y_gt,y_ge,y_neg,y_ixT,y_ixL,y_ixR,y_opt,y_slT,y_slL,y_lenT,y_lenL,y_lenR,y_abs,y_min,y_max,y_int,y_intB,y_tupT,y_tupL,y_listT,y_listL,
  x_seq,x_lift,x_sNx,x_sBk,x_sCt,x_sRet,x_sRetN,x_sExpr,x_sIf,x_sT,x_sF,asgK_some,x_asg,x_tri,x_meth,x_isL,callK_pure,fn_rt,fn_nx,finO_some,isiD,allSome,asg,asgL,
  List.map_cons,List.map_nil,List.replicate,List.nil_append,List.cons_append,List.append_nil,List.getElem?_cons_zero,List.getElem?_cons_succ,List.getElem?_nil,List.set_cons_zero,List.set_cons_succ,List.length_cons,List.length_nil,Nat.reduceAdd,Nat.reduceSub,Option.map_some,Option.map_none,Bool.not_true,Bool.not_false,String.reduceBEq,beq_self_eq_true,Nat.zero_add,Nat.sub_self,t0,t1,t2,t3,t4,k0,k1,k2,k3,k4,Int.reduceBEq,Bool.or_false,Bool.false_or,Bool.true_or,Bool.or_true,Bool.and_true,Bool.true_and,Bool.and_false,Bool.false_and,at0,at1,at2,at3,y_eqI,y_neI,x_for,x_rng1,x_rlen,Int.zero_add,put_pl,rpO_nil,rpO_cons,rp_bag,rp_int,rp_str,rp_bool,rp_non,rp_tup,rpL_nil,rpL_cons,y_isN,y_notN,y_eqTI,y_neTI]))
theorem bag_st (ns : List Int) (i n : Nat) (hi : i < 1000) (hl : ns.length < 1000) (o2 o3 o4 o5 o6 o7 o8 o9 o10 o11 o12 o13 : Option D) (M : MS) :
    ∃ c x,Bg c x∧seqS (sAsg (.nm 2) (mCall f_l_bag [(mVar 0),(mVar 1)])) M ⟨[some (.ro (ns.map .int)),some (.int i),o2,o3,o4,o5,o6,o7,o8,o9,o10,o11,o12,o13],[some (.ro (ns.map .int))],n⟩
      = M ⟨[some (.ro (ns.map .int)),some (.int i),some (.lst n [.int c,.int x]),o3,o4,o5,o6,o7,o8,o9,o10,o11,o12,o13],[some (.ro (ns.map .int))],n+1⟩:=by
  obtain ⟨c,x,b0,e0⟩:=bag_eq ns i n hi hl
  refine ⟨c,x,b0,?_⟩
  walk_at "mr"
  rw [e0]
  walk_at "mr"
set_option maxHeartbeats 2000000 in
theorem turn_eq (ns : List Int) (i n : Nat) (hi : i < 1000) (hl : ns.length < 1000) (o2 o3 o4 o5 o6 o7 o8 o9 o10 o11 o12 o13 : Option D) (u3 : UpO n o3) (u4 : UpO n o4) (u5 : UpO n o5) (u6 : UpO n o6) (u7 : UpO n o7) (u8 : UpO n o8) (u9 : UpO n o9) (u10 : UpO n o10) (u11 : UpO n o11) (u12 : UpO n o12) (u13 : UpO n o13) :
    ∃ (x2 : Option D) (E A B C k0 k1 p0 p1 d0 d1 : Nat) (R0 R1 : List Row3) (K0 K1 : List Int) (ks0 vs0 ks1 vs1 : List D) (W0 W1 S0 L0 S1 L1 : List Int) (q8 q9 q10 q11 q12 q13 : Option D) (n' : Nat),E+5 < n'∧UpO n' x2∧Ev E A B C k0 k1 p0 p1 d0 d1 R0 R1 K0 K1 ks0 vs0 ks1 vs1∧(UpO n' q8∧UpO n' q9∧UpO n' q10)∧(UpO n' q11∧UpO n' q12∧UpO n' q13) ∧
      turnM ⟨[some (.ro (ns.map .int)),some (.int i),o2,o3,o4,o5,o6,o7,o8,o9,o10,o11,o12,o13],[some (.ro (ns.map .int))],n⟩=.nx ⟨fs (some (.ro (ns.map .int))) (some (.int i)) x2 E A B C k0 k1 p0 p1 d0 d1 R0 R1 K0 K1 ks0 vs0 ks1 vs1 W0 W1 S0 L0 S1 L1 q8 q9 q10 q11 q12 q13,[some (.ro (ns.map .int))],n'⟩:=by
  unfold turnM
  obtain ⟨c,x,b0,e0⟩:=bag_st ns i n hi hl o2 o3 o4 o5 o6 o7 o8 o9 o10 o11 o12 o13 (seqS (sAsg (.nm 3) (mCB [(mCall f_l_table [(mVar 2)]),(mCall f_l_table [(mVar 2)])] lstM))
    (seqS (sAsg (.nm 4) (mComp (mSeqI (mVar 3)) (.nm 0) (rt true) (mCall f_l_pressed [(mVar 1),(mVar 0),(mC (.int 60))]) 1 [2]))
    (seqS (sAsg (.nm 5) (mComp (mSeqI (mVar 3)) (.nm 0) (rt true) (mCall f_l_starts [(mVar 0)]) 1 []))
    (seqS (sAsg (.nm 6) (mCB [(mCB [] tupD),(mCB [] tupD)] lstM))
    (seqS (sAsg (.nm 7) (mCB [(mCB [(mCB [] lstM),(mCB [] lstM)] tupD),(mCB [(mCB [] lstM),(mCB [] lstM)] tupD)] lstM)) contM)))))
  obtain ⟨c',x',E,A,B,C,k0,k1,p0,p1,d0,d1,R0,R1,K0,K1,ks0,vs0,ks1,vs1,hE,V,e1⟩:=head_eq ns i n c x b0 o3 o4 o5 o6 o7 o8 o9 o10 o11 o12 o13 u3 u4 u5 u6 u7 u8 u9 u10 u11 u12 u13 contM
  have fr : Fe E (some (.ro (ns.map .int))):=fun j _ d => by simp only [Option.map,rp,rpL_ints]
  have u2 : UpO (n+1) (some (.lst n [.int c',.int x'])):=by rintro _ ⟨⟩ j hj; simp [labs,labsL] at hj; omega
  obtain ⟨W0,W1,S0,L0,S1,L1,q8,q9,q10,q11,q12,q13,n',hn',ua,ub,e2⟩:=cont_eq (x0:=some (.ro (ns.map .int))) (x1:=some (.int i)) (x2:=some (.lst n [.int c',.int x'])) (tm0:=some (.ro (ns.map .int))) V fr (fun j _ d => by simp only [Option.map,rp]) (feU u2 (by omega)) fr (E+6) o8 o9 o10 o11 o12 o13 (upO_mono u8 (by omega)) (upO_mono u9 (by omega)) (upO_mono u10 (by omega)) (feU u11 (by omega)) (feU u12 (by omega)) (feU u13 (by omega)) (by omega)
  exact ⟨_,E,A,B,C,k0,k1,p0,p1,d0,d1,R0,R1,K0,K1,ks0,vs0,ks1,vs1,W0,W1,S0,L0,S1,L1,q8,q9,q10,q11,q12,q13,n',by omega,upO_mono u2 (by omega),V,ua,ub,e0.trans (e1.trans e2)⟩
end My
namespace My
open PySem L2 Mi
local macro_rules | `(tactic| walk_at "mr") => `(tactic| (simp (config := { dsimp := false }) only [x_run, x_bd, bnd_ok, bnd_ex, bnd_no, lf_ok, lf_no, sq_nx, sq_rt, sq_bk, sq_ct, sq_no, x_rt, x_fl, x_psh, x_pshs, x_nxt, x_pop, vOf_some, x_var, x_C, x_bin, x_boo, x_booD, x_test, x_tB, x_tI, x_tT, x_tL, x_and, x_or, x_not, x_andV, x_orV, x_notV, x_mif, x_it, x_if, x_args0, x_args1, x_cb, x_call, isiK_some, x_isi, x_isiT, x_chain, x_flI, intK_some, x_part0, x_part1, x_mInt, x_sl,
  y_addI,y_sub,y_lt,y_le,y_gt,y_ge,y_neg,y_ixT,y_ixL,y_ixR,y_opt,y_slT,y_slL,y_lenT,y_lenL,y_lenR,y_abs,y_min,y_max,y_int,y_intB,y_tupT,y_tupL,y_listT,y_listL,
  x_seq,x_lift,x_sNx,x_sBk,x_sCt,x_sRet,x_sRetN,x_sExpr,x_sIf,x_sT,x_sF,asgK_some,x_asg,x_tri,x_meth,x_isL,callK_pure,fn_rt,fn_nx,finO_some,isiD,allSome,asg,asgL,
  List.map_cons,List.map_nil,List.replicate,List.nil_append,List.cons_append,List.append_nil,List.getElem?_cons_zero,List.getElem?_cons_succ,List.getElem?_nil,List.set_cons_zero,List.set_cons_succ,List.length_cons,List.length_nil,Nat.reduceAdd,Nat.reduceSub,Option.map_some,Option.map_none,Bool.not_true,Bool.not_false,String.reduceBEq,beq_self_eq_true,Nat.zero_add,Nat.sub_self,t0,t1,t2,t3,t4,k0,k1,k2,k3,k4,Int.reduceBEq,Bool.or_false,Bool.false_or,Bool.true_or,Bool.or_true,Bool.and_true,Bool.true_and,Bool.and_false,Bool.false_and,at0,at1,at2,at3,y_eqI,y_neI,x_for,x_rng1,x_rlen,Int.zero_add,put_pl,rpO_nil,rpO_cons,rp_bag,rp_int,rp_str,rp_bool,rp_non,rp_tup,rpL_nil,rpL_cons,y_isN,y_notN,y_eqTI,y_neTI]))
set_option maxHeartbeats 2000000 in
theorem law_eq (ns : List Int) (hl : ns.length < 1000) (n : Nat) : ∃ n',f_law [.ro (ns.map .int)] n=.ok (.bool true) [.ro (ns.map .int)] n':=by
  unfold f_law
  have e0 : m_law=seqS (sFor (mRng1 [(mCB [(mC (.int 2)),(mCB [(mC (.int 4)),(mCB [(mVar 0)] lenD)] minD)] maxD)]) (.nm 1) turnM) (sRet (mC (.bool true))):=rfl
  rw [e0]
  walk_at "mr"
  have w0 : ((ns.map D.int).length : Int)=ns.length:=by simp
  rw [w0]
  generalize hk : (if (if (ns.length : Int) < (4 : Int) then (ns.length : Int) else (4 : Int)) > 2 then (if (ns.length : Int) < (4 : Int) then (ns.length : Int) else (4 : Int)) else (2 : Int))=k
  have hk0 : 0≤k∧k≤6:=by split at hk <;> (try split at hk) <;> omega
  rw [y_rng1 ⟨by omega,by omega⟩]
  walk_at "mr"
  obtain ⟨s',e2,o1,o2,o3,o4,o5,o6,o7,o8,o9,o10,o11,o12,o13,m,rfl,_⟩:=for_rng (P:=fun i s => ∃ (o1 o2 o3 o4 o5 o6 o7 o8 o9 o10 o11 o12 o13 : Option D) (n : Nat),s=⟨[some (.ro (ns.map .int)),o1,o2,o3,o4,o5,o6,o7,o8,o9,o10,o11,o12,o13],[some (.ro (ns.map .int))],n⟩∧UpO n o3∧UpO n o4∧UpO n o5∧UpO n o6∧UpO n o7∧UpO n o8∧UpO n o9∧UpO n o10∧UpO n o11∧UpO n o12∧UpO n o13) (lo:=0) (N:=k.toNat) (g:=.nm 1) (b:=turnM) (by
    rintro i hi s ⟨o1,o2,o3,o4,o5,o6,o7,o8,o9,o10,o11,o12,o13,n,rfl,u3,u4,u5,u6,u7,u8,u9,u10,u11,u12,u13⟩
    refine ⟨[some (.ro (ns.map .int)),some (.int i),o2,o3,o4,o5,o6,o7,o8,o9,o10,o11,o12,o13],by simp only [Int.zero_add]; rfl,?_⟩
    obtain ⟨x2,E,A,B,C,k0,k1,p0,p1,d0,d1,R0,R1,K0,K1,ks0,vs0,ks1,vs1,W0,W1,S0,L0,S1,L1,q8,q9,q10,q11,q12,q13,n',hn,v2,V,⟨v8,v9,v10⟩,⟨v11,v12,v13⟩,e⟩:=turn_eq ns i n (by omega) hl o2 o3 o4 o5 o6 o7 o8 o9 o10 o11 o12 o13 u3 u4 u5 u6 u7 u8 u9 u10 u11 u12 u13
    obtain ⟨b1,b2,b3,b4,b5,b6,b7,b8,b9⟩:=V.b
    refine ⟨_,e,_,_,_,_,_,_,_,q8,q9,q10,q11,q12,q13,n',rfl,?_,?_,?_,?_,?_,v8,v9,v10,v11,v12,v13⟩
    · rintro _ ⟨⟩ j hj; simp [labs,labsL,rows_labs] at hj; omega
    · rintro _ ⟨⟩ j hj; simp [labs,labsL,ints_labs] at hj; omega
    · rintro _ ⟨⟩ j hj; simp [labs,labsL,V.s0.lk,V.s0.lv,V.s1.lk,V.s1.lv] at hj; omega
    · rintro _ ⟨⟩ j hj; simp [labs,labsL,ints_labs] at hj; omega
    · rintro _ ⟨⟩ j hj; simp [labs,labsL,ints_labs] at hj; omega) k.toNat 0 ⟨[some (.ro (ns.map .int)),none,none,none,none,none,none,none,none,none,none,none,none,none],[some (.ro (ns.map .int))],n⟩ (by omega) ⟨none,none,none,none,none,none,none,none,none,none,none,none,none,n,rfl,nofun,nofun,nofun,nofun,nofun,nofun,nofun,nofun,nofun,nofun,nofun⟩
  rw [e2]
  walk_at "mr"
  exact ⟨m,rfl⟩
end My
set_option maxHeartbeats 4000000
namespace Mi
open PySem L2 PySem.Spec PyProof.Rows
noncomputable def spTop (K : PySem.W.Frag) (np : Nat) (f : FM) : Sp:=fun vs H Q E => vs.length=np∧∀ G : Gx,G.K=K→KD K H→spM G np f vs H Q E
theorem fn_top {P : Program} {w : World} {K : PySem.W.Frag} {mg : Str→Option Value} {base : Heap} {CX : CXT} {k : Nat} {fa : Addr} {fd : FuncData} {x : Str} {f : FM} {G : Gx} (hG : G.K=K) (F : FnOk P w K mg base CX k fa fd [x] (spM G 1 f)) : FnOk P w K mg base CX k fa fd [x] (spTop K 1 f) :=
  ⟨fun _ _ _ _ h => h.1,fun A outer s H args us vs Q E hr e0 hb hv h => F.run A outer s H args us vs Q E hr e0 hb hv (h.2 G hG fun a o e => (e0.bs a o (e0.mod.kin a o e)).2)⟩
theorem RDs.ints {G : Gx} {ρ : Nat→Addr} {H : Hp} : ∀ ns : List Int,RDs G ρ H (ns.map D.int) (ns.map V.int)
  | [] => by simp only [List.map_nil,RDs]
  | n :: ns => by
    simp only [List.map_cons,RDs]
    exact ⟨_,_,rfl,by simp only [RD],RDs.ints ns⟩
theorem labs_ints : ∀ ns : List Int,labsL (ns.map D.int)=[]
  | [] => by simp only [List.map_nil,labsL]
  | n :: ns => by simp only [List.map_cons,labsL,labs,labs_ints ns,List.nil_append]
theorem top_sp {K : PySem.W.Frag} {H : Hp} {a : Addr} {ns : List Int} {f : FM} {E : XK} (e : ∀ n,∃ n',f [.ro (ns.map D.int)] n=.ok (.bool true) [.ro (ns.map D.int)] n') (hO : Only H) (hS : SqL K H a (ns.map V.int)) : spTop K 1 f [.ref a] H (fun v _ => v=.bl true) E:=by
  refine ⟨rfl,fun G hG kd => ?_⟩
  subst hG
  refine ⟨rfl,fun _ => a,0,[.ro (ns.map D.int)],?_,fun i j hi => absurd hi (Nat.not_lt_zero _),fun l hl => absurd hl (Nat.not_lt_zero _),fun l hl => ?_,kd,?_⟩
  · simp only [RDs,RD]
    refine ⟨_,_,rfl,⟨a,ns.map V.int,rfl,?_,RDs.ints ns⟩,rfl⟩
    rcases hS with (h | h) | h
    · rcases hO a with z | ⟨o,xs,z⟩ <;> rw [h] at z <;> cases z
    · exact .inl h
    · exact .inr h
  · simp only [labsL,labs,labs_ints,List.append_nil] at hl
    cases hl
  · obtain ⟨n',e⟩:=e 0
    rw [e]
    intro ρ' v H' _ rd _
    simp only [RD] at rd
    exact rd
end Mi
namespace My
open PySem L2 Mi
theorem all_mk {l : PySem.W.OpenLaw} {w : World} {K : PySem.W.Frag} {h : Heap} {mg : Str → Option Value} {fa f0 f1 f2 f3 f4 f5 f6 f7 f8 f9 f10 f11 f12 f13 f14 f15 f16 f17 : Addr} (X : K.In h) (G : h.Ns mainGlobals mg) (hfa : mg "law" = some (.ref fa))
    {od0 an0 : Option Addr} {sl0 : Array (Option Value)} {oc0 kV0 dc0 pm0 cd0 ct0 : Value}
    {od1 an1 : Option Addr} {sl1 : Array (Option Value)} {oc1 kV1 dc1 pm1 cd1 ct1 : Value}
    {od2 an2 : Option Addr} {sl2 : Array (Option Value)} {oc2 kV2 dc2 pm2 cd2 ct2 : Value}
    {od3 an3 : Option Addr} {sl3 : Array (Option Value)} {oc3 kV3 dc3 pm3 cd3 ct3 : Value}
    {od4 an4 : Option Addr} {sl4 : Array (Option Value)} {oc4 kV4 dc4 pm4 cd4 ct4 : Value}
    {od5 an5 : Option Addr} {sl5 : Array (Option Value)} {oc5 kV5 dc5 pm5 cd5 ct5 : Value}
    {od6 an6 : Option Addr} {sl6 : Array (Option Value)} {oc6 kV6 dc6 pm6 cd6 ct6 : Value}
    {od7 an7 : Option Addr} {sl7 : Array (Option Value)} {oc7 kV7 dc7 pm7 cd7 ct7 : Value}
    {od8 an8 : Option Addr} {sl8 : Array (Option Value)} {oc8 kV8 dc8 pm8 cd8 ct8 : Value}
    {od9 an9 : Option Addr} {sl9 : Array (Option Value)} {oc9 kV9 dc9 pm9 cd9 ct9 : Value}
    {od10 an10 : Option Addr} {sl10 : Array (Option Value)} {oc10 kV10 dc10 pm10 cd10 ct10 : Value}
    {od11 an11 : Option Addr} {sl11 : Array (Option Value)} {oc11 kV11 dc11 pm11 cd11 ct11 : Value}
    {od12 an12 : Option Addr} {sl12 : Array (Option Value)} {oc12 kV12 dc12 pm12 cd12 ct12 : Value}
    {od13 an13 : Option Addr} {sl13 : Array (Option Value)} {oc13 kV13 dc13 pm13 cd13 ct13 : Value}
    {od14 an14 : Option Addr} {sl14 : Array (Option Value)} {oc14 kV14 dc14 pm14 cd14 ct14 : Value}
    {od15 an15 : Option Addr} {sl15 : Array (Option Value)} {oc15 kV15 dc15 pm15 cd15 ct15 : Value}
    {od16 an16 : Option Addr} {sl16 : Array (Option Value)} {oc16 kV16 dc16 pm16 cd16 ct16 : Value}
    {od17 an17 : Option Addr} {sl17 : Array (Option Value)} {oc17 kV17 dc17 pm17 cd17 ct17 : Value}
    (a0 : PySem.W.nsIn K mainGlobals "read_keys" = some (some (.ref f0))) (l0 : K.lookup f0 = some ⟨oc0, od0, .func (PySem.W.fnOf "read_keys" "read_keys" (defArgs s_p_read_keys) (defBody s_p_read_keys) (defScope s_p_read_keys) .none kV0 dc0 pm0 an0 cd0 ct0), sl0⟩) (c0 : PySem.W.codeIn K cd0 "read_keys" = true) (k0 : PySem.W.keepIn K (.ref f0) = true)
    (a1 : PySem.W.nsIn K mainGlobals "read_step" = some (some (.ref f1))) (l1 : K.lookup f1 = some ⟨oc1, od1, .func (PySem.W.fnOf "read_step" "read_step" (defArgs s_p_read_step) (defBody s_p_read_step) (defScope s_p_read_step) .none kV1 dc1 pm1 an1 cd1 ct1), sl1⟩) (c1 : PySem.W.codeIn K cd1 "read_step" = true) (k1 : PySem.W.keepIn K (.ref f1) = true)
    (a2 : PySem.W.nsIn K mainGlobals "longest_row" = some (some (.ref f2))) (l2 : K.lookup f2 = some ⟨oc2, od2, .func (PySem.W.fnOf "longest_row" "longest_row" (defArgs s_p_longest_row) (defBody s_p_longest_row) (defScope s_p_longest_row) .none kV2 dc2 pm2 an2 cd2 ct2), sl2⟩) (c2 : PySem.W.codeIn K cd2 "longest_row" = true) (k2 : PySem.W.keepIn K (.ref f2) = true)
    (a3 : PySem.W.nsIn K mainGlobals "press" = some (some (.ref f3))) (l3 : K.lookup f3 = some ⟨oc3, od3, .func (PySem.W.fnOf "press" "press" (defArgs s_p_press) (defBody s_p_press) (defScope s_p_press) .none kV3 dc3 pm3 an3 cd3 ct3), sl3⟩) (c3 : PySem.W.codeIn K cd3 "press" = true) (k3 : PySem.W.keepIn K (.ref f3) = true)
    (a4 : PySem.W.nsIn K mainGlobals "may_wait" = some (some (.ref f4))) (l4 : K.lookup f4 = some ⟨oc4, od4, .func (PySem.W.fnOf "may_wait" "may_wait" (defArgs s_p_may_wait) (defBody s_p_may_wait) (defScope s_p_may_wait) .none kV4 dc4 pm4 an4 cd4 ct4), sl4⟩) (c4 : PySem.W.codeIn K cd4 "may_wait" = true) (k4 : PySem.W.keepIn K (.ref f4) = true)
    (a5 : PySem.W.nsIn K mainGlobals "end_keys" = some (some (.ref f5))) (l5 : K.lookup f5 = some ⟨oc5, od5, .func (PySem.W.fnOf "end_keys" "end_keys" (defArgs s_p_end_keys) (defBody s_p_end_keys) (defScope s_p_end_keys) .none kV5 dc5 pm5 an5 cd5 ct5), sl5⟩) (c5 : PySem.W.codeIn K cd5 "end_keys" = true) (k5 : PySem.W.keepIn K (.ref f5) = true)
    (a6 : PySem.W.nsIn K mainGlobals "_law_bag" = some (some (.ref f6))) (l6 : K.lookup f6 = some ⟨oc6, od6, .func (PySem.W.fnOf "_law_bag" "_law_bag" (defArgs s_l_bag) (defBody s_l_bag) (defScope s_l_bag) .none kV6 dc6 pm6 an6 cd6 ct6), sl6⟩) (c6 : PySem.W.codeIn K cd6 "_law_bag" = true) (k6 : PySem.W.keepIn K (.ref f6) = true)
    (a7 : PySem.W.nsIn K mainGlobals "_law_take" = some (some (.ref f7))) (l7 : K.lookup f7 = some ⟨oc7, od7, .func (PySem.W.fnOf "_law_take" "_law_take" (defArgs s_l_take) (defBody s_l_take) (defScope s_l_take) .none kV7 dc7 pm7 an7 cd7 ct7), sl7⟩) (c7 : PySem.W.codeIn K cd7 "_law_take" = true) (k7 : PySem.W.keepIn K (.ref f7) = true)
    (a8 : PySem.W.nsIn K mainGlobals "_law_table" = some (some (.ref f8))) (l8 : K.lookup f8 = some ⟨oc8, od8, .func (PySem.W.fnOf "_law_table" "_law_table" (defArgs s_l_table) (defBody s_l_table) (defScope s_l_table) .none kV8 dc8 pm8 an8 cd8 ct8), sl8⟩) (c8 : PySem.W.codeIn K cd8 "_law_table" = true) (k8 : PySem.W.keepIn K (.ref f8) = true)
    (a9 : PySem.W.nsIn K mainGlobals "_law_pressed" = some (some (.ref f9))) (l9 : K.lookup f9 = some ⟨oc9, od9, .func (PySem.W.fnOf "_law_pressed" "_law_pressed" (defArgs s_l_pressed) (defBody s_l_pressed) (defScope s_l_pressed) .none kV9 dc9 pm9 an9 cd9 ct9), sl9⟩) (c9 : PySem.W.codeIn K cd9 "_law_pressed" = true) (k9 : PySem.W.keepIn K (.ref f9) = true)
    (a10 : PySem.W.nsIn K mainGlobals "_law_step" = some (some (.ref f10))) (l10 : K.lookup f10 = some ⟨oc10, od10, .func (PySem.W.fnOf "_law_step" "_law_step" (defArgs s_l_step) (defBody s_l_step) (defScope s_l_step) .none kV10 dc10 pm10 an10 cd10 ct10), sl10⟩) (c10 : PySem.W.codeIn K cd10 "_law_step" = true) (k10 : PySem.W.keepIn K (.ref f10) = true)
    (a11 : PySem.W.nsIn K mainGlobals "_law_read" = some (some (.ref f11))) (l11 : K.lookup f11 = some ⟨oc11, od11, .func (PySem.W.fnOf "_law_read" "_law_read" (defArgs s_l_read) (defBody s_l_read) (defScope s_l_read) .none kV11 dc11 pm11 an11 cd11 ct11), sl11⟩) (c11 : PySem.W.codeIn K cd11 "_law_read" = true) (k11 : PySem.W.keepIn K (.ref f11) = true)
    (a12 : PySem.W.nsIn K mainGlobals "_law_starts" = some (some (.ref f12))) (l12 : K.lookup f12 = some ⟨oc12, od12, .func (PySem.W.fnOf "_law_starts" "_law_starts" (defArgs s_l_starts) (defBody s_l_starts) (defScope s_l_starts) .none kV12 dc12 pm12 an12 cd12 ct12), sl12⟩) (c12 : PySem.W.codeIn K cd12 "_law_starts" = true) (k12 : PySem.W.keepIn K (.ref f12) = true)
    (a13 : PySem.W.nsIn K mainGlobals "_law_press" = some (some (.ref f13))) (l13 : K.lookup f13 = some ⟨oc13, od13, .func (PySem.W.fnOf "_law_press" "_law_press" (defArgs s_l_press) (defBody s_l_press) (defScope s_l_press) .none kV13 dc13 pm13 an13 cd13 ct13), sl13⟩) (c13 : PySem.W.codeIn K cd13 "_law_press" = true) (k13 : PySem.W.keepIn K (.ref f13) = true)
    (a14 : PySem.W.nsIn K mainGlobals "_law_whole" = some (some (.ref f14))) (l14 : K.lookup f14 = some ⟨oc14, od14, .func (PySem.W.fnOf "_law_whole" "_law_whole" (defArgs s_l_whole) (defBody s_l_whole) (defScope s_l_whole) .none kV14 dc14 pm14 an14 cd14 ct14), sl14⟩) (c14 : PySem.W.codeIn K cd14 "_law_whole" = true) (k14 : PySem.W.keepIn K (.ref f14) = true)
    (a15 : PySem.W.nsIn K mainGlobals "_law_are_lists" = some (some (.ref f15))) (l15 : K.lookup f15 = some ⟨oc15, od15, .func (PySem.W.fnOf "_law_are_lists" "_law_are_lists" (defArgs s_l_are_lists) (defBody s_l_are_lists) (defScope s_l_are_lists) .none kV15 dc15 pm15 an15 cd15 ct15), sl15⟩) (c15 : PySem.W.codeIn K cd15 "_law_are_lists" = true) (k15 : PySem.W.keepIn K (.ref f15) = true)
    (a16 : PySem.W.nsIn K mainGlobals "_law_told" = some (some (.ref f16))) (l16 : K.lookup f16 = some ⟨oc16, od16, .func (PySem.W.fnOf "_law_told" "_law_told" (defArgs s_l_told) (defBody s_l_told) (defScope s_l_told) .none kV16 dc16 pm16 an16 cd16 ct16), sl16⟩) (c16 : PySem.W.codeIn K cd16 "_law_told" = true) (k16 : PySem.W.keepIn K (.ref f16) = true)
    (a17 : PySem.W.nsIn K mainGlobals "law" = some (some (.ref f17))) (l17 : K.lookup f17 = some ⟨oc17, od17, .func (PySem.W.fnOf "law" "law" (defArgs s_law) (defBody s_law) (defScope s_law) .none kV17 dc17 pm17 an17 cd17 ct17), sl17⟩) (c17 : PySem.W.codeIn K cd17 "law" = true) (k17 : PySem.W.keepIn K (.ref f17) = true)
    (z0 : PySem.W.nsIn K mainGlobals "abs" = some none)
    (z1 : PySem.W.nsIn K mainGlobals "all" = some none)
    (z2 : PySem.W.nsIn K mainGlobals "any" = some none)
    (z3 : PySem.W.nsIn K mainGlobals "bool" = some none)
    (z4 : PySem.W.nsIn K mainGlobals "int" = some none)
    (z5 : PySem.W.nsIn K mainGlobals "isinstance" = some none)
    (z6 : PySem.W.nsIn K mainGlobals "len" = some none)
    (z7 : PySem.W.nsIn K mainGlobals "list" = some none)
    (z8 : PySem.W.nsIn K mainGlobals "max" = some none)
    (z9 : PySem.W.nsIn K mainGlobals "min" = some none)
    (z10 : PySem.W.nsIn K mainGlobals "range" = some none)
    (z11 : PySem.W.nsIn K mainGlobals "tuple" = some none)
    : ∃ fd : FuncData, (∀ (s : Shared) (v : Value), BindsTo s fd ⟨[v], []⟩ [("_law_script", v)]) ∧ ∀ base : Heap, K.In base → base.Ns mainGlobals mg → FnOk l.prog w K mg base CX0 5 fa fd ["_law_script"] (spTop K 1 f_law) := by
  have e:=hfa.symm.trans (PySem.W.mg_of X G a17)
  cases e
  have F0:=fun_mk (st:=s_p_read_keys) l0 c0 k0
  have F1:=fun_mk (st:=s_p_read_step) l1 c1 k1
  have F2:=fun_mk (st:=s_p_longest_row) l2 c2 k2
  have F3:=fun_mk (st:=s_p_press) l3 c3 k3
  have F4:=fun_mk (st:=s_p_may_wait) l4 c4 k4
  have F5:=fun_mk (st:=s_p_end_keys) l5 c5 k5
  have F6:=fun_mk (st:=s_l_bag) l6 c6 k6
  have F7:=fun_mk (st:=s_l_take) l7 c7 k7
  have F8:=fun_mk (st:=s_l_table) l8 c8 k8
  have F9:=fun_mk (st:=s_l_pressed) l9 c9 k9
  have F10:=fun_mk (st:=s_l_step) l10 c10 k10
  have F11:=fun_mk (st:=s_l_read) l11 c11 k11
  have F12:=fun_mk (st:=s_l_starts) l12 c12 k12
  have F13:=fun_mk (st:=s_l_press) l13 c13 k13
  have F14:=fun_mk (st:=s_l_whole) l14 c14 k14
  have F15:=fun_mk (st:=s_l_are_lists) l15 c15 k15
  have F16:=fun_mk (st:=s_l_told) l16 c16 k16
  have F17:=fun_mk (st:=s_law) l17 c17 k17
  have b0 := F0.binds (ps := ["table", "keys"]) fun _ _ _ _ _ _ us hl => match us, hl with | [_, _], _ => rfl
  have b1 := F1.binds (ps := ["table", "keys"]) fun _ _ _ _ _ _ us hl => match us, hl with | [_, _], _ => rfl
  have b2 := F2.binds (ps := ["table", "keys"]) fun _ _ _ _ _ _ us hl => match us, hl with | [_, _], _ => rfl
  have b3 := F3.binds (ps := ["table", "waiting", "key"]) fun _ _ _ _ _ _ us hl => match us, hl with | [_, _, _], _ => rfl
  have b4 := F4.binds (ps := ["table", "keys"]) fun _ _ _ _ _ _ us hl => match us, hl with | [_, _], _ => rfl
  have b5 := F5.binds (ps := ["table", "waiting"]) fun _ _ _ _ _ _ us hl => match us, hl with | [_, _], _ => rfl
  have b6 := F6.binds (ps := ["_law_script", "_law_at"]) fun _ _ _ _ _ _ us hl => match us, hl with | [_, _], _ => rfl
  have b7 := F7.binds (ps := ["_law_bag_here", "_law_many"]) fun _ _ _ _ _ _ us hl => match us, hl with | [_, _], _ => rfl
  have b8 := F8.binds (ps := ["_law_bag_here"]) fun _ _ _ _ _ _ us hl => match us, hl with | [_], _ => rfl
  have b9 := F9.binds (ps := ["_law_bag_here", "_law_table_here", "_law_most"]) fun _ _ _ _ _ _ us hl => match us, hl with | [_, _, _], _ => rfl
  have b10 := F10.binds (ps := ["_law_table_here", "_law_keys"]) fun _ _ _ _ _ _ us hl => match us, hl with | [_, _], _ => rfl
  have b11 := F11.binds (ps := ["_law_table_here", "_law_keys"]) fun _ _ _ _ _ _ us hl => match us, hl with | [_, _], _ => rfl
  have b12 := F12.binds (ps := ["_law_table_here"]) fun _ _ _ _ _ _ us hl => match us, hl with | [_], _ => rfl
  have b13 := F13.binds (ps := ["_law_table_here", "_law_starts_here", "_law_waiting", "_law_key"]) fun _ _ _ _ _ _ us hl => match us, hl with | [_, _, _, _], _ => rfl
  have b14 := F14.binds (ps := ["_law_thing"]) fun _ _ _ _ _ _ us hl => match us, hl with | [_], _ => rfl
  have b15 := F15.binds (ps := ["_law_told_here"]) fun _ _ _ _ _ _ us hl => match us, hl with | [_], _ => rfl
  have b16 := F16.binds (ps := ["_law_table_here", "_law_starts_here", "_law_waiting", "_law_key"]) fun _ _ _ _ _ _ us hl => match us, hl with | [_, _, _, _], _ => rfl
  have b17 := F17.binds (ps := ["_law_script"]) fun _ _ _ _ _ _ us hl => match us, hl with | [_], _ => rfl
  exact ⟨PySem.W.fnOf "law" "law" (defArgs s_law) (defBody s_law) (defScope s_law) .none kV17 dc17 pm17 an17 cd17 ct17, fun s v => .of_eq rfl, fun base _ _ => fn_top rfl (ok_law ⟨⟨_, _, F0, b0, PySem.W.mg_of X G a0⟩, ⟨_, _, F1, b1, PySem.W.mg_of X G a1⟩, ⟨_, _, F2, b2, PySem.W.mg_of X G a2⟩, ⟨_, _, F3, b3, PySem.W.mg_of X G a3⟩, ⟨_, _, F4, b4, PySem.W.mg_of X G a4⟩, ⟨_, _, F5, b5, PySem.W.mg_of X G a5⟩, ⟨_, _, F6, b6, PySem.W.mg_of X G a6⟩, ⟨_, _, F7, b7, PySem.W.mg_of X G a7⟩, ⟨_, _, F8, b8, PySem.W.mg_of X G a8⟩, ⟨_, _, F9, b9, PySem.W.mg_of X G a9⟩, ⟨_, _, F10, b10, PySem.W.mg_of X G a10⟩, ⟨_, _, F11, b11, PySem.W.mg_of X G a11⟩, ⟨_, _, F12, b12, PySem.W.mg_of X G a12⟩, ⟨_, _, F13, b13, PySem.W.mg_of X G a13⟩, ⟨_, _, F14, b14, PySem.W.mg_of X G a14⟩, ⟨_, _, F15, b15, PySem.W.mg_of X G a15⟩, ⟨_, _, F16, b16, PySem.W.mg_of X G a16⟩, ⟨_, _, F17, b17, PySem.W.mg_of X G a17⟩, PySem.W.mg_none_of X G z0, PySem.W.mg_none_of X G z1, PySem.W.mg_none_of X G z2, PySem.W.mg_none_of X G z3, PySem.W.mg_none_of X G z4, PySem.W.mg_none_of X G z5, PySem.W.mg_none_of X G z6, PySem.W.mg_none_of X G z7, PySem.W.mg_none_of X G z8, PySem.W.mg_none_of X G z9, PySem.W.mg_none_of X G z10, PySem.W.mg_none_of X G z11⟩)⟩
theorem walk {l : PySem.W.OpenLaw} {q : Program} {loose : List Str} {XP : (Str→Option Value)→Heap→Prop} {YP : World→Heap→Prop} {d : DefRec} {K : Params→PySem.W.Frag} (hn : l.most=some 63) (hdf : d.params.defaults=[])
    (hY : ∀ (w : World) (h : Heap),YP w h→(K w.params).In h)
    (F : ∀ (w : World) (mg : Str→Option Value) (fa : Addr) (h : Heap),(K w.params).In h→h.Ns mainGlobals mg→mg d.name=some (.ref fa) →
      ∃ fd : FuncData, (∀ (s : Shared) (u : Value), BindsTo s fd ⟨[u], []⟩ [("_law_script", u)]) ∧ ∀ base : Heap, (K w.params).In base → base.Ns mainGlobals mg → FnOk l.prog w (K w.params) mg base CX0 5 fa fd ["_law_script"] (spTop (K w.params) 1 f_law)) :
    PySem.W.WalkO q loose XP YP l.row.toRowW d [] (fun f vs => PySem.call f vs) :=
  L2.walk_of (n := 63) (k := 5) (x := "_law_script") (CX := fun _ => CX0) (sp := fun w => spTop (K w.params) 1 f_law) hn (by decide) hdf ⟨rfl, by decide, by decide, rfl⟩ hY F (fun _ _ a ns hl hO hS => top_sp (fun n => law_eq ns (by omega) n) hO hS) fun _ _ _ _ _ h => h.elim
end My
open PySem PySem.W PyProof.Rows
set_option maxRecDepth 100000 in
set_option maxHeartbeats 0 in
theorem PySem.Challenge.cw_signbench_k03_whole_keys_pressed_one_by_holds : PySem.Challenge.rw_signbench_k03_whole_keys_pressed_one_by.Holds := by
  w_on; o_law; k_head; (case hw => w_witness2)
  k_fill
  refine My.walk (l:=PySem.Challenge.rw_signbench_k03_whole_keys_pressed_one_by) rfl rfl (fun w h Y => PySem.W.kIn_of Y) ?F
  case F =>
    intro w mg fa h KX G hmg
    refine' My.all_mk KX G hmg ?a0 ?l0 ?c0 ?k0 ?a1 ?l1 ?c1 ?k1 ?a2 ?l2 ?c2 ?k2 ?a3 ?l3 ?c3 ?k3 ?a4 ?l4 ?c4 ?k4 ?a5 ?l5 ?c5 ?k5 ?a6 ?l6 ?c6 ?k6 ?a7 ?l7 ?c7 ?k7 ?a8 ?l8 ?c8 ?k8 ?a9 ?l9 ?c9 ?k9 ?a10 ?l10 ?c10 ?k10 ?a11 ?l11 ?c11 ?k11 ?a12 ?l12 ?c12 ?k12 ?a13 ?l13 ?c13 ?k13 ?a14 ?l14 ?c14 ?k14 ?a15 ?l15 ?c15 ?k15 ?a16 ?l16 ?c16 ?k16 ?a17 ?l17 ?c17 ?k17 ?z0 ?z1 ?z2 ?z3 ?z4 ?z5 ?z6 ?z7 ?z8 ?z9 ?z10 ?z11
    (case a0 => k_is)
    (case l0 => k_is)
    (case c0 => k_is)
    (case k0 => k_is)
    (case a1 => k_is)
    (case l1 => k_is)
    (case c1 => k_is)
    (case k1 => k_is)
    (case a2 => k_is)
    (case l2 => k_is)
    (case c2 => k_is)
    (case k2 => k_is)
    (case a3 => k_is)
    (case l3 => k_is)
    (case c3 => k_is)
    (case k3 => k_is)
    (case a4 => k_is)
    (case l4 => k_is)
    (case c4 => k_is)
    (case k4 => k_is)
    (case a5 => k_is)
    (case l5 => k_is)
    (case c5 => k_is)
    (case k5 => k_is)
    (case a6 => k_is)
    (case l6 => k_is)
    (case c6 => k_is)
    (case k6 => k_is)
    (case a7 => k_is)
    (case l7 => k_is)
    (case c7 => k_is)
    (case k7 => k_is)
    (case a8 => k_is)
    (case l8 => k_is)
    (case c8 => k_is)
    (case k8 => k_is)
    (case a9 => k_is)
    (case l9 => k_is)
    (case c9 => k_is)
    (case k9 => k_is)
    (case a10 => k_is)
    (case l10 => k_is)
    (case c10 => k_is)
    (case k10 => k_is)
    (case a11 => k_is)
    (case l11 => k_is)
    (case c11 => k_is)
    (case k11 => k_is)
    (case a12 => k_is)
    (case l12 => k_is)
    (case c12 => k_is)
    (case k12 => k_is)
    (case a13 => k_is)
    (case l13 => k_is)
    (case c13 => k_is)
    (case k13 => k_is)
    (case a14 => k_is)
    (case l14 => k_is)
    (case c14 => k_is)
    (case k14 => k_is)
    (case a15 => k_is)
    (case l15 => k_is)
    (case c15 => k_is)
    (case k15 => k_is)
    (case a16 => k_is)
    (case l16 => k_is)
    (case c16 => k_is)
    (case k16 => k_is)
    (case a17 => k_is)
    (case l17 => k_is)
    (case c17 => k_is)
    (case k17 => k_is)
    (case z0 => k_is)
    (case z1 => k_is)
    (case z2 => k_is)
    (case z3 => k_is)
    (case z4 => k_is)
    (case z5 => k_is)
    (case z6 => k_is)
    (case z7 => k_is)
    (case z8 => k_is)
    (case z9 => k_is)
    (case z10 => k_is)
    (case z11 => k_is)
