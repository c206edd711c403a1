import PyProof.Rows.All
import Wide.All
import OpenK.AllK
import Wide.FinOn
import Lean
import PyProof.EqAt
import PyProof.EqKinds
import PyProof.TupleCall
import PyProof.Draws
import PyProof.EnumMake
import PyProof.ListRange
import PySem.Challenge.RW_signbench_k44_fields_and_standings_of_an
set_option Elab.async false
set_option linter.all false
set_option maxRecDepth 100000
namespace L2
open PySem PySem.Spec PyProof.Rows
noncomputable abbrev Key := Sum Int Str
noncomputable def keyIs : Key → Value → Bool
  | .inl k, v => Value.isInt k v
  | .inr x, v => Value.isStrOf x v
noncomputable def keyH (w : World) : Key → Int
  | .inl k => hashInt k
  | .inr x => hashStr w x
theorem keyIs_shape : ∀ {k : Key} {v : Value}, keyIs k v = true → (∃ i t, k = Sum.inl i ∧ v = Value.int i t) ∨ (∃ x t, k = Sum.inr x ∧ v = Value.str x t)
  | .inl i, v, h => by
    obtain ⟨t, e⟩ := Value.isInt_shape (k := i) (v := v) h
    exact .inl ⟨i, t, rfl, e⟩
  | .inr x, v, h => by
    obtain ⟨t, e⟩ := Value.isStrOf_shape (x := x) (v := v) h
    exact .inr ⟨x, t, rfl, e⟩
theorem key_ll (a b : Int) : decide ((Sum.inl a : Key) = Sum.inl b) = (a == b) := by
  by_cases e : a = b
  · subst e; simp
  · have h : ¬ (Sum.inl a : Key) = Sum.inl b := fun q => e (Sum.inl.inj q)
    rw [decide_eq_false h]
    exact (beq_eq_false_iff_ne.mpr e).symm
theorem key_rr (a b : Str) : decide ((Sum.inr a : Key) = Sum.inr b) = decide (a = b) := by
  by_cases e : a = b
  · subst e; simp
  · have h : ¬ (Sum.inr a : Key) = Sum.inr b := fun q => e (Sum.inr.inj q)
    rw [decide_eq_false h, decide_eq_false e]
theorem key_lr (a : Int) (b : Str) : decide ((Sum.inl a : Key) = Sum.inr b) = false := decide_eq_false (fun q => nomatch q)
theorem key_rl (a : Str) (b : Int) : decide ((Sum.inr a : Key) = Sum.inl b) = false := decide_eq_false (fun q => nomatch q)
noncomputable def mixKind (prog : Program) (w : World) : PySem.KeyKind prog w Key where
  is := keyIs
  hash := keyH w
  inj := fun v a b ha hb => by
    rcases keyIs_shape ha with ⟨i, t, rfl, rfl⟩ | ⟨x, t, rfl, rfl⟩
    · rcases keyIs_shape hb with ⟨j, u, rfl, e⟩ | ⟨y, u, rfl, e⟩
      · injection e with e1 _; rw [e1]
      · exact nomatch e
    · rcases keyIs_shape hb with ⟨j, u, rfl, e⟩ | ⟨y, u, rfl, e⟩
      · exact nomatch e
      · injection e with e1 _; rw [e1]
  byValue := fun k v h => by
    rcases keyIs_shape h with ⟨i, t, rfl, rfl⟩ | ⟨x, t, rfl, rfl⟩ <;> rfl
  pyHash := fun hv h => by
    rcases keyIs_shape hv with ⟨i, t, rfl, rfl⟩ | ⟨x, t, rfl, rfl⟩
    · exact wpAny_pyHash_int h
    · exact wpAny_pyHash_str h
  eqBool := fun hu hv h => by
    rcases keyIs_shape hu with ⟨i, t, rfl, rfl⟩ | ⟨x, t, rfl, rfl⟩
    · rcases keyIs_shape hv with ⟨j, u, rfl, rfl⟩ | ⟨y, u, rfl, rfl⟩
      · rw [key_ll] at h; exact wpAny_eqBool_int h
      · rw [key_lr] at h; exact SeqAt.EqAt.int_str i t y u _ _ _ _ h
    · rcases keyIs_shape hv with ⟨j, u, rfl, rfl⟩ | ⟨y, u, rfl, rfl⟩
      · rw [key_rl] at h; exact SeqAt.EqAt.str_int x t j u _ _ _ _ h
      · rw [key_rr] at h; exact wpAny_eqBool_str h
  «strs» := fun k x t v h => by
    rcases keyIs_shape h with ⟨i, u, rfl, e⟩ | ⟨y, u, rfl, e⟩
    · exact nomatch e
    · injection e with e1 _
      subst e1
      cases v <;> rfl
end L2
namespace L2
open PySem PySem.Spec PyProof.Rows
inductive V where
  | non | bl (b : Bool) | int (i : Int) | str (x : Str) | byt (b : Array UInt8) | flt (b : UInt64) | ref (a : Addr) | ty (n : String)
  deriving DecidableEq
noncomputable def RelV : V → Value → Prop
  | .non, u => u = Value.none
  | .bl b, u => u = Value.bool b
  | .int i, u => ∃ t, u = Value.int i t
  | .str x, u => ∃ t, u = Value.str x t
  | .byt b, u => ∃ t, u = Value.bytes b t
  | .flt b, u => ∃ t, u = Value.float b t
  | .ref a, u => u = Value.ref a
  | .ty n, u => u = Value.type n
noncomputable abbrev Vals : List V → List Value → Prop := Paired RelV
theorem Vals.length {xs : List V} {us : List Value} (r : Vals xs us) : xs.length = us.length := Paired.length r
theorem Vals.get : ∀ {xs : List V} {us : List Value} {i : Nat} {x : V}, Vals xs us → xs[i]? = some x → ∃ u, us[i]? = some u ∧ RelV x u
  | _, _, _, _, .nil, e => by simp at e
  | _, _, 0, _, .cons r _, e => by simp at e; subst e; exact ⟨_, rfl, r⟩
  | _, _, i + 1, x, .cons _ t, e => by
    obtain ⟨u, h1, h2⟩ := Vals.get (i := i) (x := x) t (by simpa using e)
    exact ⟨u, by simpa using h1, h2⟩
theorem Vals.set {x : V} {u : Value} (r : RelV x u) : ∀ {xs : List V} {us : List Value} (i : Nat), Vals xs us → Vals (xs.set i x) (us.set i u)
  | _, _, _, .nil => .nil
  | _, _, 0, .cons _ t => .cons r t
  | _, _, i + 1, .cons q t => .cons q (Vals.set r i t)
theorem Vals.append : ∀ {xs ys : List V} {us ws : List Value}, Vals xs us → Vals ys ws → Vals (xs ++ ys) (us ++ ws)
  | _, _, _, _, .nil, s => s
  | _, _, _, _, .cons r t, s => .cons r (Vals.append t s)
theorem Vals.take : ∀ {xs : List V} {us : List Value} (n : Nat), Vals xs us → Vals (xs.take n) (us.take n)
  | _, _, 0, _ => .nil
  | _, _, _ + 1, .nil => .nil
  | _, _, n + 1, .cons r t => .cons r (Vals.take n t)
theorem Vals.drop : ∀ {xs : List V} {us : List Value} (n : Nat), Vals xs us → Vals (xs.drop n) (us.drop n)
  | _, _, 0, r => r
  | _, _, _ + 1, .nil => .nil
  | _, _, n + 1, .cons _ t => Vals.drop n t
noncomputable def RelO : Option V → Option Value → Prop
  | some v, some u => RelV v u
  | none, none => True
  | _, _ => False
noncomputable def KV {κ : Type} : List (κ × V) → List (κ × Value) → Prop := Paired fun (p : κ × V) (q : κ × Value) => p.1 = q.1 ∧ RelV p.2 q.2
noncomputable def kV : Key → V
  | .inl i => .int i
  | .inr x => .str x
inductive HO where
  | lst (xs : List V)
  | tup (xs : List V)
  | dK (kvs : List (Key × V)) | dT (kvs : List (List Key × V))
  | set (S : Int → Bool) (n : Nat)
  | ins (C dx : Addr) (fs : List (Str × V))
  | own (x : Addr)
  | xd (fs : List (Str × V))
  | met (f x : Addr)
  | rng (lo hi : Int)
  | frz (o : Obj) (u : HO)
  | tbl (ps : Array Value)
  | ext (φ : Heap → Prop)
noncomputable abbrev Hp := Addr → Option HO
noncomputable def upd (H : Hp) (a : Addr) (o : HO) : Hp := fun b => if b = a then some o else H b
theorem upd_same {H : Hp} {a : Addr} {o : HO} : upd H a o a = some o := by unfold upd; rw [if_pos rfl]
theorem upd_ne {H : Hp} {a b : Addr} {o : HO} (h : b ≠ a) : upd H a o b = H b := by unfold upd; rw [if_neg h]
theorem ne_of {H : Hp} {a b : Addr} {o u : HO} (h : H a = some o) (h' : H b = some u) (d : o ≠ u) : a ≠ b := by
  intro e; subst e; rw [h] at h'; exact d (Option.some.inj h')
theorem ne_of_none {H : Hp} {a b : Addr} {o : HO} (h : H a = some o) (h' : H b = none) : a ≠ b := by
  intro e; subst e; rw [h] at h'; cases h'
section
variable (P : Program) (w : World)
noncomputable def ObjOk (H : Hp) (h : Heap) (a : Addr) : HO → Prop
  | .lst xs => xs.length ≤ sizeLine ∧ ∃ (its : List Value) (n : Nat), Vals xs its ∧ h.get? a = some { cls := .type "list", data := .seq its.toArray n }
  | .tup xs => xs.length ≤ sizeLine ∧ ∃ its : List Value, Vals xs its ∧ IsTup h a its.toArray
  | .dK kvs => kvs.length ≤ sizeLine ∧ (a == sysModules) = false ∧ ∃ vs, KV kvs vs ∧ h.DictOf (mixKind P w) a vs
  | .dT kvs => kvs.length ≤ sizeLine ∧ (a == sysModules) = false ∧ ∃ xs : List (List Key × Addr × Value),
      Paired (fun (p : List Key × V) (q : List Key × Addr × Value) => p.1 = q.1 ∧ H q.2.1 = some (.tup (p.1.map kV)) ∧ RelV p.2 q.2.2) kvs xs ∧
      ∃ o es ep, h.get? a = some o ∧ o.ExactDict ∧ o.data = .dict es ep ∧ es.toList = xs.map (entryOfKey (tupleKind (mixKind P w))) ∧ (xs.map (·.1)).Nodup
  | .set S n => h.SetOf (intKind P w) a S n
  | .ins C dx fs => H dx = some (.own a) ∧ fs.length ≤ 1000 ∧ dx ≠ a ∧ h.get? a = some (PySem.W.instObj C dx) ∧
      ∃ mA, h.Ns1 dx mA ∧ (∀ f, RelO (fs.lookup f) (mA f)) ∧ PySem.Within mA (fs.map (·.1))
  | .own _ => ∃ o, h.get? a = some o
  | .xd fs => ∃ mA, h.Ns1 a mA ∧ ∀ f, RelO (fs.lookup f) (mA f)
  | .rng lo hi => ∃ t u v, h.get? a = some { cls := .type "range", data := .fields #[.int lo t, .int hi u, .int 1 v] }
  | .frz o u => h.get? a = some o ∧ ObjOk H h a u
  | .tbl ps => h.get? a = some { cls := .none, data := .fields ps }
  | .met f x => h.get? a = some (PySem.W.methodObj (.ref f) (.ref x))
  | .ext φ => φ h ∧ (∃ o, h.get? a = some o) ∧ ∀ h1 h2 : Heap, φ h1 → (∀ o, h1.get? a = some o → h2.get? a = some o) → φ h2
noncomputable def HOk (H : Hp) (h : Heap) : Prop := ∀ a o, H a = some o → ObjOk P w H h a o
end
section
variable {P : Program} {w : World} {H H' : Hp} {h h' : Heap} {a : Addr} {o : HO}
theorem ObjOk.lt (x : ObjOk P w H h a o) : a < h.objs.size := by
  cases o with
  | lst xs => obtain ⟨_, _, _, _, e⟩ := x; exact Heap.lt_size e
  | tup xs => obtain ⟨_, _, _, p⟩ := x; exact p.lt
  | dK kvs => obtain ⟨_, _, _, _, o, _, _, e, _⟩ := x; exact Heap.lt_size e
  | dT kvs => obtain ⟨_, _, _, _, o, _, _, e, _⟩ := x; exact Heap.lt_size e
  | set S n => obtain ⟨o, _, _, _, e, _⟩ := x; exact Heap.lt_size e
  | ins C dx fs => obtain ⟨_, _, _, e, _⟩ := x; exact Heap.lt_size e
  | own y => obtain ⟨_, e⟩ := x; exact Heap.lt_size e
  | xd fs => obtain ⟨_, ⟨_, _, _, e, _⟩, _⟩ := x; exact Heap.lt_size e
  | rng lo hi => obtain ⟨_, _, _, e⟩ := x; exact Heap.lt_size e
  | frz ob u => obtain ⟨e, _⟩ := x; exact Heap.lt_size e
  | tbl ps => exact Heap.lt_size (show h.get? a = some _ from x)
  | met f y => exact Heap.lt_size (show h.get? a = some _ from x)
  | ext φ => obtain ⟨_, ⟨_, e⟩, _⟩ := x; exact Heap.lt_size e
theorem Paired.mapP {α β : Type} {F G : α → β → Prop} : ∀ {l₁ : List α} {l₂ : List β}, Paired F l₁ l₂ → (∀ a b, F a b → G a b) → Paired G l₁ l₂
  | _, _, .nil, _ => .nil
  | _, _, .cons r t, f => .cons (f _ _ r) (Paired.mapP t f)
theorem ObjOk.stay (x : ObjOk P w H h a o) (k : ∀ b u, (b = a ∨ H b = some (.own a)) → h.get? b = some u → h'.get? b = some u)
    (ho : ∀ b, H b = some (.own a) → H' b = some (.own a)) (ht : ∀ b xs, H b = some (.tup xs) → H' b = some (.tup xs)) : ObjOk P w H' h' a o := by
  induction o with
  | lst xs => obtain ⟨z, its, n, r, e⟩ := x; exact ⟨z, its, n, r, k _ _ (.inl rfl) e⟩
  | tup xs => obtain ⟨z, its, r, ob, e, c⟩ := x; exact ⟨z, its, r, ob, k _ _ (.inl rfl) e, c⟩
  | dK kvs => obtain ⟨z, y, vs, r, ob, es, ep, e, c⟩ := x; exact ⟨z, y, vs, r, ob, es, ep, k _ _ (.inl rfl) e, c⟩
  | dT kvs =>
    obtain ⟨z, y, xs, r, ob, es, ep, e, c⟩ := x
    exact ⟨z, y, xs, Paired.mapP r fun p q z => ⟨z.1, ht _ _ z.2.1, z.2.2⟩, ob, es, ep, k _ _ (.inl rfl) e, c⟩
  | set S n => obtain ⟨ob, es, ep, t, e, c⟩ := x; exact ⟨ob, es, ep, t, k _ _ (.inl rfl) e, c⟩
  | ins C dx fs =>
    obtain ⟨d, z, ne, e, mA, ⟨od, es, ep, e2, c⟩, r⟩ := x
    exact ⟨ho _ d, z, ne, k _ _ (.inl rfl) e, mA, ⟨od, es, ep, k _ _ (.inr d) e2, c⟩, r⟩
  | own y => obtain ⟨ob, e⟩ := x; exact ⟨ob, k _ _ (.inl rfl) e⟩
  | xd fs => obtain ⟨mA, ⟨od, es, ep, e, c⟩, r⟩ := x; exact ⟨mA, ⟨od, es, ep, k _ _ (.inl rfl) e, c⟩, r⟩
  | rng lo hi => obtain ⟨t, u, v, e⟩ := x; exact ⟨t, u, v, k _ _ (.inl rfl) e⟩
  | frz ob u ih => obtain ⟨e, q⟩ := x; exact ⟨k _ _ (.inl rfl) e, ih q⟩
  | tbl ps =>
    have e : h.get? a = some { cls := .none, data := .fields ps } := x
    show h'.get? a = some { cls := .none, data := .fields ps }
    exact k a _ (.inl rfl) e
  | met f y =>
    have e : h.get? a = some (PySem.W.methodObj (.ref f) (.ref y)) := x
    show h'.get? a = some (PySem.W.methodObj (.ref f) (.ref y))
    exact k a _ (.inl rfl) e
  | ext φ => obtain ⟨p, ⟨o, e⟩, st⟩ := x; exact ⟨st _ _ p fun o q => k _ _ (.inl rfl) q, ⟨o, k _ _ (.inl rfl) e⟩, st⟩
theorem HOk.lt (x : HOk P w H h) (e : H a = some o) : a < h.objs.size := (x a o e).lt
theorem HOk.fresh (x : HOk P w H h) (e : h.objs.size ≤ a) : H a = none := by
  cases q : H a with
  | none => rfl
  | some u => exact absurd (Nat.lt_of_lt_of_le (x.lt q) e) (Nat.lt_irrefl _)
theorem HOk.kept (x : HOk P w H h) (k : ∀ b u, h.get? b = some u → h'.get? b = some u) : HOk P w H h' := fun a o e =>
  (x a o e).stay (fun b u _ q => k b u q) (fun _ q => q) fun _ _ q => q
theorem HOk.laid (x : HOk P w H h) (k : ∀ b u, h.get? b = some u → h'.get? b = some u) (hp : h.objs.size ≤ a) (new : ObjOk P w (upd H a o) h' a o) : HOk P w (upd H a o) h' := fun b u e => by
  have hn := x.fresh hp
  by_cases hb : b = a
  · subst hb; rw [upd_same] at e; cases e; exact new
  · rw [upd_ne hb] at e
    exact (x b u e).stay (fun c v _ q => k c v q) (fun c q => by rw [upd_ne (ne_of_none q hn)]; exact q) fun c xs q => by rw [upd_ne (ne_of_none q hn)]; exact q
end
noncomputable def Rd (H : Hp) (a : Addr) (u : HO) : Prop := H a = some u ∨ ∃ o, H a = some (.frz o u)
theorem Rd.ok {P : Program} {w : World} {H : Hp} {h : Heap} {a : Addr} {u : HO} (r : Rd H a u) (x : HOk P w H h) : ObjOk P w H h a u := by
  rcases r with r | ⟨o, r⟩
  · exact x a u r
  · obtain ⟨_, q⟩ := x a _ r
    exact q
noncomputable def Mut : Option HO → Prop
  | some (.lst _) => True
  | some (.dK _) => True
  | some (.dT _) => True
  | some (.set _ _) => True
  | some (.ins _ _ _) => True
  | some (.ext _) => True
  | _ => False
section
variable {P : Program} {w : World} {H : Hp} {h h' : Heap} {x e : Addr} {o' : HO}
theorem HOk.write (ok : HOk P w H h) (mu : Mut (H x)) (he : e = x ∨ H e = some (.own x)) (k : ∀ b u, b ≠ e → h.get? b = some u → h'.get? b = some u) (heo : ∃ u, h'.get? e = some u)
    (new : ObjOk P w (upd H x o') h' x o') : HOk P w (upd H x o') h' := fun b u q => by
  have nown : ∀ c y, H c = some (.own y) → c ≠ x := fun c y r z => by subst z; rw [r] at mu; exact mu
  have ntup : ∀ c xs, H c = some (.tup xs) → c ≠ x := fun c xs r z => by subst z; rw [r] at mu; exact mu
  by_cases hb : b = x
  · subst hb; rw [upd_same] at q; cases q; exact new
  · rw [upd_ne hb] at q
    by_cases hbe : b = e
    · have q' : H b = some (.own x) := by
        rcases he with z | z
        · exact absurd (hbe.trans z) hb
        · rw [hbe]; exact z
      rw [q] at q'; cases q'
      obtain ⟨v, hv⟩ := heo
      exact ⟨v, by rw [hbe]; exact hv⟩
    · refine (ok b u q).stay (fun c v hc r => k c v ?_ r) (fun c r => by rw [upd_ne (nown c b r)]; exact r) fun c xs r => by rw [upd_ne (ntup c xs r)]; exact r
      rcases hc with rfl | hc
      · exact hbe
      · rintro rfl
        rcases he with z | z
        · exact nown c b hc z
        · rw [hc] at z; cases z; exact hb rfl
end
structure Un (fs ex : List Addr) (H H' : Hp) (h h' : Heap) : Prop where
  keep : ∀ b o, h.get? b = some o → H b = none → b ∉ fs → b ∉ ex → h'.get? b = some o
  slot : ∀ b o, h.get? b = some o → H b = none → b ∈ fs → b ∉ ex → ∃ sl, h'.get? b = some { o with slots := sl }
  free : ∀ b o, h.get? b = some o → H b = none → b ∉ ex → H' b = none
  there : ∀ b o, h.get? b = some o → b ∉ ex → ∃ o', h'.get? b = some o'
  tups : ∀ b xs, H b = some (.tup xs) → H' b = some (.tup xs)
  frzs : ∀ b o u, H b = some (.frz o u) → H' b = some (.frz o u)
  tbls : ∀ b ps, H b = some (.tbl ps) → ∃ more, H' b = some (.tbl (ps ++ more))
section
variable {fs fs' ex ex' : List Addr} {H H1 H2 : Hp} {h h1 h2 h' : Heap} {a x e : Addr} {o : HO}
theorem Un.any (u : Un fs ex H H1 h h1) {b : Addr} {ob : Obj} (q : h.get? b = some ob) (n : H b = none) (hx : b ∉ ex) : ∃ sl, h1.get? b = some { ob with slots := sl } := by
  by_cases hb : b ∈ fs
  · exact u.slot b ob q n hb hx
  · exact ⟨ob.slots, u.keep b ob q n hb hx⟩
theorem Un.kept (k : ∀ b u, h.get? b = some u → h'.get? b = some u) : Un fs ex H H h h' :=
  ⟨fun b ob q _ _ _ => k b ob q, fun b ob q _ _ _ => ⟨ob.slots, k b ob q⟩, fun _ _ _ n _ => n, fun b ob q _ => ⟨ob, k b ob q⟩, fun _ _ q => q, fun _ _ _ q => q, fun _ ps q => ⟨#[], by rw [q]; simp⟩⟩
theorem Un.refl : Un fs ex H H h h := Un.kept fun _ _ q => q
theorem Un.laid (k : ∀ b u, h.get? b = some u → h'.get? b = some u) (hp : h.objs.size ≤ a) (hn : H a = none) : Un fs ex H (upd H a o) h h' where
  keep := fun b u q _ _ _ => k b u q
  slot := fun b u q _ _ _ => ⟨u.slots, k b u q⟩
  free := fun b u q n _ => by rw [upd_ne (Nat.ne_of_lt (Nat.lt_of_lt_of_le (Heap.lt_size q) hp))]; exact n
  there := fun b u q _ => ⟨u, k b u q⟩
  tups := fun b xs q => by rw [upd_ne (ne_of_none q hn)]; exact q
  frzs := fun b u xs q => by rw [upd_ne (ne_of_none q hn)]; exact q
  tbls := fun b ps q => ⟨#[], by rw [upd_ne (ne_of_none q hn), q]; simp⟩
theorem Un.write (mu : Mut (H x)) (he : e = x ∨ H e = some (.own x)) (k : ∀ b u, b ≠ e → h.get? b = some u → h'.get? b = some u) (heo : ∃ u, h'.get? e = some u) : Un fs ex H (upd H x o) h h' := by
  have hx : ∀ b, H b = none → b ≠ x := fun b n z => by subst z; rw [n] at mu; exact mu
  have hb : ∀ b, H b = none → b ≠ e := fun b n z => by
    subst z
    rcases he with r | r
    · exact hx b n r
    · rw [n] at r; cases r
  have hm : ∀ b u, H b = some u → ¬ Mut (some u) → b ≠ x := fun b u q nm z => by subst z; rw [q] at mu; exact nm mu
  refine ⟨fun b u q n _ _ => k b u (hb b n) q, fun b u q n _ _ => ⟨u.slots, k b u (hb b n) q⟩, fun b u q n _ => by rw [upd_ne (hx b n)]; exact n, fun b u q _ => ?_,
    fun b xs q => by rw [upd_ne (hm b _ q fun z => z)]; exact q, fun b u xs q => by rw [upd_ne (hm b _ q fun z => z)]; exact q, fun b ps q => ⟨#[], by rw [upd_ne (hm b _ q fun z => z), q]; simp⟩⟩
  by_cases hbe : b = e
  · subst hbe; exact heo
  · exact ⟨u, k b u hbe q⟩
end
noncomputable def trk (h : Heap) (H : Hp) : List Addr := (List.range h.objs.size).filter fun a => (H a).isSome
noncomputable def hidT (h : Heap) (H : Hp) : Heap := PySem.W.hideAll h (trk h H)
theorem hidT_size (h : Heap) (H : Hp) : (hidT h H).objs.size = h.objs.size := PySem.W.hideAll_size _ _
theorem hidT_get {h : Heap} {H : Hp} {b : Addr} {o : Obj} (e : h.get? b = some o) (n : H b = none) : (hidT h H).get? b = some o :=
  PySem.W.hideAll_get _ e fun hm => by
    have q : (H b).isSome = true := (List.mem_filter.mp hm).2
    rw [n] at q; simp at q
theorem of_hidT {h : Heap} {H : Hp} {b : Addr} {o : Obj} (e : (hidT h H).get? b = some o) : h.get? b = some o ∧ H b = none := by
  have e' : h.get? b = some o := PySem.W.of_hideAll (trk h H) e
  refine ⟨e', ?_⟩
  cases q : H b with
  | none => rfl
  | some x =>
    have hm : b ∈ trk h H := List.mem_filter.mpr ⟨List.mem_range.mpr (Heap.lt_size e'), by simp [q]⟩
    have z : (hidT h H).get? b = none := PySem.W.hideAll_none (trk h H) hm
    rw [z] at e; cases e
noncomputable def allNews (g h : Heap) (L : Addr) : List (Addr × Obj) := (List.range h.objs.size).filterMap fun a => if a = L ∨ (g.get? a).isSome = true then none else (h.get? a).map fun o => (a, o)
noncomputable def rest (g h : Heap) (L d : Addr) : List (Addr × Obj) := (allNews g h L).filter fun p => decide (p.1 ≠ d)
end L2
namespace L2
open PySem PySem.Spec PyProof.Rows
structure Mod (K : PySem.W.Frag) (mg : Str → Option Value) (base : Heap) : Prop where
  kin : K.In base
  glob : base.Ns mainGlobals mg
  blt : ∃ mb, base.Ns builtinsNs mb ∧ ∀ x : Str, x ≠ "__name__" → mb x = bootBuiltins x
  nolimit : base.NoLimit
structure Cx where
  prog : Program
  w : World
  K : PySem.W.Frag
  mg : Str → Option Value
  base : Heap
  A : Around
  N : List Str
  s₀ : Shared
  H₀ : Hp
  env : Env
  outer : List Env
  stack : List Env
  ex : List Addr
  fn : Str → Bool
  calm : Bool
  pn : List (Addr × Obj)
  xe : Value → Shared → Prop
noncomputable def frs (l : List Env) : List Addr := l.filterMap (·.frame)
noncomputable abbrev Cx.fs (X : Cx) : List Addr := frs X.outer
noncomputable def Vis (sc : Scope) (x : Str) : Prop := sc.names.lookup x = some .local ∨ sc.names.lookup x = some .cell ∨ sc.names.lookup x = some .free
noncomputable def Loc (sc : Scope) (x : Str) : Prop := sc.names.lookup x = some .local ∨ sc.names.lookup x = some .cell
noncomputable def Look (env : Env) (h : Heap) (m : Str → Option Value) (x : Str) (u : Value) : Prop :=
  (env.kindOf x = some .local ∧ m x = some u) ∨ ((env.kindOf x = some .cell ∨ env.kindOf x = some .free) ∧ ∃ c, env.cells.lookup x = some c ∧ h.IsCell c (some u))
structure Cx.Ok (X : Cx) : Prop where
  mod : Mod X.K X.mg X.base
  kind : X.env.scope.kind = .function
  glob : X.env.globals = mainGlobals
  blt : X.env.builtins = builtinsNs
  above : X.s₀.heap.objs.size ≤ X.env.locals
  inj : ∀ x y c, X.env.cells.lookup x = some c → X.env.cells.lookup y = some c → x = y
  has : ∀ x, (X.env.kindOf x = some .cell ∨ X.env.kindOf x = some .free) → ∃ c, X.env.cells.lookup x = some c
  cab : ∀ x c, X.fn x = true → X.env.cells.lookup x = some c → X.s₀.heap.objs.size ≤ c
  hd : X.calm = true → X.A.handled = none
  frames : X.A.frames = some X.stack
  stk : X.stack = X.outer ∨ (X.stack = X.env :: X.outer ∧ X.env.frame = some X.env.locals)
  exf : ∀ b ∈ X.ex, b ≠ X.env.locals ∧ ∀ x c, X.env.cells.lookup x = some c → c ≠ b
  bs : ∀ b o, X.base.get? b = some o → X.s₀.heap.get? b = some o ∧ X.H₀ b = none
  bsz : X.base.objs.size ≤ X.s₀.heap.objs.size
  noex : ∀ b o, X.base.get? b = some o → b ∉ X.ex
  exfs : ∀ b ∈ X.ex, b ∉ X.fs
  funs : X.s₀.heap.FunFrames X.base X.outer
  frf : ∀ b ∈ X.fs, X.H₀ b = none
structure Inv (X : Cx) (pins : List (Addr × Obj)) (σ : List (Option V)) (H : Hp) (s : Shared) : Prop where
  ok : X.Ok
  os : s.os = X.s₀.os
  bare : AllBare s.gens
  base : Un X.fs X.ex X.H₀ H X.s₀.heap s.heap
  loc : ∃ m, s.heap.Ns X.env.locals m ∧ ∀ (i : Nat) (x : Str) (v : V), X.N[i]? = some x → σ[i]? = some (some v) → Vis X.env.scope x → ∃ u, RelV v u ∧ Look X.env s.heap m x u
  cell : ∀ x c, X.env.cells.lookup x = some c → ∃ v, s.heap.IsCell c v
  free : H X.env.locals = none
  freeC : ∀ x c, X.env.cells.lookup x = some c → H c = none
  pin : ∀ p ∈ X.pn ++ pins, s.heap.get? p.1 = some p.2 ∧ H p.1 = none ∧ p.1 ≠ X.env.locals ∧ p.1 ∉ X.fs ∧ ∀ v, p.2.data ≠ .cell v
  hok : HOk X.prog X.w H s.heap
  len : σ.length = X.N.length
section
variable {X : Cx} {pins : List (Addr × Obj)} {σ : List (Option V)} {H H' : Hp} {s : Shared} {h' : Heap}
theorem Cx.Ok.nofr (ok : X.Ok) {b : Addr} {o : Obj} (e : X.base.get? b = some o) : b ∉ X.fs := fun hb => by
  have := (ok.funs.mem hb).1
  rw [e] at this; cases this
theorem Inv.bs (I : Inv X pins σ H s) : ∀ b o, X.base.get? b = some o → s.heap.get? b = some o ∧ H b = none := fun b o e =>
  ⟨I.base.keep b o (I.ok.bs b o e).1 (I.ok.bs b o e).2 (I.ok.nofr e) (I.ok.noex b o e), I.base.free b o (I.ok.bs b o e).1 (I.ok.bs b o e).2 (I.ok.noex b o e)⟩
theorem Inv.bk (I : Inv X pins σ H s) : ∀ b o, X.base.get? b = some o → s.heap.get? b = some o := fun b o e => (I.bs b o e).1
theorem Inv.mod (I : Inv X pins σ H s) : Mod X.K X.mg X.base := I.ok.mod
theorem Inv.kIn (I : Inv X pins σ H s) : X.K.In s.heap := I.ok.mod.kin.keeps I.bk
theorem Inv.lt (I : Inv X pins σ H s) : X.env.locals < s.heap.objs.size := let ⟨_, hn, _⟩ := I.loc; hn.lt
theorem Inv.sz (I : Inv X pins σ H s) : X.s₀.heap.objs.size ≤ s.heap.objs.size := Nat.le_trans I.ok.above (Nat.le_of_lt I.lt)
theorem Inv.nofs (I : Inv X pins σ H s) {a : Addr} (h : s.heap.objs.size ≤ a) : a ∉ X.fs := fun hb => by
  obtain ⟨_, o, ho, _⟩ := I.ok.funs.mem hb
  exact absurd (Nat.lt_of_lt_of_le (Heap.lt_size ho) (Nat.le_trans I.sz h)) (Nat.lt_irrefl _)
theorem Inv.cne (I : Inv X pins σ H s) : ∀ x c, X.env.cells.lookup x = some c → c ≠ X.env.locals := fun x c e z => by
  obtain ⟨v, o, ho, hd⟩ := I.cell x c e
  obtain ⟨m, ⟨o', es, ep, ho', hd', _⟩, _⟩ := I.loc
  rw [z, ho'] at ho; cases ho; rw [hd'] at hd; cases hd
theorem Inv.funs (I : Inv X pins σ H s) : s.heap.FunFrames X.base X.outer := by
  have all : ∀ (l : List Env), (∀ b ∈ frs l, b ∈ X.fs) → X.s₀.heap.FunFrames X.base l → s.heap.FunFrames X.base l := by
    intro l
    induction l with
    | nil => intro _ _; trivial
    | cons env r ih =>
      intro hs hl
      obtain ⟨hk, ⟨L, o, hf, hn, ho, hd⟩, hr⟩ := hl
      have hL : L ∈ X.fs := hs L (by unfold frs; rw [List.filterMap_cons, hf]; exact List.mem_cons_self)
      obtain ⟨sl, e⟩ := I.base.slot L o ho (I.ok.frf L hL) hL fun z => I.ok.exfs L z hL
      exact ⟨hk, ⟨L, _, hf, hn, e, hd⟩, ih (fun b hb => hs b (by unfold frs; rw [List.filterMap_cons, hf]; exact List.mem_cons_of_mem _ hb)) hr⟩
  exact all X.outer (fun _ hb => hb) I.ok.funs
theorem Inv.stack (I : Inv X pins σ H s) : s.heap.FunFrames X.base X.stack := by
  rcases I.ok.stk with e | ⟨e, hf⟩
  · rw [e]; exact I.funs
  · rw [e]
    obtain ⟨m, hn, _⟩ := I.loc
    refine .cons (by rw [I.ok.kind]; decide) hf hn ?_ I.funs
    exact Heap.get?_none_of_le (Nat.le_trans I.ok.bsz I.ok.above)
theorem Inv.stkSub (I : Inv X pins σ H s) : ∀ b ∈ frs X.stack, b ∈ X.env.locals :: X.fs := fun b hb => by
  rcases I.ok.stk with e | ⟨e, hf⟩
  · rw [e] at hb; exact List.mem_cons_of_mem _ hb
  · rw [e] at hb
    unfold frs at hb
    rw [List.filterMap_cons, hf] at hb
    exact hb
theorem Inv.stkFree (I : Inv X pins σ H s) : ∀ b ∈ frs X.stack, H b = none := fun b hb => by
  rcases List.mem_cons.mp (I.stkSub b hb) with e | hb
  · rw [e]; exact I.free
  · obtain ⟨_, o, ho, _⟩ := I.ok.funs.mem hb
    exact I.base.free b o ho (I.ok.frf b hb) fun z => I.ok.exfs b z hb
theorem Inv.step {g' : Array GenState} {t' : Nat} {d' : Drawn} {ch : List Addr} (I : Inv X pins σ H s)
    (hch : ∀ b ∈ ch, (b ∈ X.ex ∨ X.s₀.heap.objs.size ≤ b) ∧ b ≠ X.env.locals ∧ (∀ x c, X.env.cells.lookup x = some c → c ≠ b) ∧ ∀ p ∈ X.pn ++ pins, p.1 ≠ b)
    (keep : ∀ b o, b ≠ X.env.locals → b ∉ X.fs → b ∉ ch → s.heap.get? b = some o → H b = none → h'.get? b = some o)
    (slot : ∀ b o, b ≠ X.env.locals → b ∈ X.fs → b ∉ ch → s.heap.get? b = some o → H b = none → ∃ sl, h'.get? b = some { o with slots := sl }) (free : ∀ b o, b ∉ ch → s.heap.get? b = some o → H b = none → H' b = none)
    (there : ∀ b o, b ∉ ch → s.heap.get? b = some o → ∃ o', h'.get? b = some o')
    (tups : ∀ b xs, H b = some (.tup xs) → H' b = some (.tup xs)) (frzs : ∀ b o u, H b = some (.frz o u) → H' b = some (.frz o u)) (tbls : ∀ b ps, H b = some (.tbl ps) → ∃ more, H' b = some (.tbl (ps ++ more)))
    (ns : ∀ m, s.heap.Ns X.env.locals m → h'.Ns X.env.locals m) (hok : HOk X.prog X.w H' h') (hg : AllBare g') :
    Inv X pins σ H' { s with heap := h', gens := g', drawn := d', toks := t' } := by
  have neL : ∀ b o, X.s₀.heap.get? b = some o → b ≠ X.env.locals := fun b o e => Nat.ne_of_lt (Nat.lt_of_lt_of_le (Heap.lt_size e) I.ok.above)
  have neC : ∀ b o, X.s₀.heap.get? b = some o → b ∉ X.ex → b ∉ ch := fun b o e hx hb => by
    rcases (hch b hb).1 with z | z
    · exact hx z
    · exact absurd (Nat.lt_of_lt_of_le (Heap.lt_size e) z) (Nat.lt_irrefl _)
  have cellK : ∀ x c, X.env.cells.lookup x = some c → ∀ v, s.heap.IsCell c v → h'.IsCell c v := fun x c e v ⟨o, ho, hd⟩ => by
    have nch : c ∉ ch := fun z => (hch c z).2.2.1 x c e rfl
    by_cases hc : c ∈ X.fs
    · obtain ⟨sl, q⟩ := slot c o (I.cne x c e) hc nch ho (I.freeC x c e)
      exact ⟨_, q, hd⟩
    · exact ⟨o, keep c o (I.cne x c e) hc nch ho (I.freeC x c e), hd⟩
  refine ⟨I.ok, I.os, hg, ⟨fun b o e n hb hx => ?_, fun b o e n hb hx => ?_, fun b o e n hx => ?_, fun b o e hx => ?_, fun b xs e => tups b xs (I.base.tups b xs e), fun b o xs e => frzs b o xs (I.base.frzs b o xs e), fun b ps e => ?_⟩, ?_, fun x c e => ?_, ?_, fun x c e => ?_, fun p hp => ?_, hok, I.len⟩
  · exact keep b o (neL b o e) hb (neC b o e hx) (I.base.keep b o e n hb hx) (I.base.free b o e n hx)
  · obtain ⟨sl, e1⟩ := I.base.slot b o e n hb hx
    obtain ⟨sl', e2⟩ := slot b _ (neL b o e) hb (neC b o e hx) e1 (I.base.free b o e n hx)
    exact ⟨sl', e2⟩
  · obtain ⟨o', e1⟩ := I.base.there b o e hx
    exact free b o' (neC b o e hx) e1 (I.base.free b o e n hx)
  · obtain ⟨o', e1⟩ := I.base.there b o e hx
    exact there b o' (neC b o e hx) e1
  · obtain ⟨m1, e1⟩ := I.base.tbls b ps e
    obtain ⟨m2, e2⟩ := tbls b _ e1
    exact ⟨m1 ++ m2, by rw [e2, Array.append_assoc]⟩
  · obtain ⟨m, hn, hl⟩ := I.loc
    refine ⟨m, ns m hn, fun i x v e1 e2 e3 => ?_⟩
    obtain ⟨u, r, l⟩ := hl i x v e1 e2 e3
    refine ⟨u, r, ?_⟩
    rcases l with l | ⟨k, c, e, z⟩
    · exact .inl l
    · exact .inr ⟨k, c, e, cellK x c e _ z⟩
  · obtain ⟨v, z⟩ := I.cell x c e
    exact ⟨v, cellK x c e v z⟩
  · obtain ⟨m, ⟨o, _, _, ho, _⟩, _⟩ := I.loc
    exact free _ o (fun z => (hch _ z).2.1 rfl) ho I.free
  · obtain ⟨v, o, ho, hd⟩ := I.cell x c e
    exact free c o (fun z => (hch c z).2.2.1 x c e rfl) ho (I.freeC x c e)
  · obtain ⟨e, n, ne, nf, d⟩ := I.pin p hp
    have nch : p.1 ∉ ch := fun z => (hch p.1 z).2.2.2 p hp rfl
    exact ⟨keep p.1 p.2 ne nf nch e n, free p.1 p.2 nch e n, ne, nf, d⟩
theorem Inv.un {t' : Nat} (I : Inv X pins σ H s) (u : Un X.fs [] H H' s.heap h') (hok : HOk X.prog X.w H' h') : Inv X pins σ H' { s with heap := h', toks := t' } := by
  obtain ⟨m, ⟨o, es, ep, ho, r⟩, _⟩ := id I.loc
  obtain ⟨sl, hL⟩ := u.any ho I.free (by simp)
  exact I.step (g' := s.gens) (d' := s.drawn) (ch := []) (fun _ z => nomatch z) (fun b o _ hb _ e n => u.keep b o e n hb (by simp)) (fun b o _ hb _ e n => u.slot b o e n hb (by simp)) (fun b o _ e n => u.free b o e n (by simp)) (fun b o _ e => u.there b o e (by simp)) u.tups u.frzs u.tbls (fun m' hm => by
    obtain ⟨o', es', ep', ho', r'⟩ := hm
    rw [ho] at ho'; cases ho'
    exact ⟨_, es', ep', hL, r'⟩) hok I.bare
theorem Inv.call {g' : Array GenState} {t' : Nat} {d' : Drawn} {ch : List Addr} (I : Inv X pins σ H s) (u : Un (frs X.stack) ch H H' s.heap h') (hok : HOk X.prog X.w H' h') (hg : AllBare g')
    (hch : ∀ b ∈ ch, (b ∈ X.ex ∨ X.s₀.heap.objs.size ≤ b) ∧ b ≠ X.env.locals ∧ (∀ x c, X.env.cells.lookup x = some c → c ≠ b) ∧ ∀ p ∈ X.pn ++ pins, p.1 ≠ b) :
    Inv X pins σ H' { s with heap := h', gens := g', drawn := d', toks := t' } := by
  obtain ⟨m, ⟨o, es, ep, ho, r⟩, _⟩ := id I.loc
  obtain ⟨sl, hL⟩ := u.any ho I.free fun z => (hch _ z).2.1 rfl
  exact I.step (ch := ch) hch (fun b o hL hb hc e n => u.keep b o e n (fun z => (List.mem_cons.mp (I.stkSub b z)).elim hL hb) hc) (fun b o _ _ hc e n => u.any e n hc) (fun b o hc e n => u.free b o e n hc) (fun b o hc e => u.there b o e hc) u.tups u.frzs u.tbls (fun m' hm => by
    obtain ⟨o', es', ep', ho', r'⟩ := hm
    rw [ho] at ho'; cases ho'
    exact ⟨_, es', ep', hL, r'⟩) hok hg
theorem Inv.turned {t' : Nat} {it : Addr} (I : Inv X pins σ H s) (k : ∀ b o, b ≠ it → s.heap.get? b = some o → h'.get? b = some o) (hn : H it = none) (hL : it ≠ X.env.locals)
    (h1 : it ∈ X.ex ∨ X.s₀.heap.objs.size ≤ it) (h2 : ∀ x c, X.env.cells.lookup x = some c → c ≠ it) (h3 : ∀ p ∈ X.pn ++ pins, p.1 ≠ it) : Inv X pins σ H { s with heap := h', toks := t' } := by
  have nit : ∀ b u, H b = some u → b ≠ it := fun b u e z => by rw [z, hn] at e; cases e
  refine I.step (g' := s.gens) (d' := s.drawn) (ch := [it]) (fun b hb => ?_) (fun b o _ _ hc e _ => k b o (fun z => hc (by simp [z])) e) (fun b o _ _ hc e _ => ⟨o.slots, k b o (fun z => hc (by simp [z])) e⟩) (fun _ _ _ _ n => n)
    (fun b o hc e => ⟨o, k b o (fun z => hc (by simp [z])) e⟩) (fun _ _ e => e) (fun _ _ _ e => e) (fun b ps e => ⟨#[], by rw [e]; simp⟩) (fun m hm => ?_) (fun b u e => ?_) I.bare
  · have e : b = it := by simpa using hb
    subst e
    exact ⟨h1, hL, h2, h3⟩
  · obtain ⟨o, es, ep, ho, r⟩ := hm
    exact ⟨o, es, ep, k _ o (Ne.symm hL) ho, r⟩
  · refine (I.hok b u e).stay (fun c v hc q => k c v ?_ q) (fun _ q => q) fun _ _ q => q
    rcases hc with z | z
    · rw [z]; exact nit b u e
    · exact nit c _ z
theorem Inv.tok (I : Inv X pins σ H s) (t : Nat) : Inv X pins σ H { s with toks := t } := I.un (h' := s.heap) (t' := t) Un.refl I.hok
theorem Inv.kept {t' : Nat} (I : Inv X pins σ H s) (k : ∀ b u, s.heap.get? b = some u → h'.get? b = some u) : Inv X pins σ H { s with heap := h', toks := t' } := I.un (Un.kept k) (I.hok.kept k)
theorem Inv.laid {a : Addr} {o : HO} {t' : Nat} (I : Inv X pins σ H s) (k : ∀ b u, s.heap.get? b = some u → h'.get? b = some u) (hp : s.heap.objs.size ≤ a) (new : ObjOk X.prog X.w (upd H a o) h' a o) :
    Inv X pins σ (upd H a o) { s with heap := h', toks := t' } := I.un (Un.laid k hp (I.hok.fresh hp)) (I.hok.laid k hp new)
theorem Inv.write {x e : Addr} {o : HO} {t' : Nat} (I : Inv X pins σ H s) (mu : Mut (H x)) (he : e = x ∨ H e = some (.own x)) (k : ∀ b u, b ≠ e → s.heap.get? b = some u → h'.get? b = some u) (heo : ∃ u, h'.get? e = some u)
    (new : ObjOk X.prog X.w (upd H x o) h' x o) : Inv X pins σ (upd H x o) { s with heap := h', toks := t' } := I.un (Un.write mu he k heo) (I.hok.write mu he k heo new)
theorem Inv.pins_of {pins' : List (Addr × Obj)} (I : Inv X pins σ H s) (h : ∀ p ∈ pins', s.heap.get? p.1 = some p.2 ∧ H p.1 = none ∧ p.1 ≠ X.env.locals ∧ p.1 ∉ X.fs ∧ ∀ v, p.2.data ≠ .cell v) : Inv X pins' σ H s :=
  ⟨I.ok, I.os, I.bare, I.base, I.loc, I.cell, I.free, I.freeC, fun p hp => (List.mem_append.mp hp).elim (fun z => I.pin p (List.mem_append_left _ z)) (h p), I.hok, I.len⟩
theorem nodup_ix {N : List Str} (hN : N.Nodup) {i j : Nat} {x : Str} (a : N[i]? = some x) (b : N[j]? = some x) : i = j := by
  obtain ⟨h1, e1⟩ := List.getElem?_eq_some_iff.mp a
  obtain ⟨h2, e2⟩ := List.getElem?_eq_some_iff.mp b
  exact (List.getElem_inj hN).mp (e1.trans e2.symm)
theorem store_ok2 {M : Model} {A : Around} {E : Value → Shared → Prop} {i : Nat} {x : Str} {v : V} {u : Value} {Q : Unit → Shared → Prop} (I : Inv X pins σ H s) (hN : X.N.Nodup) (hi : X.N[i]? = some x) (hx : Loc X.env.scope x) (r : RelV v u)
    (h : ∀ s', Inv X pins (σ.set i (some v)) H s' → (∃ a, Heap.SameBut a s.heap s'.heap ∧ (a = X.env.locals ∨ X.env.cells.lookup x = some a)) → Q () s') (hf : X.fn x = true ∨ X.env.scope.names.lookup x = some .local := by first | exact .inl rfl | exact .inr rfl | assumption) : wpAny M A (storeName X.env x u) Q E s := by
  obtain ⟨m, hn, hl⟩ := id I.loc
  have hcls : (X.env.scope.kind == .class || (X.env.scope.kind == .module && X.env.locals != X.env.globals)) = false := by rw [I.ok.kind]; rfl
  have hiσ : i < σ.length := by rw [I.len]; exact (List.getElem?_eq_some_iff.mp hi).1
  have cne := I.cne
  have tracked : ∀ {a : Addr} {h' : Heap}, (∃ o, s.heap.get? a = some o ∧ H a = none) → Heap.SameBut a s.heap h' → HOk X.prog X.w H h' := fun {a h'} ha hs b ob e => by
    obtain ⟨_, _, hfree⟩ := ha
    refine (I.hok b ob e).stay (fun c w' hc q => (hs.2 c ?_).trans q) (fun _ q => q) fun _ _ q => q
    rintro rfl
    rcases hc with rfl | hc
    · rw [hfree] at e; cases e
    · rw [hfree] at hc; cases hc
  rcases hx with hk | hk
  · refine wpAny_storeName_local hk hn (fun h' hn' hs => ?_) hcls
    obtain ⟨oL, _, _, hoL, _⟩ := id hn
    refine h _ ⟨I.ok, I.os, I.bare, ⟨fun b o e n hb hx => ?_, fun b o e n hb hx => ?_, I.base.free, fun b o e hx => ?_, I.base.tups, I.base.frzs, I.base.tbls⟩, ⟨_, hn', fun j y v' e1 e2 e3 => ?_⟩, fun y c e => ?_, I.free, I.freeC, fun p hp => ?_, tracked ⟨oL, hoL, I.free⟩ hs, by simpa using I.len⟩ ⟨_, hs, .inl rfl⟩
    · exact (hs.2 b (Nat.ne_of_lt (Nat.lt_of_lt_of_le (Heap.lt_size e) I.ok.above))).trans (I.base.keep b o e n hb hx)
    · obtain ⟨sl, e1⟩ := I.base.slot b o e n hb hx
      exact ⟨sl, (hs.2 b (Nat.ne_of_lt (Nat.lt_of_lt_of_le (Heap.lt_size e) I.ok.above))).trans e1⟩
    · obtain ⟨o', e1⟩ := I.base.there b o e hx
      exact ⟨o', (hs.2 b (Nat.ne_of_lt (Nat.lt_of_lt_of_le (Heap.lt_size e) I.ok.above))).trans e1⟩
    · by_cases hj : j = i
      · subst hj
        rw [hi] at e1; cases e1
        rw [List.getElem?_set_self hiσ] at e2
        cases e2
        exact ⟨u, r, .inl ⟨hk, by simp⟩⟩
      · rw [List.getElem?_set_ne (Ne.symm hj)] at e2
        obtain ⟨u', r', q⟩ := hl j y v' e1 e2 e3
        refine ⟨u', r', ?_⟩
        rcases q with ⟨k, e⟩ | ⟨k, c, e, z⟩
        · refine .inl ⟨k, ?_⟩
          have : y ≠ x := fun e => hj (nodup_ix hN e1 (e ▸ hi))
          simp [this, e]
        · exact .inr ⟨k, c, e, z.sameBut hs (cne y c e)⟩
    · obtain ⟨w', z⟩ := I.cell y c e
      exact ⟨w', z.sameBut hs (cne y c e)⟩
    · obtain ⟨e, n, ne, nf, d⟩ := I.pin p hp
      exact ⟨(hs.2 p.1 ne).trans e, n, ne, nf, d⟩
  · have hfn : X.fn x = true := by
      rcases hf with z | z
      · exact z
      · rw [z] at hk; cases hk
    obtain ⟨c, hc⟩ := I.ok.has x (.inl hk)
    obtain ⟨w', z⟩ := I.cell x c hc
    refine wpAny_storeName_cell I.ok.kind hk hc z (fun h' hc' hs => ?_)
    obtain ⟨oc, hoc, hocd⟩ := id z
    refine h { s with heap := h' } ⟨I.ok, I.os, I.bare, ⟨fun b o e n hb hx => ?_, fun b o e n hb hx => ?_, I.base.free, fun b o e hx => ?_, I.base.tups, I.base.frzs, I.base.tbls⟩, ⟨m, hn.sameBut hs (Ne.symm (cne x c hc)), fun j y v' e1 e2 e3 => ?_⟩, fun y c' e => ?_, I.free, I.freeC, fun p hp => ?_, tracked ⟨oc, hoc, I.freeC x c hc⟩ hs, by simpa using I.len⟩ ⟨c, hs, .inr hc⟩
    · exact (hs.2 b (Nat.ne_of_lt (Nat.lt_of_lt_of_le (Heap.lt_size e) (I.ok.cab x c hfn hc)))).trans (I.base.keep b o e n hb hx)
    · obtain ⟨sl, e1⟩ := I.base.slot b o e n hb hx
      exact ⟨sl, (hs.2 b (Nat.ne_of_lt (Nat.lt_of_lt_of_le (Heap.lt_size e) (I.ok.cab x c hfn hc)))).trans e1⟩
    · obtain ⟨o', e1⟩ := I.base.there b o e hx
      exact ⟨o', (hs.2 b (Nat.ne_of_lt (Nat.lt_of_lt_of_le (Heap.lt_size e) (I.ok.cab x c hfn hc)))).trans e1⟩
    · by_cases hj : j = i
      · subst hj
        rw [hi] at e1; cases e1
        rw [List.getElem?_set_self hiσ] at e2
        cases e2
        exact ⟨u, r, .inr ⟨.inl hk, c, hc, hc'⟩⟩
      · rw [List.getElem?_set_ne (Ne.symm hj)] at e2
        obtain ⟨u', r', q⟩ := hl j y v' e1 e2 e3
        refine ⟨u', r', ?_⟩
        rcases q with q | ⟨k, c', e, z'⟩
        · exact .inl q
        · refine .inr ⟨k, c', e, z'.sameBut hs ?_⟩
          rintro rfl
          exact hj (nodup_ix hN e1 (I.ok.inj _ _ _ e hc ▸ hi))
    · by_cases hcc : c' = c
      · subst hcc; exact ⟨_, hc'⟩
      · obtain ⟨w2, z2⟩ := I.cell y c' e
        exact ⟨w2, z2.sameBut hs hcc⟩
    · obtain ⟨e, n, ne, nf, d⟩ := I.pin p hp
      refine ⟨(hs.2 p.1 ?_).trans e, n, ne, nf, d⟩
      intro q
      rw [q, hoc] at e
      have q' : oc = p.2 := Option.some.inj e
      exact d w' (by rw [← q']; exact hocd)
theorem store_ok {M : Model} {A : Around} {E : Value → Shared → Prop} {i : Nat} {x : Str} {v : V} {u : Value} {Q : Unit → Shared → Prop} (I : Inv X pins σ H s) (hN : X.N.Nodup) (hi : X.N[i]? = some x) (hx : Loc X.env.scope x) (r : RelV v u)
    (h : ∀ s', Inv X pins (σ.set i (some v)) H s' → Q () s') (hf : X.fn x = true ∨ X.env.scope.names.lookup x = some .local := by first | exact .inl rfl | exact .inr rfl | assumption) : wpAny M A (storeName X.env x u) Q E s :=
  store_ok2 I hN hi hx r (fun s' I' _ => h s' I') hf
theorem Inv.call' {s' : Shared} {ch : List Addr} (I : Inv X pins σ H s) (ho : s'.os = s.os) (u : Un (frs X.stack) ch H H' s.heap s'.heap) (hok : HOk X.prog X.w H' s'.heap) (hg : AllBare s'.gens)
    (hch : ∀ b ∈ ch, (b ∈ X.ex ∨ X.s₀.heap.objs.size ≤ b) ∧ b ≠ X.env.locals ∧ (∀ x c, X.env.cells.lookup x = some c → c ≠ b) ∧ ∀ p ∈ X.pn ++ pins, p.1 ≠ b) : Inv X pins σ H' s' := by
  obtain ⟨h', g', d', t', o'⟩ := s'
  have e : o' = s.os := ho
  subst e
  exact I.call (g' := g') (t' := t') (d' := d') u hok hg hch
end
noncomputable abbrev XK := Value → Option Addr → Hp → Prop
noncomputable abbrev St := List (Option V)
noncomputable abbrev VK := V → Hp → Prop
noncomputable abbrev TE := St → Hp → VK → Prop
noncomputable abbrev TT := St → Hp → (Bool → Hp → Prop) → Prop
noncomputable abbrev TA := St → Hp → (List V → Hp → Prop) → Prop
structure Ends where
  nx : St → Hp → Prop
  rt : VK
  bk : St → Hp → Prop := fun _ _ => False
  ct : St → Hp → Prop := fun _ _ => False
noncomputable abbrev TS := Ends → St → Hp → Prop
noncomputable def EP (X : Cx) (pins : List (Addr × Obj)) (σ : St) (Q : VK) (u : Value) (s' : Shared) : Prop := ∃ v H', Inv X pins σ H' s' ∧ RelV v u ∧ Q v H'
noncomputable def TP (X : Cx) (pins : List (Addr × Obj)) (σ : St) (Q : Bool → Hp → Prop) (b : Bool) (s' : Shared) : Prop := ∃ H', Inv X pins σ H' s' ∧ Q b H'
noncomputable def AP (X : Cx) (pins : List (Addr × Obj)) (σ : St) (Q : List V → Hp → Prop) (us : List Value) (s' : Shared) : Prop := ∃ vs H', Inv X pins σ H' s' ∧ Vals vs us ∧ Q vs H'
noncomputable def SP (X : Cx) (pins : List (Addr × Obj)) (D : Ends) (f : Flow) (s' : Shared) : Prop :=
  match f with
  | .next => ∃ σ' H', Inv X pins σ' H' s' ∧ D.nx σ' H'
  | .brk => ∃ σ' H', Inv X pins σ' H' s' ∧ D.bk σ' H'
  | .cont => ∃ σ' H', Inv X pins σ' H' s' ∧ D.ct σ' H'
  | .ret u => ∃ v σ' H', Inv X pins σ' H' s' ∧ RelV v u ∧ D.rt v H'
noncomputable def PE (X : Cx) (e : Expr) (t : TE) : Prop :=
  ∀ (pins : List (Addr × Obj)) (s : Shared) (σ : St) (H : Hp) (Q : VK), Inv X pins σ H s → t σ H Q → wpAny (model X.prog X.w) X.A (eval e X.env) (EP X pins σ Q) X.xe s
noncomputable def PT (X : Cx) (e : Expr) (t : TT) : Prop :=
  ∀ (pins : List (Addr × Obj)) (s : Shared) (σ : St) (H : Hp) (Q : Bool → Hp → Prop), Inv X pins σ H s → t σ H Q → wpAny (model X.prog X.w) X.A (isTrue e X.env (eval e X.env)) (TP X pins σ Q) X.xe s
noncomputable def PW (X : Cx) (e : Expr) (t : TT) : Prop :=
  ∀ (whole : Sem Value) (pins : List (Addr × Obj)) (s : Shared) (σ : St) (H : Hp) (Q : Bool → Hp → Prop), Inv X pins σ H s → t σ H Q → wpAny (model X.prog X.w) X.A (isTrue e X.env whole) (TP X pins σ Q) X.xe s
theorem PW.pt {X : Cx} {e : Expr} {t : TT} (h : PW X e t) : PT X e t := h _
noncomputable def PA (X : Cx) (es : List Expr) (t : TA) : Prop :=
  ∀ (pos : Pos) (pins : List (Addr × Obj)) (s : Shared) (σ : St) (H : Hp) (Q : List V → Hp → Prop), Inv X pins σ H s → t σ H Q → wpAny (model X.prog X.w) X.A (spliced (backTo pos (starEach es X.env))) (AP X pins σ Q) X.xe s
noncomputable def PS (X : Cx) (st : Stmt) (t : TS) : Prop :=
  ∀ (pins : List (Addr × Obj)) (s : Shared) (σ : St) (H : Hp) (D : Ends), Inv X pins σ H s → t D σ H → wpAny (model X.prog X.w) X.A (exec st X.env) (SP X pins D) X.xe s
noncomputable def PSs (X : Cx) (st : List Stmt) (t : TS) : Prop :=
  ∀ (pins : List (Addr × Obj)) (s : Shared) (σ : St) (H : Hp) (D : Ends), Inv X pins σ H s → t D σ H → wpAny (model X.prog X.w) X.A (execs st X.env) (SP X pins D) X.xe s
theorem thn {α : Type} {t : Sem α} {Q Q' : α → Shared → Prop} {M : Model} {A : Around} {E : Value → Shared → Prop} {s : Shared} (h : wpAny M A t Q E s) (hQ : ∀ a s, Q a s → Q' a s) : wpAny M A t Q' E s := wpAny_mono h hQ fun _ _ x => x
end L2
namespace L2
open PySem PySem.Spec PyProof.Rows
section
variable {X : Cx}
noncomputable def tVar (i : Nat) : TE := fun σ H Q => ∃ v, σ[i]? = some (some v) ∧ Q v H
noncomputable def tC (v : V) : TE := fun _ H Q => Q v H
theorem pe_var {i : Nat} {x : Str} {pos : Pos} (hN : X.N[i]? = some x) (hv : Vis X.env.scope x) (hd : (x == ("__debug__" : Str)) = false := by decide) (hcd : (x == ("__classdict__" : Str)) = false := by decide) : PE X (.Name x pos) (tVar i) := by
  intro pins s σ H Q I h
  obtain ⟨v, e, h⟩ := h
  obtain ⟨m, hn, hl⟩ := I.loc
  obtain ⟨u, r, l⟩ := hl i x v hN e hv
  have fin : EP X pins σ Q u s := ⟨v, H, I, r, h⟩
  rcases l with ⟨hk, hm⟩ | ⟨hk, c, hc, hcell⟩
  · exact wpAny_Name (wpAny_loadName_local I.ok.kind hk hn hm fin) hd
  · rcases hk with hk | hk
    · exact wpAny_Name (wpAny_loadName_cell I.ok.kind hk hc hcell fin) hd
    · exact wpAny_Name (wpAny_loadName_free I.ok.kind hk hc hcell fin hcd) hd
theorem pe_int {i j pos} : PE X (.Constant (.int i) j pos) (tC (.int i)) := fun _ _ _ H _ I h => wpAny_Constant_int ⟨.int i, H, I.tok _, ⟨_, rfl⟩, h⟩
theorem pe_bl {b j pos} : PE X (.Constant (.bool b) j pos) (tC (.bl b)) := fun _ _ _ H _ I h => Constant_bool ⟨.bl b, H, I, rfl, h⟩
theorem pe_non {j pos} : PE X (.Constant .none j pos) (tC .non) := fun _ _ _ H _ I h => Constant_none ⟨.non, H, I, rfl, h⟩
theorem pe_str {x j pos} : PE X (.Constant (.str x) j pos) (tC (.str x)) := fun _ _ _ H _ I h => Calls.Constant_str ⟨.str x, H, I.tok _, ⟨_, rfl⟩, h⟩
noncomputable def Gl (X : Cx) (x : Str) : Prop := X.env.kindOf x = some .globalImplicit
theorem ld_glob {E : Value → Shared → Prop} {pins : List (Addr × Obj)} {s : Shared} {σ : St} {H : Hp} {x : Str} {u : Value} {pos : Pos} {Q : Value → Shared → Prop} (I : Inv X pins σ H s) (hg : Gl X x) (hm : X.mg x = some u) (h : Q u s)
    (hd : (x == ("__debug__" : Str)) = false := by decide) : wpAny (model X.prog X.w) X.A (eval (.Name x pos) X.env) Q E s :=
  Calls.Name_function_global I.ok.kind hg (Calls.loadGlobal_global (by rw [I.ok.glob]; exact I.mod.glob.keeps I.bk) hm h) hd
theorem ld_blt {E : Value → Shared → Prop} {pins : List (Addr × Obj)} {s : Shared} {σ : St} {H : Hp} {x : Str} {u : Value} {pos : Pos} {Q : Value → Shared → Prop} (I : Inv X pins σ H s) (hg : Gl X x) (hm : X.mg x = none) (hv : bootBuiltins x = some u) (h : Q u s)
    (hn : x ≠ "__name__" := by decide) (hd : (x == ("__debug__" : Str)) = false := by decide) : wpAny (model X.prog X.w) X.A (eval (.Name x pos) X.env) Q E s := by
  obtain ⟨mb, h1, h2⟩ := I.mod.blt
  exact Calls.Name_function_global I.ok.kind hg (Calls.loadGlobal_builtin (by rw [I.ok.glob]; exact I.mod.glob.keeps I.bk) hm (by rw [I.ok.blt]; exact h1.keeps I.bk) ((h2 x hn).trans hv) h) hd
theorem pe_glob {x : Str} {v : V} {u : Value} {pos : Pos} (hg : Gl X x) (hm : X.mg x = some u) (r : RelV v u) (hd : (x == ("__debug__" : Str)) = false := by decide) : PE X (.Name x pos) (tC v) :=
  fun _ _ _ H _ I h => ld_glob I hg hm ⟨v, H, I, r, h⟩ hd
theorem pe_bltn {x : Str} {v : V} {u : Value} {pos : Pos} (hg : Gl X x) (hm : X.mg x = none) (hv : bootBuiltins x = some u) (r : RelV v u) (hn : x ≠ "__name__" := by decide) (hd : (x == ("__debug__" : Str)) = false := by decide) : PE X (.Name x pos) (tC v) :=
  fun _ _ _ H _ I h => ld_blt I hg hm hv ⟨v, H, I, r, h⟩ hn hd
variable {a b : Expr} {ta tb : TE} {pos : Pos}
variable {tA tB' : TT} {rest : List Expr}
noncomputable def tAnd (t u : TT) : TT := fun σ H Q => t σ H fun c H1 => if c = true then u σ H1 Q else Q false H1
noncomputable def tOr (t u : TT) : TT := fun σ H Q => t σ H fun c H1 => if c = true then Q true H1 else u σ H1 Q
noncomputable def tNot (t : TT) : TT := fun σ H Q => t σ H fun c H1 => Q (!c) H1
theorem pw_and1 (ha : PT X a tA) : PW X (.BoolOp .And [a] pos) tA := by
  intro wh pins s σ H Q I h
  refine isTrue_and (thn (ha pins s σ H Q I h) fun c s1 e => ?_)
  cases c with
  | true => exact isTrue_and_nil e
  | false => exact e
theorem pw_or1 (ha : PT X a tA) : PW X (.BoolOp .Or [a] pos) tA := by
  intro wh pins s σ H Q I h
  refine isTrue_or (thn (ha pins s σ H Q I h) fun c s1 e => ?_)
  cases c with
  | false => exact isTrue_or_nil e
  | true => exact e
theorem pw_and (ha : PT X a tA) (hb : PW X (.BoolOp .And (b :: rest) pos) tB') : PW X (.BoolOp .And (a :: b :: rest) pos) (tAnd tA tB') := by
  intro wh pins s σ H Q I h
  refine isTrue_and (thn (ha pins s σ H _ I h) fun c s1 ⟨H1, I1, q1⟩ => ?_)
  cases c with
  | true => exact hb wh pins s1 σ H1 Q I1 q1
  | false => exact ⟨H1, I1, q1⟩
theorem pw_or (ha : PT X a tA) (hb : PW X (.BoolOp .Or (b :: rest) pos) tB') : PW X (.BoolOp .Or (a :: b :: rest) pos) (tOr tA tB') := by
  intro wh pins s σ H Q I h
  refine isTrue_or (thn (ha pins s σ H _ I h) fun c s1 ⟨H1, I1, q1⟩ => ?_)
  cases c with
  | true => exact ⟨H1, I1, q1⟩
  | false => exact hb wh pins s1 σ H1 Q I1 q1
theorem pt_not (ha : PT X a tA) : PT X (.UnaryOp .Not a pos) (tNot tA) := by
  intro pins s σ H Q I h
  exact isTrue_not (ha pins s σ H (fun c H1 => Q (!c) H1) I h)
noncomputable def tAndV (ta tb : TE) : TE := fun σ H Q => ta σ H fun x H1 => ∃ c, x = .bl c ∧ if c = true then tb σ H1 Q else Q (.bl false) H1
noncomputable def tNotV (ta : TE) : TE := fun σ H Q => ta σ H fun x H1 => ∃ c, x = .bl c ∧ Q (.bl (!c)) H1
theorem pe_one {op} {t : TE} (h : PE X a t) : PE X (.BoolOp op [a] pos) t := fun pins s σ H Q I hw => BoolOp_one (h pins s σ H Q I hw)
theorem pe_and (ha : PE X a ta) (hb : PE X (.BoolOp .And (b :: rest) pos) tb) : PE X (.BoolOp .And (a :: b :: rest) pos) (tAndV ta tb) := by
  intro pins s σ H Q I h
  refine BoolOp_and (thn (ha pins s σ H _ I h) fun v s1 ⟨x, H1, I1, r1, q1⟩ => ?_)
  obtain ⟨c, rfl, q1⟩ := q1
  cases r1
  refine wpAny_truthy_bool ?_
  cases c with
  | true => exact hb pins s1 σ H1 Q I1 q1
  | false => exact ⟨.bl false, H1, I1, rfl, q1⟩
theorem pe_not (ha : PE X a ta) : PE X (.UnaryOp .Not a pos) (tNotV ta) := by
  intro pins s σ H Q I h
  refine UnaryOp_ (thn (ha pins s σ H _ I h) fun v s1 ⟨x, H1, I1, r1, q1⟩ => ?_)
  obtain ⟨c, rfl, q1⟩ := q1
  cases r1
  exact not_of (wpAny_truthy_bool ⟨.bl (!c), H1, I1, rfl, q1⟩)
end
end L2
namespace L2
open PySem PySem.Spec PyProof.Rows
noncomputable def SqL (K : PySem.W.Frag) (H : Hp) (a : Addr) (xs : List V) : Prop :=
  Rd H a (.lst xs) ∨
    ∃ (o : Obj) (its : Array Value) (n : Nat), K.lookup a = some o ∧ o.cls = .type "list" ∧ o.dict = none ∧ o.data = .seq its n ∧ its.size ≤ sizeLine ∧ Vals xs its.toList
noncomputable def SqT (K : PySem.W.Frag) (H : Hp) (a : Addr) (xs : List V) : Prop :=
  Rd H a (.tup xs) ∨
    ∃ (o : Obj) (its : Array Value) (n : Nat), K.lookup a = some o ∧ o.cls = .type "tuple" ∧ o.data = .seq its n ∧ its.size ≤ sizeLine ∧ Vals xs its.toList
noncomputable def absV : Value → Option V
  | .none => some .non
  | .bool b => some (.bl b)
  | .int i _ => some (.int i)
  | .str x _ => some (.str x)
  | .bytes b _ => some (.byt b)
  | .float b _ => some (.flt b)
  | .ref a => some (.ref a)
  | .type n => some (.ty n)
  | _ => none
theorem RelV.abs {x : V} {u : Value} (r : RelV x u) : absV u = some x := by
  cases x with
  | non => cases r; rfl
  | bl _ => cases r; rfl
  | int _ => obtain ⟨t, rfl⟩ := r; rfl
  | str _ => obtain ⟨t, rfl⟩ := r; rfl
  | byt _ => obtain ⟨t, rfl⟩ := r; rfl
  | flt _ => obtain ⟨t, rfl⟩ := r; rfl
  | ref _ => cases r; rfl
  | ty _ => cases r; rfl
theorem RelV.inj {x y : V} {u : Value} (r : RelV x u) (q : RelV y u) : x = y := Option.some.inj (r.abs.symm.trans q.abs)
theorem Vals.inj : ∀ {xs ys : List V} {us : List Value}, Vals xs us → Vals ys us → xs = ys
  | _, _, _, .nil, .nil => rfl
  | _, _, _, .cons r t, .cons r' t' => by rw [r.inj r', Vals.inj t t']
section
variable {X : Cx} {pins : List (Addr × Obj)} {σ : St} {H : Hp} {s : Shared} {a : Addr} {xs ys : List V}
theorem SqL.of {K : PySem.W.Frag} (h : H a = some (.lst xs)) : SqL K H a xs := .inl (.inl h)
theorem SqT.of {K : PySem.W.Frag} (h : H a = some (.tup xs)) : SqT K H a xs := .inl (.inl h)
theorem Inv.list (I : Inv X pins σ H s) (h : SqL X.K H a xs) : ∃ its : List Value, Vals xs its ∧ PlainL s.heap a its.toArray ∧ xs.length ≤ sizeLine := by
  rcases h with h | ⟨o, its, n, hk, hc, hd, hs, hz, r⟩
  · obtain ⟨z, its, n, r, e⟩ := h.ok I.hok
    exact ⟨its, r, ⟨_, n, e, rfl, rfl, rfl⟩, z⟩
  · refine ⟨its.toList, r, ⟨o, n, I.kIn a o hk, hc, hd, by simpa using hs⟩, ?_⟩
    have e := r.length
    simp only [Array.length_toList] at e
    omega
theorem Inv.tuple (I : Inv X pins σ H s) (h : SqT X.K H a xs) : ∃ its : List Value, Vals xs its ∧ IsTup s.heap a its.toArray ∧ xs.length ≤ sizeLine := by
  rcases h with h | ⟨o, its, n, hk, hc, hs, hz, r⟩
  · obtain ⟨z, its, r, p⟩ := h.ok I.hok
    exact ⟨its, r, p, z⟩
  · refine ⟨its.toList, r, ⟨o, I.kIn a o hk, hc, n, by simpa using hs⟩, ?_⟩
    have e := r.length
    simp only [Array.length_toList] at e
    omega
theorem Inv.list_inj (I : Inv X pins σ H s) (h : SqL X.K H a xs) (h' : SqL X.K H a ys) : xs = ys := by
  obtain ⟨its, r, ⟨o, n, e, _, _, d⟩, _⟩ := I.list h
  obtain ⟨its', r', ⟨o', n', e', _, _, d'⟩, _⟩ := I.list h'
  rw [e] at e'; cases e'
  rw [d] at d'
  injection d' with d1 _
  have : its = its' := by simpa using congrArg Array.toList d1
  subst this
  exact r.inj r'
theorem Inv.tuple_inj (I : Inv X pins σ H s) (h : SqT X.K H a xs) (h' : SqT X.K H a ys) : xs = ys := by
  obtain ⟨its, r, ⟨o, e, _, n, d⟩, _⟩ := I.tuple h
  obtain ⟨its', r', ⟨o', e', _, n', d'⟩, _⟩ := I.tuple h'
  rw [e] at e'; cases e'
  rw [d] at d'
  injection d' with d1 _
  have : its = its' := by simpa using congrArg Array.toList d1
  subst this
  exact r.inj r'
end
noncomputable abbrev Cx.wish (X : Cx) (E : Value → Shared → Prop) : Cx := { X with xe := E }
noncomputable abbrev Cx.nox (X : Cx) : Cx := X.wish fun _ _ => False
theorem Cx.Ok.wish {X : Cx} (ok : X.Ok) (E : Value → Shared → Prop) : (X.wish E).Ok :=
  ⟨ok.mod, ok.kind, ok.glob, ok.blt, ok.above, ok.inj, ok.has, ok.cab, ok.hd, ok.frames, ok.stk, ok.exf, ok.bs, ok.bsz, ok.noex, ok.exfs, ok.funs, ok.frf⟩
theorem Cx.Ok.unwish {X : Cx} {E : Value → Shared → Prop} (ok : (X.wish E).Ok) : X.Ok :=
  ⟨ok.mod, ok.kind, ok.glob, ok.blt, ok.above, ok.inj, ok.has, ok.cab, ok.hd, ok.frames, ok.stk, ok.exf, ok.bs, ok.bsz, ok.noex, ok.exfs, ok.funs, ok.frf⟩
section
variable {X : Cx} {pins : List (Addr × Obj)} {σ : St} {H : Hp} {s : Shared} {E : Value → Shared → Prop}
theorem Inv.wish (I : Inv X pins σ H s) (E : Value → Shared → Prop) : Inv (X.wish E) pins σ H s := ⟨I.ok.wish E, I.os, I.bare, I.base, I.loc, I.cell, I.free, I.freeC, I.pin, I.hok, I.len⟩
theorem Inv.unwish (I : Inv (X.wish E) pins σ H s) : Inv X pins σ H s := ⟨I.ok.unwish, I.os, I.bare, I.base, I.loc, I.cell, I.free, I.freeC, I.pin, I.hok, I.len⟩
theorem SP.unwish {D : Ends} {f : Flow} {s' : Shared} (h : SP (X.wish E) pins D f s') : SP X pins D f s' := by
  cases f with
  | next => obtain ⟨σ', H', I, q⟩ := h; exact ⟨σ', H', I.unwish, q⟩
  | brk => obtain ⟨σ', H', I, q⟩ := h; exact ⟨σ', H', I.unwish, q⟩
  | cont => obtain ⟨σ', H', I, q⟩ := h; exact ⟨σ', H', I.unwish, q⟩
  | ret u => obtain ⟨v, σ', H', I, r, q⟩ := h; exact ⟨v, σ', H', I.unwish, r, q⟩
theorem PSs.nox {st : List Stmt} {t : TS} (h : PSs X.nox st t) : PSs X st t := fun pins s σ H D I hw =>
  wpAny_mono (h pins s σ H D (I.wish _) hw) (fun _ _ q => q.unwish) fun _ _ z => False.elim z
end
section
variable {X : Cx} {st : Stmt} {rest : List Stmt} {t u : TS} {e : Expr} {te : TE} {pos : Pos}
noncomputable def tNext : TS := fun D σ H => D.nx σ H
noncomputable def tSeq (t u : TS) : TS := fun D σ H => t { D with nx := u D } σ H
theorem pss_nil : PSs X [] tNext := fun _ _ σ H _ I h => wpAny_execs_nil ⟨σ, H, I, h⟩
theorem pss_cons (h1 : PS X st t) (h2 : PSs X rest u) : PSs X (st :: rest) (tSeq t u) := by
  intro pins s σ H D I h
  refine wpAny_execs_cons (thn (h1 pins s σ H { D with nx := u D } I h) fun f s1 q => ?_)
  cases f with
  | next =>
    obtain ⟨σ', H', I', q⟩ := q
    exact h2 pins s1 σ' H' D I' q
  | ret v => exact q
  | brk => exact q
  | cont => exact q
theorem pss_one (h1 : PS X st t) : PSs X [st] t := by
  intro pins s σ H D I h
  refine wpAny_execs_cons (thn (h1 pins s σ H D I h) fun f s1 q => ?_)
  cases f with
  | next => exact wpAny_execs_nil q
  | ret v => exact q
  | brk => exact q
  | cont => exact q
noncomputable def tRet (te : TE) : TS := fun D σ H => te σ H D.rt
theorem ps_ret (he : PE X e te) : PS X (.Return (some e) pos) (tRet te) := by
  intro pins s σ H D I h
  exact wpAny_Return_some (thn (he pins s σ H _ I h) fun v s1 ⟨x, H1, I1, r1, q1⟩ => ⟨x, σ, H1, I1, r1, q1⟩)
noncomputable def tIfS (c : TT) (t u : TS) : TS := fun D σ H => c σ H fun b H1 => if b = true then t D σ H1 else u D σ H1
theorem ps_if {c : Expr} {a b : List Stmt} {tc : TT} (hc : PT X c tc) (ha : PSs X a t) (hb : PSs X b u) : PS X (.If c a b pos) (tIfS tc t u) := by
  intro pins s σ H D I h
  refine wpAny_If (thn (hc pins s σ H _ I h) fun d s1 ⟨H1, I1, q1⟩ => ?_)
  cases d with
  | true => exact ha pins s1 σ H1 D I1 q1
  | false => exact hb pins s1 σ H1 D I1 q1
end
noncomputable abbrev TG := V → St → Hp → (St → Hp → Prop) → Prop
noncomputable abbrev TGs := List V → St → Hp → (St → Hp → Prop) → Prop
noncomputable def PG (X : Cx) (target : Expr) (t : TG) : Prop :=
  ∀ (pins : List (Addr × Obj)) (s : Shared) (σ : St) (H : Hp) (v : V) (u : Value) (Q : St → Hp → Prop), Inv X pins σ H s → RelV v u → t v σ H Q →
    wpAny (model X.prog X.w) X.A (assign target X.env u) (fun _ s' => ∃ σ' H', Inv X pins σ' H' s' ∧ Q σ' H') X.xe s
noncomputable def PGs (X : Cx) (ts : List Expr) (t : TGs) : Prop :=
  ∀ (pins : List (Addr × Obj)) (s : Shared) (σ : St) (H : Hp) (vs : List V) (us : List Value) (Q : St → Hp → Prop), Inv X pins σ H s → Vals vs us → t vs σ H Q →
    wpAny (model X.prog X.w) X.A (assignInOrder ((assignEach ts X.env).map (·.2)) us) (fun _ s' => ∃ σ' H', Inv X pins σ' H' s' ∧ Q σ' H') X.xe s
noncomputable abbrev TSet := V → V → V → Hp → (Hp → Prop) → Prop
noncomputable def PSet (X : Cx) (t : TSet) : Prop :=
  ∀ (pins : List (Addr × Obj)) (s : Shared) (σ : St) (H : Hp) (o i v : V) (ov iv u : Value) (Q : Hp → Prop), Inv X pins σ H s → RelV o ov → RelV i iv → RelV v u → t o i v H Q →
    wpAny (model X.prog X.w) X.A (setItem ov iv u) (fun _ s' => ∃ H', Inv X pins σ H' s' ∧ Q H') X.xe s
section
variable {X : Cx} {pos : Pos}
noncomputable def gName (i : Nat) : TG := fun v σ H Q => Q (σ.set i (some v)) H
theorem pg_name {i : Nat} {x : Str} (hN : X.N.Nodup) (hi : X.N[i]? = some x) (hx : Loc X.env.scope x) (hf : X.fn x = true ∨ X.env.scope.names.lookup x = some .local := by first | exact .inl rfl | exact .inr rfl | assumption) : PG X (.Name x pos) (gName i) := by
  intro pins s σ H v u Q I r h
  exact wpAny_assign_Name (store_ok I hN hi hx r (fun s' I' => ⟨_, H, I', h⟩) hf)
noncomputable def gNil : TGs := fun vs σ H Q => vs = [] ∧ Q σ H
noncomputable def gCons (t : TG) (u : TGs) : TGs := fun vs σ H Q => ∃ v r, vs = v :: r ∧ t v σ H fun σ' H' => u r σ' H' Q
theorem pgs_nil : PGs X [] gNil := by
  intro pins s σ H vs us Q I r h
  obtain ⟨e, h⟩ := h
  subst e
  cases r
  exact assignInOrder_nil ⟨σ, H, I, h⟩
theorem pgs_cons {e : Expr} {es : List Expr} {t : TG} {u : TGs} (h1 : PG X e t) (h2 : PGs X es u)
    (hs : (assignEach (e :: es) X.env).map (·.2) = assign e X.env :: (assignEach es X.env).map (·.2) := by rfl) : PGs X (e :: es) (gCons t u) := by
  intro pins s σ H vs us Q I r h
  obtain ⟨v, vr, e1, h⟩ := h
  subst e1
  cases r with
  | cons r rr =>
    rw [hs]
    refine assignInOrder_cons (thn (h1 pins s σ H _ _ _ I r h) fun _ s1 ⟨σ1, H1, I1, q1⟩ => ?_)
    exact h2 pins s1 σ1 H1 _ _ Q I1 rr q1
noncomputable def gTup (K : PySem.W.Frag) (n : Nat) (t : TGs) : TG := fun v σ H Q => ∃ a xs, v = .ref a ∧ SqT K H a xs ∧ xs.length = n ∧ t xs σ H Q
theorem pg_tup {es : List Expr} {k : Nat} {t : TGs} {n : Nat} (hc : X.calm = true) (h : PGs X es t)
    (hn : (assignEach es X.env).length = n := by rfl) (hst : (assignEach es X.env).findIdx? (·.1) = none := by rfl) : PG X (.Tuple es k pos) (gTup X.K n t) := by
  intro pins s σ H v u Q I r hw
  obtain ⟨a, xs, e1, hq, hl, hw⟩ := hw
  subst e1
  cases r
  obtain ⟨its, rv, ht, hz⟩ := I.tuple hq
  refine assign_Tuple_tuple (I.ok.hd hc) ht (by simp [hn, ← hl, rv.length]) hst fun h' hx => ?_
  have I1 : Inv X pins σ H { s with heap := h' } := I.kept (t' := s.toks) fun b o e => hx b o (Nat.ne_of_lt (Heap.lt_size e)) e
  exact h pins _ σ H xs _ Q I1 (by simpa using rv) hw
noncomputable def gSub (to ti : TE) (t : TSet) : TG := fun v σ H Q => to σ H fun o H1 => ti σ H1 fun i H2 => t o i v H2 fun H3 => Q σ H3
theorem pg_sub {o i : Expr} {to ti : TE} {t : TSet} (ho : PE X o to) (hi : PE X i ti) (hs : PSet X t)
    (ha : ∀ v, assign (.Subscript o i pos) X.env v = (do
      let ov ← holding [v] (eval o X.env)
      let iv ← holding [v, ov] (eval i X.env)
      standAt pos
      holding [v, ov, iv] (setItem ov iv v)
      release [v, ov, iv] []) := by intro _; rfl) : PG X (.Subscript o i pos) (gSub to ti t) := by
  intro pins s σ H v u Q I r h
  rw [ha]
  refine wpAny_bind (wpAny_holding (thn (ho pins s σ H _ I h) fun ov s1 ⟨x, H1, I1, r1, q1⟩ => ?_))
  refine wpAny_bind (wpAny_holding (thn (hi pins s1 σ H1 _ I1 q1) fun iv s2 ⟨y, H2, I2, r2, q2⟩ => ?_))
  refine wpAny_bind (wpAny_standAt (wpAny_bind (wpAny_holding (thn (hs pins s2 σ H2 x y v ov iv u _ I2 r1 r2 r q2) fun _ s3 ⟨H3, I3, q3⟩ => ?_))))
  exact wpAny_release ⟨σ, H3, I3, q3⟩
noncomputable def tAsg (te : TE) (g : TG) : TS := fun D σ H => te σ H fun x H1 => g x σ H1 D.nx
theorem ps_asg {tg e : Expr} {te : TE} {g : TG} (he : PE X e te) (hg : PG X tg g) (hs : swapsWithSole [tg] e pos.line X.env = pure false := by rfl) (hw : swappedStores [tg] e X.env = pure none := by rfl)
    (h1 : (assignEach [tg] X.env).map (·.2) = [assign tg X.env] := by rfl) : PS X (.Assign [tg] e pos) (tAsg te g) := by
  intro pins s σ H D I h
  refine wpAny_Assign_stores (thn (he pins s σ H _ I h) fun v s1 ⟨x, H1, I1, r1, q1⟩ => ?_) hs hw
  rw [h1]
  exact thn (hg pins s1 σ H1 x v _ I1 r1 q1) fun _ s2 q => q
theorem ps_set {i : Nat} {x : Str} {e : Expr} {te : TE} {pos' : Pos} (hN : X.N.Nodup) (hi : X.N[i]? = some x) (hx : Loc X.env.scope x) (he : PE X e te) (hs : swapsWith e (some (.Name x pos')) pos.line X.env = pure false := by rfl) (hf : X.fn x = true ∨ X.env.scope.names.lookup x = some .local := by first | exact .inl rfl | exact .inr rfl | assumption) :
    PS X (.Assign [.Name x pos'] e pos) (tAsg te (gName i)) := by
  intro pins s σ H D I h
  refine wpAny_Assign_Name (thn (he pins s σ H _ I h) fun v s1 ⟨y, H1, I1, r1, q1⟩ => ?_) hs
  exact store_ok I1 hN hi hx r1 (fun s2 I2 => ⟨_, H1, I2, q1⟩) hf
noncomputable def tPar (i j : Nat) (ta : TA) : TS := fun D σ H => ta σ H fun vs H1 => ∃ v w, vs = [v, w] ∧ D.nx ((σ.set i (some v)).set j (some w)) H1
theorem ps_par {i j : Nat} {x y : Str} {a b : Expr} {ta : TA} {px py pt : Pos} {kt k2 pt2} (hc : X.calm = true) (hN : X.N.Nodup) (hi : X.N[i]? = some x) (hj : X.N[j]? = some y) (hij : i ≠ j)
    (hx : X.env.scope.names.lookup x = some .local) (hy : X.env.scope.names.lookup y = some .local) (ha : PA X [a, b] ta)
    (hw : swappedStores [.Tuple [.Name x px, .Name y py] kt pt] (.Tuple [a, b] k2 pt2) X.env = pure (some [x, y]))
    (hs : swapsWithSole [.Tuple [.Name x px, .Name y py] kt pt] (.Tuple [a, b] k2 pt2) pos.line X.env = pure false := by rfl) :
    PS X (.Assign [.Tuple [.Name x px, .Name y py] kt pt] (.Tuple [a, b] k2 pt2) pos) (tPar i j ta) := by
  intro pins s σ H D I h
  rw [exec_Assign_arm]
  refine wpAny_bind (wpAny_standAt ?_)
  rw [hs]
  refine wpAny_bind (wpAny_pure ?_)
  rw [if_neg (by decide)]
  refine wpAny_bind (Tuple_ (thn (ha _ pins s σ H _ I h) fun us s1 ⟨vs, H1, I1, r1, q1⟩ => ?_))
  obtain ⟨v, w, e1, q1⟩ := q1
  subst e1
  obtain ⟨u1, u2, rfl, rv, rw'⟩ : ∃ u1 u2, us = [u1, u2] ∧ RelV v u1 ∧ RelV w u2 := by
    cases r1 with
    | cons p q =>
      cases q with
      | cons p' q' =>
        cases q'
        exact ⟨_, _, rfl, p, p'⟩
  refine wpAny_newObj_type ?_ (by show 2 ≤ sizeLine; decide)
  have I2 : Inv X pins σ H1 { s1 with heap := s1.heap.push { cls := .type "tuple", data := .seq [u1, u2].toArray } } := I1.kept (t' := s1.toks) fun b o e => Heap.get?_push_of_some _ e
  rw [hw]
  refine wpAny_bind (wpAny_pure ?_)
  show wpAny (model X.prog X.w) X.A (do rule "assign.swapped-stores"; let items ← unpackItems (.ref s1.heap.objs.size) 2 none; assignInOrder [fun v => bindName X.env y v, fun v => bindName X.env x v] items.reverse; pure Flow.next) _ _ _
  refine wpAny_bind (wpAny_rule (wpAny_bind (unpackItems_tuple (items := #[u1, u2]) (I.ok.hd hc) (IsTup.new s1.heap _) fun h' hx' => ?_)))
  have I3 := I2.kept (h' := h') (t' := s1.toks) fun b o e => hx' b o (Nat.ne_of_lt (Heap.lt_size e)) e
  show wpAny _ _ (assignInOrder [fun v => bindName X.env y v, fun v => bindName X.env x v] [u2, u1] >>= fun _ => pure Flow.next) _ _ _
  refine wpAny_bind (assignInOrder_cons (wpAny_bindName (store_ok I3 hN hj (.inl hy) rw' (fun s2 I4 => ?_) (.inr hy))))
  refine assignInOrder_cons (wpAny_bindName (store_ok I4 hN hi (.inl hx) rv (fun s3 I5 => assignInOrder_nil (wpAny_pure ?_)) (.inr hx)))
  rw [List.set_comm _ _ (Ne.symm hij)] at I5
  exact ⟨_, H1, I5, q1⟩
end
section
variable {X : Cx} {pos : Pos}
end
structure It where
  go : Nat → Hp → Prop
  yld : Nat → Hp → V → Hp → Prop
  stop : Nat → Hp → Prop
noncomputable def FpOk (X : Cx) (pins : List (Addr × Obj)) (H : Hp) (b : Addr) : Prop :=
  H b = none ∧ b ≠ X.env.locals ∧ b ∉ X.fs ∧ (b ∈ X.ex ∨ X.s₀.heap.objs.size ≤ b) ∧ (∀ x c, X.env.cells.lookup x = some c → c ≠ b) ∧ ∀ p ∈ X.pn ++ pins, p.1 ≠ b
theorem Inv.fpOk {X : Cx} {pins : List (Addr × Obj)} {σ : St} {H H' : Hp} {s : Shared} {b : Addr} (I : Inv X pins σ H s) (hb : s.heap.objs.size ≤ b) (hn : H' b = none) : FpOk X pins H' b := by
  refine ⟨hn, Nat.ne_of_gt (Nat.lt_of_lt_of_le I.lt hb), I.nofs hb, .inr (Nat.le_trans I.sz hb), fun x c e z => ?_, fun p hp z => ?_⟩
  · obtain ⟨v, q⟩ := I.cell x c e
    exact absurd (Nat.lt_of_lt_of_le q.lt (by rw [z]; exact hb)) (Nat.lt_irrefl _)
  · exact absurd (Nat.lt_of_lt_of_le (Heap.lt_size (I.pin p hp).1) (by rw [z]; exact hb)) (Nat.lt_irrefl _)
structure Turn (P : Program) (w : World) (K : PySem.W.Frag) (tg : Expr) (J : It) (fp : List Addr) (it : Addr) (tn : Nat → Heap → Prop) : Prop where
  mem : it ∈ fp
  obj : ∀ i h, tn i h → ∀ b ∈ fp, ∃ o, h.get? b = some o ∧ ∀ v, o.data ≠ .cell v
  keep : ∀ i h h', tn i h → (∀ b ∈ fp, ∀ o, h.get? b = some o → h'.get? b = some o) → tn i h'
  item : ∀ (X : Cx), X.prog = P → X.w = w → X.K = K → X.calm = true → ∀ (i : Nat) (pins : List (Addr × Obj)) (s : Shared) (σ : St) (H : Hp) (E : Value → Shared → Prop), Inv X pins σ H s → (∀ b ∈ fp, FpOk X pins H b) → tn i s.heap → J.go i H →
    wpAny (model P w) X.A (pyNext (.ref it)) (fun r s1 => ∃ u, r = some u ∧
      wpAny (model P w) X.A (letOwnedTupleGo tg (.ref it) u) (fun _ s2 => ∃ x H', Inv X pins σ H' s2 ∧ RelV x u ∧ J.yld i H x H' ∧ tn (i + 1) s2.heap ∧ ∀ b ∈ fp, H' b = none) E s1) E s
  done : ∀ (X : Cx), X.prog = P → X.w = w → X.K = K → X.calm = true → ∀ (i : Nat) (pins : List (Addr × Obj)) (s : Shared) (σ : St) (H : Hp) (E : Value → Shared → Prop), Inv X pins σ H s → (∀ b ∈ fp, FpOk X pins H b) → tn i s.heap → J.stop i H →
    wpAny (model P w) X.A (pyNext (.ref it)) (fun r s1 => r = none ∧ Inv X pins σ H s1) E s
  self : ∀ (A : Around) (i : Nat) (s : Shared) (Q : Value → Shared → Prop) (E : Value → Shared → Prop), tn i s.heap → Q (.ref it) s → wpAny (model P w) A (pyIter (.ref it)) Q E s
noncomputable abbrev TI := St → Hp → (It → Hp → Prop) → Prop
noncomputable def PIE (X : Cx) (pins : List (Addr × Obj)) (σ : St) (tg : Expr) (R : It → Hp → Prop) (itv : Value) (s2 : Shared) : Prop :=
  ∃ (it : Addr) (fp : List Addr) (tn : Nat → Heap → Prop) (J : It) (H' : Hp), itv = .ref it ∧ Inv X pins σ H' s2 ∧ Turn X.prog X.w X.K tg J fp it tn ∧ tn 0 s2.heap ∧ (∀ b ∈ fp, FpOk X pins H' b) ∧ R J H'
noncomputable def PI (X : Cx) (tg iter : Expr) (wi : TI) : Prop :=
  ∀ (pins : List (Addr × Obj)) (s : Shared) (σ : St) (H : Hp) (R : It → Hp → Prop), Inv X pins σ H s → wi σ H R →
    wpAny (model X.prog X.w) X.A (eval iter X.env) (fun v s1 => wpAny (model X.prog X.w) X.A (pyIter v) (PIE X pins σ tg R) X.xe s1) X.xe s
theorem go_of {M : Model} {A : Around} {E : Value → Shared → Prop} {s : Shared} {tg : Expr} {it : Addr} {u : Value} {o : Obj} {n : String} {vs : Array Value} {Q : Unit → Shared → Prop} (ho : s.heap.get? it = some o) (hc : o.cls = .type n) (hd : o.data = .fields vs)
    (hn : ["enumerate", "zip", "dict_itemiterator", "dict_reverseitemiterator", "odict_iterator", "itertools.zip_longest", "itertools.pairwise"].contains n = false) (hQ : Q () s) : wpAny M A (letOwnedTupleGo tg (.ref it) u) Q E s := by
  unfold letOwnedTupleGo
  cases tg <;> first
    | exact wpAny_pure hQ
    | (cases u <;> first
        | exact wpAny_pure hQ
        | (refine wpAny_bind (wpAny_load ho ?_)
           rw [hc, hd]
           show wpAny M A (if (["enumerate", "zip", "dict_itemiterator", "dict_reverseitemiterator", "odict_iterator", "itertools.zip_longest", "itertools.pairwise"].contains n && vs[0]? == some (rawInt _)) = true then _ else _) Q E s
           rw [if_neg (by intro h; rw [hn, Bool.false_and] at h; cases h)]
           exact wpAny_pure hQ))
noncomputable def Itl (K : PySem.W.Frag) (a : Addr) : It :=
  ⟨fun i H => ∃ xs x, SqL K H a xs ∧ xs[i]? = some x, fun i H x H' => H' = H ∧ ∀ xs, SqL K H a xs → xs[i]? = some x, fun i H => ∃ xs, SqL K H a xs ∧ xs.length ≤ i⟩
noncomputable def Itt (K : PySem.W.Frag) (a : Addr) : It :=
  ⟨fun i H => ∃ xs x, SqT K H a xs ∧ xs[i]? = some x, fun i H x H' => H' = H ∧ ∀ xs, SqT K H a xs → xs[i]? = some x, fun i H => ∃ xs, SqT K H a xs ∧ xs.length ≤ i⟩
noncomputable def Itr (lo : Int) (n : Nat) : It := ⟨fun i _ => i < n, fun i H x H' => H' = H ∧ x = .int (lo + i), fun i _ => n ≤ i⟩
theorem turn_list {P : Program} {w : World} {K : PySem.W.Frag} {tg : Expr} (a it : Addr) : Turn P w K tg (Itl K a) [it] it (fun i h => h.IsListIter it a i) where
  mem := by simp
  obj := fun i h st b hb => by
    have e : b = it := by simpa using hb
    subst e
    obtain ⟨o, e, c, d⟩ := st
    exact ⟨o, e, fun v z => by rw [d] at z; cases z⟩
  keep := fun i h h' st k => st.at fun o e => k it (by simp) o e
  item := by
    intro X hP hw hK hc i pins s σ H E I hf st hg
    subst hP hw hK
    obtain ⟨xs, x, hq, hx⟩ := hg
    obtain ⟨its, rv, p, hz⟩ := I.list hq
    obtain ⟨u, hu, ru⟩ := rv.get hx
    obtain ⟨f0, f1, f2, f3, f4, f5⟩ := hf it (by simp)
    refine wpAny_pyNext_list_item st p.isList (x := u) (by simpa using hu) fun h' st' sb => ?_
    have I1 : Inv X pins σ H { s with heap := h' } := I.turned (t' := s.toks) (fun b o hb e => (sb.2 b hb).trans e) f0 f1 f3 f4 f5
    obtain ⟨o, e, c, d⟩ := id st'
    exact ⟨u, rfl, go_of (s := { s with heap := h' }) e c d (by decide) ⟨x, H, I1, ru, ⟨rfl, fun ys hy => by rw [I.list_inj hy hq]; exact hx⟩, st', fun b hb => (hf b hb).1⟩⟩
  done := by
    intro X hP hw hK hc i pins s σ H E I hf st hg
    subst hP hw hK
    obtain ⟨xs, hq, hx⟩ := hg
    obtain ⟨its, rv, p, hz⟩ := I.list hq
    obtain ⟨f0, f1, f2, f3, f4, f5⟩ := hf it (by simp)
    have hl := rv.length
    exact wpAny_pyNext_list_end (I.ok.hd hc) st p.isList (by simp; omega) fun h' eb => ⟨rfl, I.turned (t' := s.toks) (fun b o hb e => eb b o hb e) f0 f1 f3 f4 f5⟩
  self := fun _ _ _ _ _ st h => wpAny_pyIter_listiter st h
theorem turn_tuple {P : Program} {w : World} {K : PySem.W.Frag} {tg : Expr} (a it : Addr) : Turn P w K tg (Itt K a) [it] it (fun i h => h.IsTupleIter it a i) where
  mem := by simp
  obj := fun i h st b hb => by
    have e : b = it := by simpa using hb
    subst e
    obtain ⟨o, e, c, d⟩ := st
    exact ⟨o, e, fun v z => by rw [d] at z; cases z⟩
  keep := fun i h h' st k => st.at fun o e => k it (by simp) o e
  item := by
    intro X hP hw hK hc i pins s σ H E I hf st hg
    subst hP hw hK
    obtain ⟨xs, x, hq, hx⟩ := hg
    obtain ⟨its, rv, p, hz⟩ := I.tuple hq
    obtain ⟨u, hu, ru⟩ := rv.get hx
    obtain ⟨f0, f1, f2, f3, f4, f5⟩ := hf it (by simp)
    refine wpAny_pyNext_tuple_item st (show s.heap.IsTuple a its.toArray from p) (x := u) (by simpa using hu) fun h' st' sb => ?_
    have I1 : Inv X pins σ H { s with heap := h' } := I.turned (t' := s.toks) (fun b o hb e => (sb.2 b hb).trans e) f0 f1 f3 f4 f5
    obtain ⟨o, e, c, d⟩ := id st'
    exact ⟨u, rfl, go_of (s := { s with heap := h' }) e c d (by decide) ⟨x, H, I1, ru, ⟨rfl, fun ys hy => by rw [I.tuple_inj hy hq]; exact hx⟩, st', fun b hb => (hf b hb).1⟩⟩
  done := by
    intro X hP hw hK hc i pins s σ H E I hf st hg
    subst hP hw hK
    obtain ⟨xs, hq, hx⟩ := hg
    obtain ⟨its, rv, p, hz⟩ := I.tuple hq
    obtain ⟨f0, f1, f2, f3, f4, f5⟩ := hf it (by simp)
    have hl := rv.length
    exact wpAny_pyNext_tuple_end (I.ok.hd hc) st (show s.heap.IsTuple a its.toArray from p) (by simp; omega) fun h' eb => ⟨rfl, I.turned (t' := s.toks) (fun b o hb e => eb b o hb e) f0 f1 f3 f4 f5⟩
  self := fun _ _ _ _ _ st h => wpAny_pyIter_tupleiter st h
theorem turn_range {P : Program} {w : World} {K : PySem.W.Frag} {tg : Expr} (it : Addr) (lo : Int) (n : Nat) : Turn P w K tg (Itr lo n) [it] it (fun i h => IsRangeIter h it (lo + (i : Nat) * 1) ((n : Int) - (i : Nat)) 1) where
  mem := by simp
  obj := fun i h st b hb => by
    have e : b = it := by simpa using hb
    subst e
    exact ⟨_, st, fun v z => by
      have z' : Data.fields _ = Data.cell v := z
      cases z'⟩
  keep := fun i h h' st k => k it (by simp) _ st
  item := by
    intro X hP hw hK hc i pins s σ H E I hf st hg
    subst hP hw hK
    obtain ⟨f0, f1, f2, f3, f4, f5⟩ := hf it (by simp)
    have W := Walks.range (prog := X.prog) (w := X.w) (I.ok.hd hc) it lo 1 n
    refine W.item i s _ _ hg st fun v h' tk hv st' kk => ?_
    obtain ⟨t, rfl⟩ := hv
    have I1 : Inv X pins σ H { s with heap := h', toks := tk } := I.turned (fun b o hb e => kk b o (by simpa using hb) e) f0 f1 f3 f4 f5
    refine ⟨_, rfl, go_of (s := { s with heap := h', toks := tk }) (n := "range_iterator") st' rfl rfl (by decide) ⟨.int (lo + i), H, I1, ⟨t, ?_⟩, ⟨rfl, rfl⟩, st', fun b hb => (hf b hb).1⟩⟩
    rw [Int.mul_one]
  done := by
    intro X hP hw hK hc i pins s σ H E I hf st hg
    subst hP hw hK
    obtain ⟨f0, f1, f2, f3, f4, f5⟩ := hf it (by simp)
    exact wpAny_pyNext_range_end (I.ok.hd hc) st (by have : n ≤ i := hg; omega) fun h' eb => ⟨rfl, I.turned (t' := s.toks) (fun b o hb e => eb b o hb e) f0 f1 f3 f4 f5⟩
  self := fun _ _ _ _ _ st h => wpAny_pyIter_rangeiter st h
end L2
namespace L2
open PySem PySem.Spec PyProof.Rows
section
variable {X : Cx} {tg : Expr}
theorem range_it {pins : List (Addr × Obj)} {σ : St} {H : Hp} {s : Shared} {R : It → Hp → Prop} {E : Value → Shared → Prop} {lo hi : Int} {t u v : Tok} {tk : Nat} (I : Inv X pins σ H s) (h1 : -(2 ^ 62) ≤ lo) (h2 : lo < 2 ^ 62) (h3 : -(2 ^ 62) ≤ hi) (h4 : hi < 2 ^ 62)
    (q : R (Itr lo (hi - lo).toNat) H) : wpAny (model X.prog X.w) X.A (pyIter (.ref s.heap.objs.size)) (PIE X pins σ tg R) E { s with heap := s.heap.push { cls := .type "range", data := .fields #[.int lo t, .int hi u, .int 1 v] }, toks := tk } := by
  refine wpAny_pyIter_range (IsRange.new ..) (small_one h1 h2 h3 h4) ?_
  have I1 : Inv X pins σ H { s with heap := s.heap.push { cls := .type "range", data := .fields #[.int lo t, .int hi u, .int 1 v] }, toks := tk } := I.kept fun b o e => Heap.get?_push_of_some _ e
  refine ⟨(s.heap.push { cls := .type "range", data := .fields #[.int lo t, .int hi u, .int 1 v] }).objs.size, [(s.heap.push { cls := .type "range", data := .fields #[.int lo t, .int hi u, .int 1 v] }).objs.size], _, _, H, rfl,
    I1.kept (t' := tk) fun b o e => Heap.get?_push_of_some _ e, turn_range _ lo (hi - lo).toNat, ?_, fun b hb => ?_, q⟩
  · have e1 : lo + ((0 : Nat) : Int) * 1 = lo := by simp
    have e2 : (((hi - lo).toNat : Nat) : Int) - ((0 : Nat) : Int) = Builtin.Range.rangeSize lo hi 1 := by rw [rangeSize_one]; split <;> omega
    show IsRangeIter _ _ (lo + ((0 : Nat) : Int) * 1) ((((hi - lo).toNat : Nat) : Int) - ((0 : Nat) : Int)) 1
    rw [e1, e2]
    exact Heap.get?_push_size _ rfl
  · have e : b = (s.heap.push { cls := .type "range", data := .fields #[.int lo t, .int hi u, .int 1 v] }).objs.size := by simpa using hb
    subst e
    exact I1.fpOk (Nat.le_refl _) (I1.hok.fresh (Nat.le_refl _))
noncomputable def iRng1 (ta : TA) : TI := fun σ H R => ta σ H fun vs H1 => ∃ j : Int, vs = [.int j] ∧ -(2 ^ 62) ≤ j ∧ j < 2 ^ 62 ∧ R (Itr 0 j.toNat) H1
noncomputable def iRng2 (ta : TA) : TI := fun σ H R => ta σ H fun vs H1 => ∃ i j : Int, vs = [.int i, .int j] ∧ (-(2 ^ 62) ≤ i ∧ i < 2 ^ 62 ∧ -(2 ^ 62) ≤ j ∧ j < 2 ^ 62) ∧ R (Itr i (j - i).toNat) H1
theorem pi_range1 {a : Expr} {ta : TA} {p pos : Pos} (hg : Gl X "range") (hm : X.mg "range" = none) (ha : PA X [a] ta) (hs : starEach [a] X.env = [(false, eval a X.env)] := by rfl) : PI X tg (.Call (.Name "range" p) [a] [] pos) (iRng1 ta) := by
  intro pins s σ H R I h
  refine Call_ (ld_blt I hg hm boot_range (PyProof.Rows.callWith_type1 (thn (ha pos pins s σ H _ I h) fun us s1 ⟨vs, H1, I1, r1, q1⟩ => ?_) hs rfl))
  obtain ⟨j, e, q1, q2, q⟩ := q1
  subst e
  cases r1 with
  | cons r rr =>
    cases rr
    obtain ⟨t, rfl⟩ := r
    exact call_range_1 (range_it I1 (by omega) (by omega) q1 q2 (by simpa using q))
theorem pi_range2 {a b : Expr} {ta : TA} {p pos : Pos} (hg : Gl X "range") (hm : X.mg "range" = none) (ha : PA X [a, b] ta) (hs : starEach [a, b] X.env = [(false, eval a X.env), (false, eval b X.env)] := by rfl) (hs2 : starEach [b] X.env = [(false, eval b X.env)] := by rfl) :
    PI X tg (.Call (.Name "range" p) [a, b] [] pos) (iRng2 ta) := by
  intro pins s σ H R I h
  refine Call_ (ld_blt I hg hm boot_range (PyProof.Rows.callWith_type1 (thn (ha pos pins s σ H _ I h) fun us s1 ⟨vs, H1, I1, r1, q1⟩ => ?_) (by rw [hs, hs2]) (by rw [hs2]; rfl)))
  obtain ⟨i, j, e, ⟨q1, q2, q3, q4⟩, q⟩ := q1
  subst e
  cases r1 with
  | cons r rr =>
    cases rr with
    | cons r' rr =>
      cases rr
      obtain ⟨t, rfl⟩ := r
      obtain ⟨t', rfl⟩ := r'
      exact call_range_2 (range_it I1 q1 q2 q3 q4 q)
noncomputable def tFor (wi : TI) (g : TG) (tb : TS) : TS := fun D σ H => wi σ H fun J H1 => ∃ W : Nat → Nat → St → Hp → Prop, (∃ m, W 0 m σ H1) ∧ ∀ i m σ H, W i m σ H →
  (J.stop i H ∧ D.nx σ H) ∨ (J.go i H ∧ ∃ N : St → Hp → Prop, (∀ σ' H', N σ' H' → ∃ m', m' < m ∧ W (i + 1) m' σ' H') ∧ ∀ x H', J.yld i H x H' → g x σ H' fun σ2 H2 => tb { D with nx := N, ct := N, bk := D.nx } σ2 H2)
noncomputable def pinsAt (fp : List Addr) (h : Heap) : List (Addr × Obj) := fp.filterMap fun b => (h.get? b).map fun o => (b, o)
theorem mem_pinsAt {fp : List Addr} {h : Heap} {b : Addr} {o : Obj} (hb : b ∈ fp) (e : h.get? b = some o) : (b, o) ∈ pinsAt fp h := List.mem_filterMap.mpr ⟨b, hb, by rw [e]; rfl⟩
theorem of_pinsAt {fp : List Addr} {h : Heap} {p : Addr × Obj} (hp : p ∈ pinsAt fp h) : p.1 ∈ fp ∧ h.get? p.1 = some p.2 := by
  obtain ⟨b, hb, e⟩ := List.mem_filterMap.mp hp
  cases q : h.get? b with
  | none => rw [q] at e; cases e
  | some o =>
    rw [q] at e
    have e' : (b, o) = p := Option.some.inj e
    subst e'
    exact ⟨hb, q⟩
theorem Inv.pinned {pins : List (Addr × Obj)} {σ : St} {H : Hp} {s : Shared} {fp : List Addr} (I : Inv X pins σ H s) (hf : ∀ b ∈ fp, FpOk X pins H b) (ho : ∀ b ∈ fp, ∃ o, s.heap.get? b = some o ∧ ∀ v, o.data ≠ .cell v) : Inv X (pins ++ pinsAt fp s.heap) σ H s :=
  I.pins_of fun p hp => (List.mem_append.mp hp).elim (fun z => I.pin p (List.mem_append_right _ z)) fun z => by
    obtain ⟨hb, e⟩ := of_pinsAt z
    obtain ⟨f0, f1, f2, _⟩ := hf p.1 hb
    obtain ⟨o, e', d⟩ := ho p.1 hb
    rw [e] at e'; cases e'
    exact ⟨e, f0, f1, f2, d⟩
theorem Inv.unpinned {pins pl : List (Addr × Obj)} {σ : St} {H : Hp} {s : Shared} (I : Inv X (pins ++ pl) σ H s) : Inv X pins σ H s := I.pins_of fun p hp => I.pin p (List.mem_append_right _ (List.mem_append_left _ hp))
theorem ps_for {iter : Expr} {body : List Stmt} {wi : TI} {g : TG} {tb : TS} {pos : Pos} (hp : PassesOwn (model X.prog X.w) X.A X.env X.xe) (hc : X.calm = true) (hi : PI X tg iter wi) (hg : PG X tg g) (hb : PSs X body tb)
    (hs : ∀ x, foldedSetIterable iter X.env x = pure x := by intro _; rfl) : PS X (.For tg iter body [] pos) (tFor wi g tb) := by
  intro pins s σ H D I h
  refine wpAny_For (thn (hi pins s σ H _ I h) fun v s1 h1 => thn h1 fun itv s2 h2 => ?_) hs
  obtain ⟨it, fp, tn, J, H2, e, I2, T, st2, f2, W, ⟨m0, w0⟩, turn⟩ := h2
  subst e
  have stat : ∀ {H' : Hp}, (∀ b ∈ fp, H' b = none) → ∀ b ∈ fp, FpOk X pins H' b := fun hn b hb => ⟨hn b hb, (f2 b hb).2⟩
  refine codeAny_forLoop_any (fun n s' => ∃ i σ' H', Inv X pins σ' H' s' ∧ tn i s'.heap ∧ (∀ b ∈ fp, H' b = none) ∧ W i n σ' H') ?_ m0 ⟨0, σ, H2, I2, st2, fun b hb => (f2 b hb).1, w0⟩
  rintro n s3 ⟨i, σ3, H3, I3, st3, fr3, w3⟩
  rcases turn i n σ3 H3 w3 with ⟨stop, qn⟩ | ⟨go, N, hN, step⟩
  · refine wpAny_passesOwn hp (thn (T.done X rfl rfl rfl hc i pins s3 σ3 H3 X.xe I3 (stat fr3) st3 stop) fun r s4 ⟨hr, I4⟩ => ?_)
    subst hr
    exact wpAny_execs_nil ⟨σ3, H3, I4, qn⟩
  · refine wpAny_passesOwn hp (thn (T.item X rfl rfl rfl hc i pins s3 σ3 H3 X.xe I3 (stat fr3) st3 go) fun r s4 ⟨u, hr, h4⟩ => ?_)
    subst hr
    refine wpAny_passesOwn hp (thn h4 fun _ s5 ⟨x, H5, I5, r5, y5, st5, fr5⟩ => ?_)
    have I5' := I5.pinned (stat fr5) (T.obj _ _ st5)
    refine wpAny_passesOwn hp (thn (hg _ s5 σ3 H5 x u _ I5' r5 (step x H5 y5)) fun _ s6 ⟨σ6, H6, I6, q6⟩ => ?_)
    refine wpAny_passesOwn hp (thn (hb _ s6 σ6 H6 _ I6 q6) fun f s7 q7 => ?_)
    have again : ∀ {σ7 : St} {H7 : Hp}, Inv X (pins ++ pinsAt fp s5.heap) σ7 H7 s7 → N σ7 H7 → ∃ m, m < n ∧ ∃ i σ' H', Inv X pins σ' H' s7 ∧ tn i s7.heap ∧ (∀ b ∈ fp, H' b = none) ∧ W i m σ' H' := fun {σ7 H7} I7 n7 => by
      obtain ⟨m', hm, w7⟩ := hN σ7 H7 n7
      refine ⟨m', hm, i + 1, σ7, H7, I7.unpinned, T.keep _ _ _ st5 fun b hb o e => (I7.pin (b, o) (List.mem_append_right _ (List.mem_append_right _ (mem_pinsAt hb e)))).1, fun b hb => ?_, w7⟩
      obtain ⟨o, e, d⟩ := T.obj _ _ st5 b hb
      exact (I7.pin (b, o) (List.mem_append_right _ (List.mem_append_right _ (mem_pinsAt hb e)))).2.1
    cases f with
    | next => obtain ⟨σ7, H7, I7, n7⟩ := q7; exact again I7 n7
    | cont => obtain ⟨σ7, H7, I7, n7⟩ := q7; exact again I7 n7
    | brk => obtain ⟨σ7, H7, I7, q7⟩ := q7; exact ⟨σ7, H7, I7.unpinned, q7⟩
    | ret v => obtain ⟨x7, σ7, H7, I7, r7, q7⟩ := q7; exact ⟨x7, σ7, H7, I7.unpinned, r7, q7⟩
end
end L2
namespace L2
open PySem PySem.Spec PyProof.Rows
noncomputable abbrev R2 := V → V → Hp → VK → Prop
noncomputable def OpR (X : Cx) (f : Value → Value → Sem Value) (r : R2) : Prop :=
  ∀ (pins : List (Addr × Obj)) (s : Shared) (σ : St) (H : Hp) (x y : V) (v u : Value) (Q : VK), Inv X pins σ H s → RelV x v → RelV y u → r x y H Q →
    wpAny (model X.prog X.w) X.A (f v u) (EP X pins σ Q) X.xe s
noncomputable def UnR (X : Cx) (f : Value → Sem Value) (r : V → Hp → VK → Prop) : Prop :=
  ∀ (pins : List (Addr × Obj)) (s : Shared) (σ : St) (H : Hp) (x : V) (v : Value) (Q : VK), Inv X pins σ H s → RelV x v → r x H Q →
    wpAny (model X.prog X.w) X.A (f v) (EP X pins σ Q) X.xe s
noncomputable def CallR (X : Cx) (f : Value) (r : List V → Hp → VK → Prop) : Prop :=
  ∀ (pins : List (Addr × Obj)) (s : Shared) (σ : St) (H : Hp) (xs : List V) (us : List Value) (Q : VK), Inv X pins σ H s → Vals xs us → r xs H Q →
    wpAny (model X.prog X.w) X.A (call f us) (EP X pins σ Q) X.xe s
noncomputable def TruR (X : Cx) (r : V → Hp → (Bool → Hp → Prop) → Prop) : Prop :=
  ∀ (pins : List (Addr × Obj)) (s : Shared) (σ : St) (H : Hp) (x : V) (v : Value) (Q : Bool → Hp → Prop), Inv X pins σ H s → RelV x v → r x H Q →
    wpAny (model X.prog X.w) X.A (truthy v) (TP X pins σ Q) X.xe s
noncomputable def tOp (r : R2) (ta tb : TE) : TE := fun σ H Q => ta σ H fun x H1 => tb σ H1 fun y H2 => r x y H2 Q
noncomputable def tUn (r : V → Hp → VK → Prop) (ta : TE) : TE := fun σ H Q => ta σ H fun x H1 => r x H1 Q
noncomputable def rI (C : Int → Int → Prop) (g : Int → Int → V) : R2 := fun x y H Q => ∃ i j, x = .int i ∧ y = .int j ∧ C i j ∧ Q (g i j) H
noncomputable def rI0 (g : Int → Int → V) : R2 := fun x y H Q => ∃ i j, x = .int i ∧ y = .int j ∧ Q (g i j) H
noncomputable def rU (g : Int → V) : V → Hp → VK → Prop := fun x H Q => ∃ i, x = .int i ∧ Q (g i) H
section
variable {X : Cx} {a b c : Expr} {ta tb tc : TE} {pos : Pos}
theorem binT (ha : PE X a ta) (hb : PE X b tb) {pins : List (Addr × Obj)} {s : Shared} {σ : St} {H : Hp} {R : V → V → Hp → Prop} (I : Inv X pins σ H s)
    (h : ta σ H fun x H1 => tb σ H1 fun y H2 => R x y H2) {Q : Value → Shared → Prop} {f : Value → Value → Sem Value}
    (hf : ∀ v u s2 x y H2, Inv X pins σ H2 s2 → RelV x v → RelV y u → R x y H2 → wpAny (model X.prog X.w) X.A (f v u) Q X.xe s2) :
    wpAny (model X.prog X.w) X.A (eval a X.env) (fun v s₁ => wpAny (model X.prog X.w) X.A (eval b X.env) (fun u s₂ => wpAny (model X.prog X.w) X.A (f v u) Q X.xe s₂) X.xe s₁) X.xe s := by
  refine thn (ha pins s σ H _ I h) fun v s1 ⟨x, H1, I1, r1, q1⟩ => ?_
  refine thn (hb pins s1 σ H1 _ I1 q1) fun u s2 ⟨y, H2, I2, r2, q2⟩ => ?_
  exact hf v u s2 x y H2 I2 r1 r2 q2
theorem pe_op {op : Operator} {r : R2} (ho : OpR X (binaryOp op) r) (ha : PE X a ta) (hb : PE X b tb) : PE X (.BinOp a op b pos) (tOp r ta tb) := by
  intro pins s σ H Q I h
  exact wpAny_BinOp (binT ha hb I h fun v u s2 x y H2 I2 rx ry q => ho pins s2 σ H2 x y v u Q I2 rx ry q)
theorem pe_un {op : UnaryOp} {r : V → Hp → VK → Prop} (ho : UnR X (unaryOp op) r) (ha : PE X a ta) : PE X (.UnaryOp op a pos) (tUn r ta) := by
  intro pins s σ H Q I h
  exact UnaryOp_ (thn (ha pins s σ H _ I h) fun v s1 ⟨x, H1, I1, r1, q1⟩ => ho pins s1 σ H1 x v Q I1 r1 q1)
theorem opI {f : Value → Value → Sem Value} {C : Int → Int → Prop} {g : Int → Int → Int}
    (rule : ∀ (i j : Int) (t u : Tok) (s : Shared) (Q : Value → Shared → Prop) (E : Value → Shared → Prop), C i j → Q (.int (g i j) s.toks) { s with toks := s.toks + 1 } → wpAny (model X.prog X.w) X.A (f (.int i t) (.int j u)) Q E s) :
    OpR X f (rI C fun i j => .int (g i j)) := by
  intro pins s σ H x y v u Q I rx ry h
  obtain ⟨i, j, rfl, rfl, hc, q⟩ := h
  obtain ⟨t, rfl⟩ := rx
  obtain ⟨t', rfl⟩ := ry
  exact rule i j t t' s _ _ hc ⟨.int (g i j), H, I.tok _, ⟨_, rfl⟩, q⟩
theorem opI0 {f : Value → Value → Sem Value} {g : Int → Int → Int}
    (rule : ∀ (i j : Int) (t u : Tok) (s : Shared) (Q : Value → Shared → Prop) (E : Value → Shared → Prop), Q (.int (g i j) s.toks) { s with toks := s.toks + 1 } → wpAny (model X.prog X.w) X.A (f (.int i t) (.int j u)) Q E s) :
    OpR X f (rI0 fun i j => .int (g i j)) := by
  intro pins s σ H x y v u Q I rx ry h
  obtain ⟨i, j, rfl, rfl, q⟩ := h
  obtain ⟨t, rfl⟩ := rx
  obtain ⟨t', rfl⟩ := ry
  exact rule i j t t' s _ _ ⟨.int (g i j), H, I.tok _, ⟨_, rfl⟩, q⟩
theorem opB0 {f : Value → Value → Sem Value} {g : Int → Int → Bool}
    (rule : ∀ (i j : Int) (t u : Tok) (s : Shared) (Q : Value → Shared → Prop) (E : Value → Shared → Prop), Q (.bool (g i j)) s → wpAny (model X.prog X.w) X.A (f (.int i t) (.int j u)) Q E s) :
    OpR X f (rI0 fun i j => .bl (g i j)) := by
  intro pins s σ H x y v u Q I rx ry h
  obtain ⟨i, j, rfl, rfl, q⟩ := h
  obtain ⟨t, rfl⟩ := rx
  obtain ⟨t', rfl⟩ := ry
  exact rule i j t t' s _ _ ⟨.bl (g i j), H, I, rfl, q⟩
noncomputable def CDiv (i j : Int) : Prop := 0 < j ∧ j < 1073741824
noncomputable def CPow (i j : Int) : Prop := 0 ≤ j ∧ j ≤ 1000000 ∧ i.natAbs < 2 ^ 64
noncomputable def CMul (i j : Int) : Prop := (-(2 ^ 64) < i ∧ i < 2 ^ 64) ∨ (-(2 ^ 64) < j ∧ j < 2 ^ 64)
theorem CMul.ok {i j : Int} (h : CMul i j) : IntMulOk i j := by
  rcases h with ⟨h1, h2⟩ | ⟨h1, h2⟩
  · exact .of_left (intBits_le_64 h1 h2)
  · exact .of_right (intBits_le_64 h1 h2)
theorem op_add : OpR X (binaryOp .Add) (rI0 fun i j => .int (i + j)) := opI0 fun _ _ _ _ _ _ _ q => add_int q
theorem op_sub : OpR X (binaryOp .Sub) (rI0 fun i j => .int (i - j)) := opI0 fun _ _ _ _ _ _ _ q => sub_int q
theorem op_mul : OpR X (binaryOp .Mult) (rI CMul fun i j => .int (i * j)) := opI fun _ _ _ _ _ _ _ hc q => mul_int q hc.ok
theorem op_fdiv : OpR X (binaryOp .FloorDiv) (rI CDiv fun i j => .int (i / j)) := opI fun i j _ _ _ _ _ hc q => by
  have h1 : (0 : Int) < j := hc.1
  have h2 : j < 1073741824 := hc.2
  exact floordiv_int (by omega) (by rw [Int.fdiv_eq_ediv_of_nonneg i (by omega)]; exact q) (.inl (PyProof.noPylong_small (by omega)))
theorem op_mod : OpR X (binaryOp .Mod) (rI (fun _ j => 0 < j) fun i j => .int (i % j)) := opI fun i j _ _ _ _ _ hc q => by
  have h1 : (0 : Int) < j := hc
  exact mod_int' (by omega) (by rw [Int.fmod_eq_emod_of_nonneg i (by omega)]; exact q)
theorem op_pow : OpR X (binaryOp .Pow) (rI CPow fun i j => .int (i ^ j.toNat)) := opI fun _ _ _ _ _ _ _ hc q => pow_int_small hc.1 hc.2.1 hc.2.2 q
theorem unI {f : Value → Sem Value} {g : Int → Int}
    (rule : ∀ (i : Int) (t : Tok) (s : Shared) (Q : Value → Shared → Prop) (E : Value → Shared → Prop), Q (.int (g i) s.toks) { s with toks := s.toks + 1 } → wpAny (model X.prog X.w) X.A (f (.int i t)) Q E s) :
    UnR X f (rU fun i => .int (g i)) := by
  intro pins s σ H x v Q I rx h
  obtain ⟨i, rfl, q⟩ := h
  obtain ⟨t, rfl⟩ := rx
  exact rule i t s _ _ ⟨.int (g i), H, I.tok _, ⟨_, rfl⟩, q⟩
theorem un_neg : UnR X (unaryOp .USub) (rU fun i => .int (-i)) := unI fun _ _ _ _ _ q => neg_int q
end
noncomputable def scal : V → V → Bool
  | .non, .non => true | .non, .int _ => true | .int _, .non => true | .non, .bl _ => true | .bl _, .non => true | .non, .str _ => true | .str _, .non => true
  | .int _, .int _ => true | .bl _, .bl _ => true | .str _, .str _ => true | .byt _, .byt _ => true
  | .int _, .str _ => true | .str _, .int _ => true | .bl _, .str _ => true | .str _, .bl _ => true
  | _, _ => false
noncomputable def rEq : R2 := fun x y H Q => scal x y = true ∧ Q (.bl (decide (x = y))) H
theorem dec_int {i j : Int} : decide (V.int i = V.int j) = (i == j) := by
  rw [Bool.eq_iff_iff]
  simp
theorem dec_bl {i j : Bool} : decide (V.bl i = V.bl j) = (i == j) := by
  rw [Bool.eq_iff_iff]
  simp
theorem dec_str {i j : Str} : decide (V.str i = V.str j) = (i == j) := by
  rw [Bool.eq_iff_iff]
  simp
theorem dec_byt {i j : Array UInt8} : decide (V.byt i = V.byt j) = (i.toList == j.toList) := by
  rw [Bool.eq_iff_iff]
  cases i
  cases j
  simp
section
variable {X : Cx} {a b c : Expr} {ta tb tc : TE} {pos : Pos}
theorem fin_bl {pins : List (Addr × Obj)} {σ : St} {H : Hp} {s : Shared} {Q : VK} {k k' : Bool} (I : Inv X pins σ H s) (q : Q (.bl k) H) (e : k = k') : EP X pins σ Q (.bool k') s := by
  subst e
  exact ⟨.bl k, H, I, rfl, q⟩
theorem op_eq : OpR X (compareOp .Eq) rEq := by
  intro pins s σ H x y v u Q I rx ry h
  obtain ⟨hs, q⟩ := h
  cases x with
  | non =>
    cases rx
    cases y with
    | non => cases ry; exact PySem.EqNone.eq_none_none (fin_bl I q (by simp))
    | bl j => cases ry; exact PySem.EqNone.eq_none_bool (fin_bl I q (by simp))
    | int j => obtain ⟨t', rfl⟩ := ry; exact PySem.EqNone.eq_none_int (fin_bl I q (by simp))
    | str j => obtain ⟨t', rfl⟩ := ry; exact PySem.EqNone.eq_none_str (fin_bl I q (by simp))
    | _ => exact absurd (show false = true from hs) Bool.false_ne_true
  | bl i =>
    cases rx
    cases y with
    | non => cases ry; exact PySem.EqNone.eq_bool_none (fin_bl I q (by simp))
    | bl j => cases ry; exact eq_bool (fin_bl I q dec_bl)
    | str j => obtain ⟨t', rfl⟩ := ry; exact PySem.EqMixed.eq_bool_str (fin_bl I q (by simp))
    | _ => exact absurd (show false = true from hs) Bool.false_ne_true
  | int i =>
    obtain ⟨t, rfl⟩ := rx
    cases y with
    | non => cases ry; exact PySem.EqNone.eq_int_none (fin_bl I q (by simp))
    | int j => obtain ⟨t', rfl⟩ := ry; exact eq_int (fin_bl I q dec_int)
    | str j => obtain ⟨t', rfl⟩ := ry; exact PySem.EqMixed.eq_int_str (fin_bl I q (by simp))
    | _ => exact absurd (show false = true from hs) Bool.false_ne_true
  | str i =>
    obtain ⟨t, rfl⟩ := rx
    cases y with
    | non => cases ry; exact PySem.EqNone.eq_str_none (fin_bl I q (by simp))
    | bl j => cases ry; exact PySem.EqMixed.eq_str_bool (fin_bl I q (by simp))
    | int j => obtain ⟨t', rfl⟩ := ry; exact PySem.EqMixed.eq_str_int (fin_bl I q (by simp))
    | str j => obtain ⟨t', rfl⟩ := ry; exact eq_str (fin_bl I q dec_str)
    | _ => exact absurd (show false = true from hs) Bool.false_ne_true
  | byt i =>
    obtain ⟨t, rfl⟩ := rx
    cases y with
    | byt j => obtain ⟨t', rfl⟩ := ry; exact PySem.W.eq_bytes (fin_bl I q dec_byt)
    | _ => exact absurd (show false = true from hs) Bool.false_ne_true
  | _ => cases y <;> exact absurd (show false = true from hs) Bool.false_ne_true
theorem op_lt : OpR X (compareOp .Lt) (rI0 fun i j => .bl (decide (i < j))) := opB0 fun _ _ _ _ _ _ _ q => lt_int q
theorem op_le : OpR X (compareOp .LtE) (rI0 fun i j => .bl (decide (i ≤ j))) := opB0 fun _ _ _ _ _ _ _ q => le_int q
theorem op_gt : OpR X (compareOp .Gt) (rI0 fun i j => .bl (decide (j < i))) := opB0 fun _ _ _ _ _ _ _ q => gt_int q
theorem op_isN : OpR X (compareOp .Is) (fun x y H Q => y = .non ∧ Q (.bl (decide (x = .non))) H) := by
  intro pins s σ H x y v u Q I rx ry h
  obtain ⟨rfl, q⟩ := h
  cases ry
  refine is_none_gen (fin_bl I q ?_)
  cases x <;> first
    | (cases rx; rfl)
    | (obtain ⟨t, rfl⟩ := rx; rfl)
theorem op_notN : OpR X (compareOp .IsNot) (fun x y H Q => y = .non ∧ Q (.bl (!decide (x = .non))) H) := by
  intro pins s σ H x y v u Q I rx ry h
  obtain ⟨rfl, q⟩ := h
  cases ry
  refine isnot_none_gen (fin_bl I q ?_)
  cases x <;> first
    | (cases rx; rfl)
    | (obtain ⟨t, rfl⟩ := rx; rfl)
theorem OpR.or {f : Value → Value → Sem Value} {r r' : R2} (h : OpR X f r) (h' : OpR X f r') : OpR X f (fun x y H Q => r x y H Q ∨ r' x y H Q) := by
  intro pins s σ H x y v u Q I rx ry q
  rcases q with q | q
  · exact h pins s σ H x y v u Q I rx ry q
  · exact h' pins s σ H x y v u Q I rx ry q
theorem nomark (b : Expr) {op : CmpOp} (h : op ≠ .In := by decide) (h2 : op ≠ .NotIn := by decide) : behindInMarks op b = false := by
  have e1 : (op == CmpOp.In) = false := by cases op <;> first | rfl | exact absurd rfl h
  have e2 : (op == CmpOp.NotIn) = false := by cases op <;> first | rfl | exact absurd rfl h2
  cases b <;> simp [behindInMarks, e1, e2]
theorem pe_cmpR {op : CmpOp} {r : R2} (ho : OpR X (compareOp op) r) (ha : PE X a ta) (hb : PE X b tb) (hm : behindInMarks op b = false) : PE X (.Compare a [op] [b] pos) (tOp r ta tb) := by
  intro pins s σ H Q I h
  exact wpAny_Compare1 (binT ha hb I h fun v u s2 x y H2 I2 rx ry q => ho pins s2 σ H2 x y v u Q I2 rx ry q) hm
noncomputable def tTest (t : TE) : TT := fun σ H Q => t σ H fun x H' => ∃ k, x = .bl k ∧ Q k H'
theorem pt_cmpR {op : CmpOp} {r : R2} (ho : OpR X (compareOp op) r) (ha : PE X a ta) (hb : PE X b tb) (hm : behindInMarks op b = false) : PT X (.Compare a [op] [b] pos) (tTest (tOp r ta tb)) := by
  intro pins s σ H Q I h
  refine wpAny_isTrue_Compare1 (thn (ha pins s σ H _ I h) fun v s1 ⟨x, H1, I1, r1, q1⟩ => thn (hb pins s1 σ H1 _ I1 q1) fun u s2 ⟨y, H2, I2, r2, q2⟩ =>
    thn (ho pins s2 σ H2 x y v u _ I2 r1 r2 q2) fun c s3 ⟨z, H3, I3, r3, k, e, q3⟩ => ?_) hm
  subst e
  cases r3
  exact wpAny_truthy_bool ⟨H3, I3, q3⟩
noncomputable def tChain (r r' : R2) (ta tb tc : TE) : TE := fun σ H Q => ta σ H fun x H1 => tb σ H1 fun y H2 => r x y H2 fun z H3 => ∃ k, z = .bl k ∧
  (if k = true then tc σ H3 fun w' H4 => r' y w' H4 Q else Q (.bl false) H3)
theorem pe_chain {op op' : CmpOp} {r r' : R2} (ho : OpR X (compareOp op) r) (ho' : OpR X (compareOp op') r') (ha : PE X a ta) (hb : PE X b tb) (hc : PE X c tc)
    (hm : lastMarks [op, op'] [b, c] = false := by with_unfolding_all rfl) : PE X (.Compare a [op, op'] [b, c] pos) (tChain r r' ta tb tc) := by
  intro pins s σ H Q I h
  refine Compare_chain (thn (ha pins s σ H _ I h) fun v s1 ⟨x, H1, I1, r1, q1⟩ => chain_link (thn (hb pins s1 σ H1 _ I1 q1) fun u s2 ⟨y, H2, I2, r2, q2⟩ =>
    thn (ho pins s2 σ H2 x y v u _ I2 r1 r2 q2) fun d s3 ⟨z, H3, I3, r3, k, e, q3⟩ => ?_)) hm
  subst e
  cases r3
  refine wpAny_truthy_bool ?_
  cases k with
  | false => exact ite_ff ⟨.bl false, H3, I3, rfl, q3⟩
  | true => exact ite_tt (chain_last (thn (hc pins s3 σ H3 _ I3 q3) fun w' s4 ⟨z', H4, I4, r4, q4⟩ => ho' pins s4 σ H4 y z' u w' Q I4 r2 r4 q4))
theorem pt_chain {op op' : CmpOp} {r r' : R2} (ho : OpR X (compareOp op) r) (ho' : OpR X (compareOp op') r') (ha : PE X a ta) (hb : PE X b tb) (hc : PE X c tc)
    (hm : lastMarks [op, op'] [b, c] = false := by with_unfolding_all rfl) : PT X (.Compare a [op, op'] [b, c] pos) (tTest (tChain r r' ta tb tc)) := by
  intro pins s σ H Q I h
  refine isTrue_chain (thn (ha pins s σ H _ I h) fun v s1 ⟨x, H1, I1, r1, q1⟩ => test_link (thn (hb pins s1 σ H1 _ I1 q1) fun u s2 ⟨y, H2, I2, r2, q2⟩ =>
    thn (ho pins s2 σ H2 x y v u _ I2 r1 r2 q2) fun d s3 ⟨z, H3, I3, r3, k, e, q3⟩ => ?_)) hm
  subst e
  cases r3
  refine wpAny_truthy_bool ?_
  cases k with
  | false =>
    obtain ⟨k', e', q'⟩ := q3
    cases e'
    exact ite_ff ⟨H3, I3, q'⟩
  | true =>
    refine ite_tt (test_last (thn (hc pins s3 σ H3 _ I3 q3) fun w' s4 ⟨z', H4, I4, r4, q4⟩ => thn (ho' pins s4 σ H4 y z' u w' _ I4 r2 r4 q4) fun d' s5 ⟨z2, H5, I5, r5, k2, e2, q5⟩ => ?_))
    subst e2
    cases r5
    exact wpAny_truthy_bool ⟨H5, I5, q5⟩
noncomputable def TruV (K : PySem.W.Frag) (x : V) (H : Hp) (k : Bool) : Prop :=
  match x with
  | .non => k = false
  | .bl b => k = b
  | .int i => k = (i != 0)
  | .str y => y.length ≤ sizeLine ∧ k = ((y.length : Int) != 0)
  | .byt y => y.size ≤ sizeLine ∧ k = ((y.size : Int) != 0)
  | .ref p => (∃ xs, SqL K H p xs ∧ k = !xs.isEmpty) ∨ (∃ xs, SqT K H p xs ∧ k = !xs.isEmpty) ∨ ∃ kvs, H p = some (.dK kvs) ∧ k = !kvs.isEmpty
  | _ => False
theorem isEmpty_kv {κ : Type} {kvs : List (κ × V)} {vs : List (κ × Value)} (r : KV kvs vs) : (!vs.isEmpty) = !kvs.isEmpty := by
  cases r <;> rfl
theorem isEmpty_of {xs : List V} {its : List Value} (r : Vals xs its) : (!its.toArray.isEmpty) = !xs.isEmpty := by
  cases r <;> simp
theorem line63 : (sizeLine : Nat) < 2 ^ 63 := by rw [sizeLine_eq]; decide
theorem tru_ok : TruR X (fun x H Q => ∃ k, TruV X.K x H k ∧ Q k H) := by
  intro pins s σ H x v Q I rx h
  obtain ⟨k, e, q⟩ := h
  have hl := line63
  have hs : sizeLine = 16777216 := sizeLine_eq
  cases x with
  | non =>
    cases rx
    have e' : k = false := e
    subst e'
    exact truthy_none ⟨H, I, q⟩
  | bl b =>
    cases rx
    have e' : k = b := e
    subst e'
    exact wpAny_truthy_bool ⟨H, I, q⟩
  | int i =>
    obtain ⟨t, rfl⟩ := rx
    have e' : k = (i != 0) := e
    subst e'
    exact PySem.P.truthy_int ⟨H, I, q⟩
  | str y =>
    obtain ⟨t, rfl⟩ := rx
    obtain ⟨hy, e'⟩ : y.length ≤ sizeLine ∧ k = ((y.length : Int) != 0) := e
    subst e'
    exact PySem.P.truthy_str (by omega) ⟨H, I.tok _, q⟩
  | byt y =>
    obtain ⟨t, rfl⟩ := rx
    obtain ⟨hy, e'⟩ : y.size ≤ sizeLine ∧ k = ((y.size : Int) != 0) := e
    subst e'
    exact PySem.W.truthy_bytes (by omega) ⟨H, I.tok _, q⟩
  | ref p =>
    cases rx
    have e' : (∃ xs, SqL X.K H p xs ∧ k = !xs.isEmpty) ∨ (∃ xs, SqT X.K H p xs ∧ k = !xs.isEmpty) ∨ ∃ kvs, H p = some (.dK kvs) ∧ k = !kvs.isEmpty := e
    rcases e' with ⟨xs, hx, e'⟩ | ⟨xs, hx, e'⟩ | ⟨kvs, hx, e'⟩
    · subst e'
      obtain ⟨its, r, pl, hz⟩ := I.list hx
      have hlen := r.length
      exact wpAny_truthy_list pl.isList (by simp only [List.size_toArray]; omega) ⟨H, I.tok _, by rw [isEmpty_of r]; exact q⟩
    · subst e'
      obtain ⟨its, r, pl, hz⟩ := I.tuple hx
      have hlen := r.length
      exact truthy_tuple pl (by simp only [List.size_toArray]; omega) ⟨H, I.tok _, by rw [isEmpty_of r]; exact q⟩
    · subst e'
      obtain ⟨hz, hS, vs, r, m⟩ : kvs.length ≤ sizeLine ∧ (p == sysModules) = false ∧ ∃ vs, KV kvs vs ∧ s.heap.DictOf (mixKind X.prog X.w) p vs := I.hok p _ hx
      have hlen : kvs.length = vs.length := Paired.length r
      exact wpAny_truthy_dict hS m (by omega) ⟨H, I.tok _, by rw [isEmpty_kv r]; exact q⟩
  | _ => exact (show False from e).elim
theorem pt_truth (ha : PE X a ta) (he : ∀ whole, isTrue a X.env whole = (do let v ← whole; standAt a.pos; holding [v] (truthy v))) :
    PT X a (fun σ H Q => ta σ H fun x H' => ∃ k, TruV X.K x H' k ∧ Q k H') := by
  intro pins s σ H Q I h
  exact isTrue_plain (thn (ha pins s σ H _ I h) fun v s1 ⟨x, H1, I1, r1, q1⟩ => tru_ok pins s1 σ H1 x v Q I1 r1 q1) (he _)
theorem op_add_str : OpR X (binaryOp .Add) (fun x y H Q => ∃ i j, x = .str i ∧ y = .str j ∧ i.length + j.length ≤ sizeLine ∧ Q (.str (i ++ j)) H) := by
  intro pins s σ H x y v u Q I rx ry h
  obtain ⟨i, j, rfl, rfl, hz, q⟩ := h
  obtain ⟨t, rfl⟩ := rx
  obtain ⟨t', rfl⟩ := ry
  exact add_str (fun t' tk => ⟨.str (i ++ j), H, I.tok _, ⟨_, rfl⟩, q⟩) hz
theorem vals1 {x : V} {us : List Value} (r : Vals [x] us) : ∃ u, us = [u] ∧ RelV x u := by
  cases r with
  | cons r1 r2 => cases r2; exact ⟨_, rfl, r1⟩
theorem vals2 {x y : V} {us : List Value} (r : Vals [x, y] us) : ∃ u w', us = [u, w'] ∧ RelV x u ∧ RelV y w' := by
  cases r with
  | cons r1 r2 =>
    cases r2 with
    | cons r3 r4 => cases r4; exact ⟨_, _, rfl, r1, r3⟩
theorem call_abs : CallR X (.builtin "abs") (fun xs H Q => ∃ i, xs = [.int i] ∧ Q (.int (if i < 0 then -i else i)) H) := by
  intro pins s σ H xs us Q I r h
  obtain ⟨i, rfl, q⟩ := h
  obtain ⟨u, rfl, t, rfl⟩ := vals1 r
  exact call_abs_int fun u tk => ⟨.int (if i < 0 then -i else i), H, I.tok _, ⟨_, rfl⟩, q⟩
theorem call_max2 (hc : X.calm = true) : CallR X (.builtin "max") (fun xs H Q => ∃ i j, xs = [.int i, .int j] ∧ Q (.int (if j > i then j else i)) H) := by
  intro pins s σ H xs us Q I r h
  obtain ⟨i, j, rfl, q⟩ := h
  obtain ⟨u, w', rfl, ⟨t, rfl⟩, ⟨t', rfl⟩⟩ := vals2 r
  refine max_two_ints (I.ok.hd hc) fun h' tk k => ⟨_, H, I.kept k, ?_, q⟩
  by_cases hj : j > i
  · rw [if_pos hj, if_pos hj]; exact ⟨_, rfl⟩
  · rw [if_neg hj, if_neg hj]; exact ⟨_, rfl⟩
theorem call_min2 (hc : X.calm = true) : CallR X (.builtin "min") (fun xs H Q => ∃ i j, xs = [.int i, .int j] ∧ Q (.int (if j < i then j else i)) H) := by
  intro pins s σ H xs us Q I r h
  obtain ⟨i, j, rfl, q⟩ := h
  obtain ⟨u, w', rfl, ⟨t, rfl⟩, ⟨t', rfl⟩⟩ := vals2 r
  refine min_two_ints (I.ok.hd hc) fun h' tk k => ⟨_, H, I.kept k, ?_, q⟩
  by_cases hj : j < i
  · rw [if_pos hj, if_pos hj]; exact ⟨_, rfl⟩
  · rw [if_neg hj, if_neg hj]; exact ⟨_, rfl⟩
end
end L2
namespace L2
open PySem PySem.Spec PyProof.Rows
structure ObjM (h : Heap) (x dx C : Addr) (mA : Str → Option Value) : Prop where
  obj : h.get? x = some (PySem.W.instObj C dx)
  ns : h.Ns1 dx mA
  ne : dx ≠ x
section
variable {prog : Program} {w : World} {A : Around} {E : Value → Shared → Prop} {s : Shared} {K : PySem.W.Frag} {x dx C f : Addr} {mA : Str → Option Value} {name : Str} {v : Value}
end
section
variable {P : Program} {w : World} {H H' : Hp} {h h' : Heap} {a C dx : Addr} {fs fs' : List (Str × V)}
end
structure Cls (K : PySem.W.Frag) (C : Addr) : Prop where
  pg : PySem.W.plainGet K C Str.empty = true
  hd : PySem.W.hasDictIn K C = true
  po : PySem.W.plainOver K C = true
  sa : PySem.W.findIn K (.ref C) "__setattr__" = some (some (.builtin "object.__setattr__"))
structure Con (K : PySem.W.Frag) (C : Addr) (f : Str) (v : V) (u : Value) : Prop where
  at_ : PySem.W.findIn K (.ref C) f = some (some u)
  rel : RelV v u
  get : PySem.W.specialIn K u "__get__" = some none
  cp : PySem.W.copiedNames.contains f = false
structure Meth (K : PySem.W.Frag) (C : Addr) (m : Str) (f : Addr) : Prop where
  at_ : PySem.W.findIn K (.ref C) m = some (some (.ref f))
  fn : PySem.W.isFn K (.ref f) = true
  kp : PySem.W.keepIn K (.ref f) = true
section
variable {X : Cx} {pins : List (Addr × Obj)} {σ : St} {H : Hp} {s : Shared} {a C dx : Addr} {fs : List (Str × V)} {f : Str} {v : V} {A : Around} {E : Value → Shared → Prop}
end
section
variable {X : Cx} {o e value : Expr} {f : Str} {pos pos' tpos : Pos} {ta tv : TE}
end
section
variable {X : Cx} {pins : List (Addr × Obj)} {σ : St} {H : Hp} {s : Shared} {A : Around} {E : Value → Shared → Prop} {Q : Value → Shared → Prop} {c : Value} {b : Bool}
inductive TyOf (K : PySem.W.Frag) (H : Hp) : V → Value → Prop where
  | non : TyOf K H .non (.type "NoneType")
  | bl (x : Bool) : TyOf K H (.bl x) (.type "bool")
  | int (i : Int) : TyOf K H (.int i) (.type "int")
  | str (x : Str) : TyOf K H (.str x) (.type "str")
  | flt (x : UInt64) : TyOf K H (.flt x) (.type "float")
  | lst {a : Addr} {xs : List V} (e : H a = some (.lst xs)) : TyOf K H (.ref a) (.type "list")
  | frz {a : Addr} {o : Obj} {xs : List V} (e : H a = some (.frz o (.lst xs))) : TyOf K H (.ref a) (.type "list")
  | tup {a : Addr} {xs : List V} (e : H a = some (.tup xs)) : TyOf K H (.ref a) (.type "tuple")
  | dK {a : Addr} {kvs : List (Key × V)} (e : H a = some (.dK kvs)) : TyOf K H (.ref a) (.type "dict")
  | dT {a : Addr} {kvs : List (List Key × V)} (e : H a = some (.dT kvs)) : TyOf K H (.ref a) (.type "dict")
  | ins {a C dx : Addr} {fs : List (Str × V)} (e : H a = some (.ins C dx fs)) (cl : Cls K C) (ha : PySem.W.findIn K (.ref C) "__class__" = some (some (.builtin "object.__class__")))
      (hn : PySem.W.specialIn K (.builtin "object.__class__") "__get__" = some (some (.builtin "getset_descriptor.__get__"))) (htk : PySem.W.takesIn K (.builtin "object.__class__") = some true)
      (hm : PySem.W.mroIn K C (.type "object") = some true) : TyOf K H (.ref a) (.ref C)
end
end L2
namespace L2
open PySem PySem.Spec PyProof.Rows
structure Room (k : Nat) (A : Around) : Prop where
  hd : A.handled = none
  dp : A.depth + 3 * k + 5 < recursionLimit
  un : A.units + 16 * k + 200 < cLine
  gd : A.guards = some []
theorem Room.mono {j k : Nat} {A : Around} (r : Room k A) (h : j ≤ k) : Room j A := ⟨r.hd, by have := r.dp; omega, by have := r.un; omega, r.gd⟩
theorem Room.deeper {k : Nat} {A : Around} (r : Room (k + 1) A) (env : Env) : Room k (A.deeper env) :=
  ⟨r.hd, by have := r.dp; show A.depth + 1 + 3 * k + 5 < _; omega, by have := r.un; show A.units + 3 + 16 * k + 200 < _; omega, r.gd⟩
theorem Room.depth {k : Nat} {A : Around} (r : Room k A) : A.depth < recursionLimit := by have := r.dp; omega
theorem Room.units {k : Nat} {A : Around} (r : Room k A) : A.units + 64 < cLine := by have := r.un; omega
noncomputable def tNil : TA := fun _ H Q => Q [] H
noncomputable def tCons (ta : TE) (tr : TA) : TA := fun σ H Q => ta σ H fun x H1 => tr σ H1 fun xs H2 => Q (x :: xs) H2
section
variable {X : Cx} {e : Expr} {es : List Expr} {te : TE} {t : TA} {pos : Pos}
theorem pa_nil : PA X [] tNil := fun _ _ _ _ H Q I h => Calls.spliced_nil ⟨[], H, I, .nil, h⟩
theorem pa_cons (ha : PE X e te) (hr : PA X es t) (hs : starEach (e :: es) X.env = (false, eval e X.env) :: starEach es X.env := by rfl) : PA X (e :: es) (tCons te t) := by
  intro pos pins s σ H Q I h
  rw [hs]
  show wpAny _ _ (spliced ((false, eval e X.env) :: backTo pos (starEach es X.env))) _ _ s
  refine Calls.spliced_cons (thn (ha pins s σ H _ I h) fun u s1 ⟨x, H1, I1, r1, q1⟩ => ?_)
  exact thn (hr pos pins s1 σ H1 _ I1 q1) fun us s2 ⟨xs, H2, I2, r2, q2⟩ => ⟨x :: xs, H2, I2, .cons r1 r2, q2⟩
noncomputable def tTup (t : TA) : TE := fun σ H Q => t σ H fun xs H1 => xs.length ≤ sizeLine ∧ ∀ p, H1 p = none → Q (.ref p) (upd H1 p (.tup xs))
noncomputable def tLst (t : TA) : TE := fun σ H Q => t σ H fun xs H1 => xs.length ≤ sizeLine ∧ ∀ p, H1 p = none → Q (.ref p) (upd H1 p (.lst xs))
theorem pe_tup {x1} (h : PA X es t) : PE X (.Tuple es x1 pos) (tTup t) := by
  intro pins s σ H Q I hq
  refine wpAny_Tuple_spliced (thn (h pos pins s σ H _ I hq) fun us s1 ⟨xs, H1, I1, r, z, q⟩ => ⟨by rw [← r.length]; exact z, ?_⟩)
  have hf : H1 s1.heap.objs.size = none := I1.hok.fresh (Nat.le_refl _)
  refine ⟨.ref s1.heap.objs.size, upd H1 s1.heap.objs.size (.tup xs), I1.laid (t' := s1.toks) (fun b u e => Heap.get?_push_of_some _ e) (Nat.le_refl _) ?_, rfl, q _ hf⟩
  exact ⟨z, us, r, ⟨_, Heap.get?_push_size _ rfl, rfl, _, rfl⟩⟩
theorem pe_lst (h : PA X es t) : PE X (.List es pos) (tLst t) := by
  intro pins s σ H Q I hq
  refine wpAny_List_spliced (thn (h pos pins s σ H _ I hq) fun us s1 ⟨xs, H1, I1, r, z, q⟩ => ⟨by rw [← r.length]; exact z, ?_⟩)
  have hf : H1 s1.heap.objs.size = none := I1.hok.fresh (Nat.le_refl _)
  refine ⟨.ref s1.heap.objs.size, upd H1 s1.heap.objs.size (.lst xs), I1.laid (t' := s1.toks) (fun b u e => Heap.get?_push_of_some _ e) (Nat.le_refl _) ?_, rfl, q _ hf⟩
  exact ⟨z, us, 0, r, Heap.get?_push_size _ rfl⟩
end
noncomputable abbrev Sp := List V → Hp → VK → XK → Prop
noncomputable abbrev CXT := List Env → Hp → Shared → XK → Value → Shared → Prop
structure Env0 (P : Program) (w : World) (K : PySem.W.Frag) (mg : Str → Option Value) (base : Heap) (A : Around) (outer : List Env) (s : Shared) (H : Hp) : Prop where
  frames : A.frames = some outer
  mod : Mod K mg base
  bs : ∀ b o, base.get? b = some o → s.heap.get? b = some o ∧ H b = none
  bsz : base.objs.size ≤ s.heap.objs.size
  funs : s.heap.FunFrames base outer
  frf : ∀ b ∈ frs outer, H b = none
  hok : HOk P w H s.heap
  bare : AllBare s.gens
noncomputable def CE (outer : List Env) (P : Program) (w : World) (H : Hp) (s : Shared) (Q : VK) (u : Value) (s' : Shared) : Prop :=
  ∃ v H', s'.os = s.os ∧ AllBare s'.gens ∧ Un (frs outer) [] H H' s.heap s'.heap ∧ HOk P w H' s'.heap ∧ RelV v u ∧ Q v H'
noncomputable def CR (CX : CXT) (outer : List Env) (P : Program) (w : World) (H : Hp) (s : Shared) (Q : VK) (E : XK) (r : Result) (s' : Shared) : Prop :=
  match r with
  | .ok (.ret u) => CE outer P w H s Q u s'
  | .ok _ => False
  | .error e => CX outer H s E e s'
structure FnOk (P : Program) (w : World) (K : PySem.W.Frag) (mg : Str → Option Value) (base : Heap) (CX : CXT) (k : Nat) (f : Addr) (fd : FuncData) (ps : List Str) (sp : Sp) : Prop where
  len : ∀ vs H Q E, sp vs H Q E → vs.length = ps.length
  run : ∀ (A : Around) (outer : List Env) (s : Shared) (H : Hp) (args : Args) (us : List Value) (vs : List V) (Q : VK) (E : XK), Room k A → Env0 P w K mg base A outer s H → BindsTo s fd args (ps.zip us) → Vals vs us → sp vs H Q E →
    codeAny (model P w) A (.call (.ref f) args) (CR CX outer P w H s Q E) s
theorem FnOk.mono {P : Program} {w : World} {K : PySem.W.Frag} {mg : Str → Option Value} {base : Heap} {CX : CXT} {j k : Nat} {f : Addr} {fd : FuncData} {ps : List Str} {sp : Sp} (F : FnOk P w K mg base CX j f fd ps sp) (h : j ≤ k) :
    FnOk P w K mg base CX k f fd ps sp := ⟨F.len, fun A outer s H args us vs Q E hr => F.run A outer s H args us vs Q E (hr.mono h)⟩
section
variable {X : Cx} {pins : List (Addr × Obj)} {σ : St} {H : Hp} {s s' : Shared}
theorem Inv.env0 (I : Inv X pins σ H s) : Env0 X.prog X.w X.K X.mg X.base X.A X.stack s H :=
  ⟨I.ok.frames, I.ok.mod, I.bs, Nat.le_trans I.ok.bsz I.sz, I.stack, I.stkFree, I.hok, I.bare⟩
theorem Inv.after {Q : VK} {u : Value} (I : Inv X pins σ H s) (h : CE X.stack X.prog X.w H s Q u s') : EP X pins σ Q u s' := by
  obtain ⟨v, H', os, bare, un, hok, r, q⟩ := h
  obtain ⟨hh, g, d, t, os'⟩ := s'
  obtain rfl : os' = s.os := os
  exact ⟨v, H', I.call (h' := hh) (g' := g) (d' := d) (t' := t) (ch := []) un hok bare (fun b z => absurd z (by simp)), r, q⟩
end
noncomputable def tCall (sp : Sp) (dvs : List V) (E : XK) (t : TA) : TE := fun σ H Q => t σ H fun vs H1 => sp (vs ++ dvs) H1 Q E
noncomputable def Binds (K : PySem.W.Frag) (fd : FuncData) (ps : List Str) (ds : List Value) : Prop :=
  ∀ (s : Shared) (us : List Value), K.In s.heap → (us ++ ds).length = ps.length → BindsTo s fd ⟨us, []⟩ (ps.zip (us ++ ds))
theorem Binds.all {K : PySem.W.Frag} {fd : FuncData} {ps : List Str} (h : ∀ us : List Value, us.length = ps.length → bindArgs fd ⟨us, []⟩ = pure (ps.zip us)) : Binds K fd ps [] := fun s us _ hl => by
  rw [List.append_nil] at hl ⊢
  exact .of_eq (h us hl)
noncomputable def Passes (CX : CXT) (X : Cx) (E : XK) : Prop := ∀ (pins : List (Addr × Obj)) (σ : St) (H : Hp) (s : Shared) (e : Value) (s' : Shared), Inv X pins σ H s → CX X.stack H s E e s' → X.xe e s'
section
variable {X : Cx} {CX : CXT} {k : Nat} {f C : Addr} {fd : FuncData} {ps : List Str} {sp : Sp} {dvs : List V} {ds : List Value} {E : XK} {x m : Str} {p pos apos : Pos} {e o : Expr} {es : List Expr} {ta : TE} {t : TA}
theorem run_fn {pins : List (Addr × Obj)} {σ : St} {H : Hp} {s : Shared} {Q : VK} {us : List Value} {vs : List V} (F : FnOk X.prog X.w X.K X.mg X.base CX k f fd ps sp) (hr : Room k X.A) (hb : Binds X.K fd ps ds) (hd : Vals dvs ds) (hx : Passes CX X E)
    (I : Inv X pins σ H s) (r : Vals vs us) (h : sp (vs ++ dvs) H Q E) : wpAny (model X.prog X.w) X.A (call (.ref f) us) (EP X pins σ Q) X.xe s := by
  have r2 : Vals (vs ++ dvs) (us ++ ds) := r.append hd
  have hl : (us ++ ds).length = ps.length := by rw [← r2.length]; exact F.len _ _ _ _ h
  refine wpAny_call (codeAny_mono (F.run X.A X.stack s H ⟨us, []⟩ (us ++ ds) (vs ++ dvs) Q E hr I.env0 (hb s us I.kIn hl) r2 h) fun r s' hq => ?_)
  cases r with
  | error e => exact hx pins σ H s e s' I hq
  | ok fl =>
    cases fl with
    | ret u => exact I.after hq
    | next => exact False.elim hq
    | brk => exact False.elim hq
    | cont => exact False.elim hq
theorem pe_call (F : FnOk X.prog X.w X.K X.mg X.base CX k f fd ps sp) (hr : Room k X.A) (hg : Gl X x) (hm : X.mg x = some (.ref f)) (hk : PySem.W.keepIn X.K (.ref f) = true) (hb : Binds X.K fd ps ds) (hd : Vals dvs ds) (hx : Passes CX X E)
    (ha : PA X (e :: es) t) (hdb : (x == ("__debug__" : Str)) = false := by decide) (he : starEach (e :: es) X.env = (false, eval e X.env) :: starEach es X.env := by rfl) (hpl : (backTo pos (starEach es X.env)).any (·.1) = false := by rfl) :
    PE X (.Call (.Name x p) (e :: es) [] pos) (tCall sp dvs E t) := by
  intro pins s σ H Q I h
  refine wpAny_Call_Name_kw (ld_glob I hg hm ?_ hdb)
  refine PySem.W.callWith_K (h₀ := X.base) I.ok.mod.kin hk (thn (ha pos pins s σ H _ I h) fun us s1 ⟨vs, H1, I1, r, q⟩ => ⟨I1.kIn, ?_⟩) he hpl
  exact run_fn F hr hb hd hx I1 r q
structure Mk (K : PySem.W.Frag) (C f : Addr) : Prop where
  makes : PySem.W.makesIn K C = true
  init : PySem.W.findIn K (.ref C) "__init__" = some (some (.ref f))
  fn : PySem.W.isFn K (.ref f) = true
  kp : PySem.W.keepIn K (.ref C) = true
end
section
variable {X : Cx} {CX : CXT} {k : Nat} {f C : Addr} {fd : FuncData} {ps ks : List Str} {sp : Sp} {E : XK} {x m : Str} {p pos apos kpos : Pos} {e o : Expr} {es : List Expr} {kws : List Keyword} {te ta : TE} {t tk : TA} {nm : Option Str}
structure KBinds (K : PySem.W.Frag) (fd : FuncData) (ps ks : List Str) (g : List Value → List Value → List Value) (gV : List V → List V → List V) : Prop where
  to : ∀ (s : Shared) (us ws : List Value), K.In s.heap → (g us ws).length = ps.length → BindsTo s fd ⟨us, ks.zip ws⟩ (ps.zip (g us ws))
  rel : ∀ {vs : List V} {us : List Value} {zs : List V} {ws : List Value}, Vals vs us → Vals zs ws → Vals (gV vs zs) (g us ws)
variable {g : List Value → List Value → List Value} {gV : List V → List V → List V}
end
structure FnScope (N P : List Str) (sc : Scope) : Prop where
  kind : sc.kind = .function
  co : sc.isCoroutine = false
  gen : sc.isGenerator = false
  nd : N.Nodup
  pre : N.take P.length = P
  par : ∀ x ∈ P, sc.names.lookup x = some .local ∨ sc.names.lookup x = some .cell
  nofree : ∀ y ∈ sc.names, y.2 ≠ .free
theorem bindL_out {kindOf : Str → Option NameKind} {x : Str} : ∀ {binds : List (Str × Value)} {m : Str → Option Value}, (∀ v, (x, v) ∉ binds) → bindL kindOf binds m x = m x
  | [], _, _ => rfl
  | (n, v) :: r, m, h => by
    unfold bindL
    rw [bindL_out fun w hw => h w (List.mem_cons_of_mem _ hw)]
    split
    · have : x ≠ n := by rintro rfl; exact h v List.mem_cons_self
      simp [this]
    · rfl
theorem bindC_out {kindOf : Str → Option NameKind} {x : Str} : ∀ {binds : List (Str × Value)} {m : Str → Option Value}, (∀ v, (x, v) ∉ binds) → bindC kindOf binds m x = m x
  | [], _, _ => rfl
  | (n, v) :: r, m, h => by
    unfold bindC
    rw [bindC_out fun w hw => h w (List.mem_cons_of_mem _ hw)]
    split
    · rfl
    · have : x ≠ n := by rintro rfl; exact h v List.mem_cons_self
      simp [this]
theorem bindL_get {kindOf : Str → Option NameKind} {x : Str} {v : Value} : ∀ {P : List Str} {vs : List Value} {i : Nat} {m : Str → Option Value}, P.Nodup → P[i]? = some x → vs[i]? = some v → kindOf x = some .local →
    bindL kindOf (P.zip vs) m x = some v
  | [], _, _, _, _, h, _, _ => by simp at h
  | _ :: _, [], _, _, _, _, h, _ => by simp at h
  | p :: P, w :: vs, 0, m, nd, h1, h2, hk => by
    simp at h1 h2; subst h1; subst h2
    show bindL kindOf ((p, w) :: P.zip vs) m p = _
    unfold bindL
    rw [bindL_out fun v hv => (List.nodup_cons.mp nd).1 (List.of_mem_zip hv).1, if_pos hk]
    simp
  | p :: P, w :: vs, i + 1, m, nd, h1, h2, hk => by
    show bindL kindOf ((p, w) :: P.zip vs) m x = _
    unfold bindL
    exact bindL_get (i := i) (List.nodup_cons.mp nd).2 (by simpa using h1) (by simpa using h2) hk
theorem bindC_get {kindOf : Str → Option NameKind} {x : Str} {v : Value} : ∀ {P : List Str} {vs : List Value} {i : Nat} {m : Str → Option Value}, P.Nodup → P[i]? = some x → vs[i]? = some v → kindOf x ≠ some .local →
    bindC kindOf (P.zip vs) m x = some v
  | [], _, _, _, _, h, _, _ => by simp at h
  | _ :: _, [], _, _, _, _, h, _ => by simp at h
  | p :: P, w :: vs, 0, m, nd, h1, h2, hk => by
    simp at h1 h2; subst h1; subst h2
    show bindC kindOf ((p, w) :: P.zip vs) m p = _
    unfold bindC
    rw [bindC_out fun v hv => (List.nodup_cons.mp nd).1 (List.of_mem_zip hv).1, if_neg hk]
    simp
  | p :: P, w :: vs, i + 1, m, nd, h1, h2, hk => by
    show bindC kindOf ((p, w) :: P.zip vs) m x = _
    unfold bindC
    exact bindC_get (i := i) (List.nodup_cons.mp nd).2 (by simpa using h1) (by simpa using h2) hk
noncomputable def start (N : List Str) (vs : List V) : St := vs.map some ++ List.replicate (N.length - vs.length) none
noncomputable def cxOf (CX : CXT) (P : Program) (w : World) (K : PySem.W.Frag) (mg : Str → Option Value) (base : Heap) (N : List Str) (qual : Str) (scope : Scope) (f : Addr) (cd : Value) (A : Around) (outer : List Env) (s : Shared) (H : Hp) (E : XK) : Cx where
  prog := P
  w := w
  K := K
  mg := mg
  base := base
  A := A.deeper (envOfC qual scope s.heap.objs.size f cd)
  N := N
  s₀ := s
  H₀ := H
  env := envOfC qual scope s.heap.objs.size f cd
  outer := outer
  stack := envOfC qual scope s.heap.objs.size f cd :: outer
  ex := []
  calm := true
  fn := fun _ => true
  pn := []
  xe := fun e s' => wpAny (model P w) (A.deeper (envOfC qual scope s.heap.objs.size f cd)) (leaving (envOfC qual scope s.heap.objs.size f cd) e) (fun _ s'' => CX outer H s E e s'') (fun e' s'' => CX outer H s E e' s'') s'
theorem cell_has {sc : Scope} {n : Nat} {x : Str} (h : sc.names.lookup x = some .cell) : ∃ c, (cellsFrom n sc.names []).lookup x = some c := by
  have q := PySem.W.cellsFrom_some sc.names n [] (.inl h)
  exact Option.isSome_iff_exists.mp q
theorem inv_start {CX : CXT} {P : Program} {w : World} {K : PySem.W.Frag} {mg : Str → Option Value} {base : Heap} {N ps : List Str} {qual : Str} {scope : Scope} {f : Addr} {cd : Value} {A : Around} {outer : List Env} {s s1 : Shared} {H : Hp} {E : XK} {us : List Value} {vs : List V}
    (S : FnScope N ps scope) (hd : A.handled = none) (e0 : Env0 P w K mg base A outer s H) (hl : vs.length = ps.length) (r : Vals vs us)
    (x : InCallC s s.heap.objs.size (bindL (envOfC qual scope s.heap.objs.size f cd).kindOf (ps.zip us) fun _ => none) (cellsFrom (s.heap.objs.size + 1) scope.names []) (bindC (envOfC qual scope s.heap.objs.size f cd).kindOf (ps.zip us) fun _ => none) s1) :
    Inv (cxOf CX P w K mg base N qual scope f cd A outer s H E) [] (start N vs) H s1 := by
  have hpl : ps.length ≤ N.length := by have := congrArg List.length S.pre; rw [List.length_take] at this; omega
  obtain ⟨h1, tk, rfl, hk⟩ := x.done
  have noA : ∀ b : Addr, b ∉ (cxOf CX P w K mg base N qual scope f cd A outer s H E).ex := fun b z => absurd (show b ∈ ([] : List Addr) from z) (by simp)
  refine ⟨⟨e0.mod, S.kind, rfl, rfl, Nat.le_refl _, fun y z c h1 h2 => ?_, fun y hy => ?_, fun y c _ h => ?_, fun _ => hd, Around.frames_deeper e0.frames, .inr ⟨rfl, rfl⟩, fun b z => absurd z (noA b), e0.bs, e0.bsz, fun b _ _ => noA b, fun b z => absurd z (noA b), e0.funs, e0.frf⟩,
    rfl, e0.bare, Un.kept hk, ⟨_, x.toInCall.ns, fun i y v h1 h2 h3 => ?_⟩, fun y c h => ⟨_, x.cell y c h⟩, e0.hok.fresh (Nat.le_refl _), fun y c h => ?_, fun p hp => absurd (show p ∈ ([] : List (Addr × Obj)) from hp) (by simp), e0.hok.kept hk, ?_⟩
  · exact name_of_addr x.apart (PySem.mem_of_lookup h1) (PySem.mem_of_lookup h2)
  · have hy : scope.names.lookup y = some .cell ∨ scope.names.lookup y = some .free := hy
    rcases hy with hy | hy
    · exact cell_has hy
    · exact absurd rfl (S.nofree _ (PySem.mem_of_lookup hy))
  · exact Nat.le_of_lt (x.above y c (PySem.mem_of_lookup h))
  · have hi : i < vs.length := by
      unfold start at h2
      by_cases hi : i < vs.length
      · exact hi
      · rw [List.getElem?_append_right (by simpa using hi)] at h2
        rw [List.getElem?_replicate] at h2
        split at h2 <;> cases h2
    have ha : vs[i]? = some v := by
      unfold start at h2
      rw [List.getElem?_append_left (by simpa using hi), List.getElem?_map] at h2
      cases e : vs[i]? with
      | none => rw [e] at h2; cases h2
      | some a => rw [e] at h2; cases h2; rfl
    obtain ⟨u, hu, rv⟩ := r.get ha
    have hp : ps[i]? = some y := by
      rw [← S.pre, List.getElem?_take_of_lt (by omega)]; exact h1
    have ndP : ps.Nodup := by rw [← S.pre]; exact S.nd.sublist (List.take_sublist _ _)
    refine ⟨u, rv, ?_⟩
    rcases S.par y (List.mem_of_getElem? hp) with k | k
    · exact .inl ⟨k, bindL_get ndP hp hu k⟩
    · obtain ⟨c, e⟩ := cell_has (n := s.heap.objs.size + 1) k
      refine .inr ⟨.inl k, c, e, ?_⟩
      have q := x.cell y c e
      rw [bindC_get ndP hp hu (by show scope.names.lookup y ≠ _; rw [k]; decide)] at q
      exact q
  · exact e0.hok.fresh (Nat.le_of_lt (x.above y c (PySem.mem_of_lookup h)))
  · unfold start
    show _ = N.length
    rw [List.length_append, List.length_map, List.length_replicate]
    omega
theorem fn_of {CX : CXT} {P : Program} {w : World} {K : PySem.W.Frag} {mg : Str → Option Value} {base : Heap} {k : Nat} {f : Addr} {name qual : Str} {params : Arguments} {body : List Stmt} {scope : Scope} {dV kV doc pm cdv ct oc : Value} {an od : Option Addr}
    {osl : Array (Option Value)} {N ps : List Str} {sp : Sp} (lk : K.lookup f = some ⟨oc, od, .func (PySem.W.fnOf name qual params body scope dV kV doc pm an cdv ct), osl⟩) (hcd : PySem.W.codeIn K cdv qual = true) (S : FnScope N ps scope)
    (len : ∀ vs H Q E, sp vs H Q E → vs.length = ps.length)
    (hbody : ∀ (A : Around) (outer : List Env) (s : Shared) (H : Hp) (vs : List V) (Q : VK) (E : XK), Room k (A.deeper (envOfC qual scope s.heap.objs.size f cdv)) → sp vs H Q E →
      ∃ t, PSs (cxOf CX P w K mg base N qual scope f cdv A outer s H E) body t ∧ t { nx := fun _ H' => Q .non H', rt := Q } (start N vs) H) :
    FnOk P w K mg base CX (k + 1) f (PySem.W.fnOf name qual params body scope dV kV doc pm an cdv ct) ps sp := by
  refine ⟨len, fun A outer s H args us vs Q E hr e0 hb r hsp => ?_⟩
  have hl := len _ _ _ _ hsp
  have KX : K.In s.heap := e0.mod.kin.keeps fun b o e => (e0.bs b o e).1
  have lim : s.heap.NoLimit := e0.mod.nolimit.keeps fun b o e => (e0.bs b o e).1
  have hkind : ∀ y ∈ ps.zip us, scope.names.lookup y.1 = some .local ∨ (scope.names.lookup y.1 = some .cell ∧ ((cellsFrom (s.heap.objs.size + 1) scope.names []).lookup y.1).isSome = true) := fun ⟨n, v⟩ hy => by
    rcases S.par n (List.of_mem_zip hy).1 with q | q
    · exact .inl q
    · exact .inr ⟨q, PySem.W.cellsFrom_some _ _ _ (.inl q)⟩
  refine codeAny_call_function hr.depth (KX _ _ lk) rfl S.co S.gen rfl (PySem.W.codeRec_of KX hcd) (hb _ _ _ _ ?_)
  refine wpAny_newFunctionEnv_cells S.kind hkind fun env he s1 x => ?_
  subst he
  refine ⟨lim.keeps x.toInCall.keep, codeAny_func ?_⟩
  obtain ⟨t, ht, hq⟩ := hbody A outer s H vs Q E (hr.deeper _) hsp
  have I : Inv (cxOf CX P w K mg base N qual scope f cdv A outer s H E) [] (start N vs) H s1 := inv_start S hr.hd e0 hl r x
  refine wpAny_mono (ht [] s1 (start N vs) H _ I hq) (fun fl s' hs => ?_) fun e s' hs => hs
  have fin : ∀ {σ' : St} {H' : Hp} {v : V} {u : Value}, Inv (cxOf CX P w K mg base N qual scope f cdv A outer s H E) [] σ' H' s' → RelV v u → Q v H' → CE outer P w H s Q u s' :=
    fun {σ' H' v u} J rv q => ⟨v, H', J.os, J.bare, J.base, J.hok, rv, q⟩
  cases fl with
  | ret u =>
    obtain ⟨v, σ', H', J, rv, q⟩ := hs
    exact fin J rv q
  | next =>
    obtain ⟨σ', H', J, q⟩ := hs
    exact fin (v := V.non) (u := Value.none) J rfl q
  | brk =>
    obtain ⟨_, _, _, q⟩ := hs
    exact False.elim q
  | cont =>
    obtain ⟨_, _, _, q⟩ := hs
    exact False.elim q
end L2
namespace L2
open PySem PySem.Spec PyProof.Rows
section
variable {X : Cx} {x : Str} {p pos : Pos} {e : Expr} {es : List Expr} {t : TA} {id T : String} {r : List V → Hp → VK → Prop}
noncomputable def tCB (r : List V → Hp → VK → Prop) (t : TA) : TE := fun σ H Q => t σ H fun vs H1 => r vs H1 Q
theorem pe_callB (hc : CallR X (.builtin id) r) (hg : Gl X x) (hm : X.mg x = none) (hv : bootBuiltins x = some (.builtin id)) (ha : PA X (e :: es) t) (hn : x ≠ "__name__" := by decide) (hdb : (x == ("__debug__" : Str)) = false := by decide)
    (he : starEach (e :: es) X.env = (false, eval e X.env) :: starEach es X.env := by rfl) (hpl : (backTo pos (starEach es X.env)).any (·.1) = false := by rfl) : PE X (.Call (.Name x p) (e :: es) [] pos) (tCB r t) := by
  intro pins s σ H Q I h
  refine wpAny_Call_Name_kw (ld_blt I hg hm hv ?_ hn hdb)
  exact PyProof.Rows.callWith_builtin1 (thn (ha pos pins s σ H _ I h) fun us s1 ⟨vs, H1, I1, r1, q1⟩ => hc pins s1 σ H1 vs us Q I1 r1 q1) he hpl
theorem pe_callTy (hc : CallR X (.type T) r) (hg : Gl X x) (hm : X.mg x = none) (hv : bootBuiltins x = some (.type T)) (ha : PA X (e :: es) t) (hn : x ≠ "__name__" := by decide) (hdb : (x == ("__debug__" : Str)) = false := by decide)
    (he : starEach (e :: es) X.env = (false, eval e X.env) :: starEach es X.env := by rfl) (hpl : (backTo pos (starEach es X.env)).any (·.1) = false := by rfl) : PE X (.Call (.Name x p) (e :: es) [] pos) (tCB r t) := by
  intro pins s σ H Q I h
  refine wpAny_Call_Name_kw (ld_blt I hg hm hv ?_ hn hdb)
  exact PyProof.Rows.callWith_type1 (thn (ha pos pins s σ H _ I h) fun us s1 ⟨vs, H1, I1, r1, q1⟩ => hc pins s1 σ H1 vs us Q I1 r1 q1) he hpl
end
end L2
namespace HT
open PySem PyProof.Rows
section
open PySem.SeqAt
open PySem.AutoSeq1 (wpAny_loadPart')
open PySem.MeetsSeq PySem.MeetsSeq2 PySem.MeetsSeq3
end
section
variable {prog : Program} {w : World} {A : Around} {E : Value → Shared → Prop} {s : Shared}
theorem cat_tup {t b : Addr} {vs ws : List Value} {Q : Value → Shared → Prop} (ht : IsTup s.heap t vs.toArray) (hb : IsTup s.heap b ws.toArray) (hv : vs ≠ [])
    (h1 : ws = [] → Q (.ref t) s) (h2 : ws ≠ [] → Q (.ref s.heap.objs.size) { s with heap := s.heap.push { cls := .type "tuple", data := .seq (vs ++ ws).toArray } })
    (hsz : vs.length + ws.length ≤ sizeLine) : wpAny (model prog w) A (binaryOp .Add (.ref t) (.ref b)) Q E s := by
  obtain ⟨⟨cls, dd, data, sl⟩, ho, hc, n, hd⟩ := id ht
  obtain ⟨⟨cls2, dd2, data2, sl2⟩, ho2, hc2, n2, hd2⟩ := id hb
  simp only at hc hd hc2 hd2
  subst hc hd hc2 hd2
  have e : vs.toArray ++ ws.toArray = (vs ++ ws).toArray := by simp
  by_cases hw : ws = []
  · exact concat_meets ⟨_, ho, rfl⟩ ⟨_, ho2, rfl⟩ noFill_tuple_add seq_tuple_add PySem.F.slot_tuple_add PySem.F.entry_tuple_add (PySem.F.args_tuple_add_2 _ _)
      (tuple_addW1 t b vs.toArray ws.toArray n n2 dd dd2 sl sl2 (by simpa using hv) (by simp [hw])) ⟨ho, ho2, h1 hw⟩
  · refine concat_meets ⟨_, ho, rfl⟩ ⟨_, ho2, rfl⟩ noFill_tuple_add seq_tuple_add PySem.F.slot_tuple_add PySem.F.entry_tuple_add (PySem.F.args_tuple_add_2 _ _)
      (tuple_addW2 t b vs.toArray ws.toArray n n2 dd dd2 sl sl2 (by simpa using hv) (by simpa using hw) (by rw [List.size_toArray, List.size_toArray]; exact hsz)) ⟨ho, ho2, ?_⟩
    rw [e]
    exact h2 hw
noncomputable def sIx (n d : Nat) : Option Int → Nat
  | none => d
  | some v => if v < 0 then (v + (n : Int)).toNat else min v.toNat n
theorem sIx_none (n d : Nat) : sIx n d none = d := rfl
theorem sIx_nat (n d k : Nat) : sIx n d (some (k : Int)) = min k n := by
  show (if (k : Int) < 0 then ((k : Int) + (n : Int)).toNat else min (k : Int).toNat n) = min k n
  rw [if_neg (by omega), Int.toNat_natCast]
theorem sIx_le (n d : Nat) (hd : d ≤ n) (o : Option Int) : sIx n d o ≤ n := by
  cases o with
  | none => exact hd
  | some v =>
    show (if v < 0 then (v + (n : Int)).toNat else min v.toNat n) ≤ n
    by_cases hv : v < 0
    · rw [if_pos hv]; omega
    · rw [if_neg hv]; exact Nat.min_le_right _ _
theorem clip_eq (v : Int) (n d : Nat) : (if v < 0 then max (v + (n : Int)) 0 else min v (n : Int)) = ((sIx n d (some v) : Nat) : Int) := by
  show (if v < 0 then max (v + (n : Int)) 0 else min v (n : Int)) = (((if v < 0 then (v + (n : Int)).toNat else min v.toNat n) : Nat) : Int)
  by_cases hv : v < 0
  · simp only [if_pos hv]; omega
  · simp only [if_neg hv]; omega
theorem adjust_gen (lo hi : Option Int) (n : Nat) : Builtin.Slice.sliceAdjust lo hi 1 (n : Int) = (((sIx n 0 lo : Nat) : Int), ((sIx n n hi : Nat) : Int)) := by
  have h1 : ¬ ((1 : Int) < 0) := by omega
  unfold Builtin.Slice.sliceAdjust
  simp only [h1, if_false]
  refine Prod.ext ?_ ?_
  · cases lo with
    | none => rfl
    | some v => exact clip_eq v n 0
  · cases hi with
    | none => rfl
    | some v => exact clip_eq v n n
theorem places_gen (i j : Nat) : Builtin.Slice.slicePlaces (i : Int) (j : Int) 1 = j - i := by
  unfold Builtin.Slice.slicePlaces
  have h1 : (1 : Int) > 0 := by omega
  simp only [h1, if_true, Int.ediv_one]
  split <;> omega
theorem slicePart_ {v : Value} {o : Option Int} {Q : Option Int → Shared → Prop} (p : IsPart v o) (h : Q o s) : wpAny (model prog w) A (Builtin.Slice.slicePartIndex v) Q E s := by
  cases p with
  | none => exact slicePart_none h
  | int i t => exact slicePart_int h
theorem sliceApplied_gen {sl : Addr} {vl vu : Value} {lo hi : Option Int} {n : Nat} {Q : Int × Int × Nat → Shared → Prop} (hs : s.heap.IsSliceOf sl vl vu .none) (pl : IsPart vl lo) (pu : IsPart vu hi)
    (h : Q (((sIx n 0 lo : Nat) : Int), 1, sIx n n hi - sIx n 0 lo) s) : wpAny (model prog w) A (Builtin.Slice.sliceApplied (.ref sl) (pure (n : Int))) Q E s := by
  obtain ⟨os, hos, hcs, hds⟩ := id hs
  unfold Builtin.Slice.sliceApplied Builtin.Slice.sliceFields
  refine wpAny_bind (wpAny_bind (wpAny_field hos hds (x := vl) rfl (wpAny_bind (wpAny_field hos hds (x := vu) rfl (wpAny_bind (wpAny_field hos hds (x := .none) rfl (wpAny_pure ?_)))))))
  refine wpAny_bind (slicePart_none ?_)
  show wpAny _ _ (if ((1 : Int) == 0) = true then _ else _) _ _ s
  rw [if_neg (by decide)]
  refine wpAny_bind (slicePart_ pl (wpAny_bind (slicePart_ pu (wpAny_bind (wpAny_pure ?_)))))
  show wpAny _ _ (match Builtin.Slice.sliceAdjust lo hi 1 (n : Int) with | (lo, hi) => pure (lo, (1 : Int), Builtin.Slice.slicePlaces lo hi 1)) _ _ s
  rw [adjust_gen lo hi n]
  show wpAny _ _ (pure (((sIx n 0 lo : Nat) : Int), (1 : Int), Builtin.Slice.slicePlaces ((sIx n 0 lo : Nat) : Int) ((sIx n n hi : Nat) : Int) 1)) _ _ s
  rw [places_gen]
  exact wpAny_pure h
theorem pick_gen (xs : Array Value) (i k : Nat) : ((List.range k).filterMap fun (m : Nat) => xs[((i : Int) + (m : Int) * 1).toNat]?).toArray = ((xs.toList.drop i).take k).toArray := by
  have e : (fun (m : Nat) => xs[((i : Int) + (m : Int) * 1).toNat]?) = fun m => xs[i + m]? := by
    funext m
    have : ((i : Int) + (m : Int) * 1).toNat = i + m := by omega
    rw [this]
  rw [e]
  have := pick_run xs i k
  rw [List.filterMap_map] at this
  have e2 : ((fun x => xs[x]?) ∘ fun x => i + x) = fun m => xs[i + m]? := rfl
  rw [e2] at this
  rw [this]
theorem getItem_tuple_cut {t sl : Addr} {items : Array Value} {vl vu : Value} {lo hi : Option Int} {Q : Value → Shared → Prop} (ht : IsTup s.heap t items) (hs : s.heap.IsSliceOf sl vl vu .none) (pl : IsPart vl lo) (pu : IsPart vu hi)
    (hw : ¬ (sIx items.size 0 lo = 0 ∧ sIx items.size items.size hi = items.size))
    (h : Q (.ref s.heap.objs.size) { s with heap := s.heap.push { cls := .type "tuple", data := .seq ((items.toList.drop (sIx items.size 0 lo)).take (sIx items.size items.size hi - sIx items.size 0 lo)).toArray } })
    (hsz : items.size ≤ sizeLine) : wpAny (model prog w) A (getItem (.ref t) (.ref sl)) Q E s := by
  have htake : sizeOk (.seq ((items.toList.drop (sIx items.size 0 lo)).take (sIx items.size items.size hi - sIx items.size 0 lo)).toArray) := by
    show ((items.toList.drop (sIx items.size 0 lo)).take (sIx items.size items.size hi - sIx items.size 0 lo)).toArray.size ≤ sizeLine
    rw [List.size_toArray, List.length_take, List.length_drop, Array.length_toList]
    omega
  have hj : sIx items.size items.size hi ≤ items.size := sIx_le _ _ (Nat.le_refl _) hi
  obtain ⟨os, hos, hcs, hds⟩ := id hs
  have hTs : s.TypeIs (.ref sl) "slice" := ⟨os, hos, hcs⟩
  unfold getItem
  try with_reducible refine wpAny_holding ?_
  first | refine wpAny_bind (wpAny_pure ?_) | skip
  refine wpAny_bind (wpAny_sequenceKey ht.typeIs (by decide) ?_)
  refine wpAny_bind (wpAny_callSpecial?_slot (name := Str.ofString "__getitem__") ht.typeIs PyProof.Rows.slot_tuple_getitem
    (wpAny_call_entry PyProof.Rows.slot_tuple_getitem ht.typeIs entry_tuple_getitem ?_ (args_tuple_getitem _ _)))
  show wpAny _ _ (Builtin.Tuple.tupleItemsOf (.ref t) >>= _) _ _ s
  refine wpAny_bind (tupleItemsOf_ ht ?_)
  refine wpAny_bind (wpAny_typeOf hTs ?_)
  rw [if_pos (by decide)]
  refine wpAny_bind (sliceApplied_gen hs pl pu ?_)
  have hno : ¬ ((((sIx items.size 0 lo : Nat) : Int) == 0 && (1 : Int) == 1 && (sIx items.size items.size hi - sIx items.size 0 lo) == items.size) = true) := by
    intro q
    rw [Bool.and_eq_true, Bool.and_eq_true] at q
    have q1 : ((sIx items.size 0 lo : Nat) : Int) = 0 := eq_of_beq q.1.1
    have q2 : sIx items.size items.size hi - sIx items.size 0 lo = items.size := eq_of_beq q.2
    exact hw ⟨by omega, by omega⟩
  show wpAny _ _ (if (((sIx items.size 0 lo : Nat) : Int) == 0 && (1 : Int) == 1 && (sIx items.size items.size hi - sIx items.size 0 lo) == items.size) = true then _ else _) _ _ s
  rw [if_neg hno, pick_gen]
  first
    | exact wpAny_bind (m := Builtin.Tuple.tupleExact _) (wpAny_newObj_type (wpAny_pure ⟨_, rfl, wpAny_pure h⟩) htake)
    | exact wpAny_bind (m := Builtin.Tuple.tupleExact _) (wpAny_newObj_type (wpAny_bind (wpAny_pure (wpAny_pure ⟨_, rfl, wpAny_pure h⟩))) htake)
    | exact wpAny_bind (wpAny_bind (m := Builtin.Tuple.tupleExact _) (wpAny_newObj_type (wpAny_pure (wpAny_pure ⟨_, rfl, wpAny_pure h⟩)) htake))
    | exact wpAny_bind (wpAny_bind (m := Builtin.Tuple.tupleExact _) (wpAny_newObj_type (wpAny_pure ⟨_, rfl, wpAny_pure h⟩) htake))
end
end HT
namespace L2
open PySem PySem.Spec PyProof.Rows
noncomputable abbrev TO := St → Hp → (Option Int → Hp → Prop) → Prop
noncomputable def PO (X : Cx) (e : Option Expr) (t : TO) : Prop :=
  ∀ (pins : List (Addr × Obj)) (s : Shared) (σ : St) (H : Hp) (Q : Option Int → Hp → Prop), Inv X pins σ H s → t σ H Q →
    wpAny (model X.prog X.w) X.A (evalPart e X.env) (fun u s' => ∃ o H', Inv X pins σ H' s' ∧ IsPart u o ∧ Q o H') X.xe s
noncomputable def tNoPart : TO := fun _ H Q => Q none H
noncomputable def tPart (t : TE) : TO := fun σ H Q => t σ H fun x H1 => ∃ i, x = .int i ∧ Q (some i) H1
section
variable {X : Cx} {e : Expr} {te : TE} {lo hi : Option Expr} {tl th : TO} {pos p2 : Pos}
theorem po_none : PO X none tNoPart := by
  intro pins s σ H Q I h
  rw [evalPart_none]
  exact wpAny_pure ⟨none, H, I, .none, h⟩
theorem po_some (h : PE X e te) : PO X (some e) (tPart te) := by
  intro pins s σ H Q I hw
  rw [evalPart_some]
  refine thn (h pins s σ H _ I hw) fun u s1 ⟨x, H1, I1, r1, q1⟩ => ?_
  obtain ⟨i, rfl, q⟩ := q1
  obtain ⟨t, rfl⟩ := r1
  exact ⟨some i, H1, I1, .int i t, q⟩
noncomputable def SlR (X : Cx) (r : V → Option Int → Option Int → Hp → VK → Prop) : Prop :=
  ∀ (pins : List (Addr × Obj)) (s : Shared) (σ : St) (H : Hp) (x : V) (v vl vu : Value) (lo hi : Option Int) (sl : Addr) (Q : VK), Inv X pins σ H s → RelV x v → s.heap.IsSliceOf sl vl vu .none → IsPart vl lo → IsPart vu hi → r x lo hi H Q →
    ∃ T id, typeLookup (.type T) "__getitem__" = pure (some (.builtin id)) ∧ s.TypeIs v T ∧ wpAny (model X.prog X.w) X.A (getItem v (.ref sl)) (EP X pins σ Q) X.xe s
theorem SlR.or {r r' : V → Option Int → Option Int → Hp → VK → Prop} (h : SlR X r) (h' : SlR X r') : SlR X (fun x lo hi H Q => r x lo hi H Q ∨ r' x lo hi H Q) := by
  intro pins s σ H x v vl vu lo hi sl Q I rx hs pl pu q
  rcases q with q | q
  · exact h pins s σ H x v vl vu lo hi sl Q I rx hs pl pu q
  · exact h' pins s σ H x v vl vu lo hi sl Q I rx hs pl pu q
noncomputable def tSl (r : V → Option Int → Option Int → Hp → VK → Prop) (te : TE) (tl th : TO) : TE := fun σ H Q => te σ H fun x H1 => tl σ H1 fun l H2 => th σ H2 fun u H3 => r x l u H3 Q
theorem pe_slice {r : V → Option Int → Option Int → Hp → VK → Prop} (hr : SlR X r) (he : PE X e te) (hl : PO X lo tl) (hu : PO X hi th) : PE X (.Subscript e (.Slice lo hi none p2) pos) (tSl r te tl th) := by
  intro pins s σ H Q I h
  refine Subscript_ (thn (he pins s σ H _ I h) fun v s1 ⟨x, H1, I1, r1, q1⟩ => ?_)
  refine wpAny_Slice (thn (hl pins s1 σ H1 _ I1 q1) fun vl s2 ⟨l, H2, I2, pl, q2⟩ => thn (hu pins s2 σ H2 _ I2 q2) fun vu s3 ⟨u, H3, I3, pu, q3⟩ => ?_)
  rw [evalPart_none]
  refine wpAny_pure ?_
  have I4 : Inv X pins σ H3 { s3 with heap := s3.heap.push { cls := .type "slice", data := .fields #[vl, vu, .none] } } := I3.kept (t' := s3.toks) fun b ob q => Heap.get?_push_of_some _ q
  obtain ⟨T, id, hT, ht, hg⟩ := hr pins { s3 with heap := s3.heap.push { cls := .type "slice", data := .fields #[vl, vu, .none] } } σ H3 x v vl vu l u s3.heap.objs.size Q I4 r1 (Heap.IsSliceOf.new ..) pl pu q3
  show wpAny (model X.prog X.w) X.A (subscriptTail e (.Slice lo hi none p2) v (.ref s3.heap.objs.size)) (EP X pins σ Q) X.xe { s3 with heap := s3.heap.push { cls := .type "slice", data := .fields #[vl, vu, .none] } }
  exact tail_any (ops := [.ref s3.heap.objs.size, v]) ht hT hg (by with_unfolding_all rfl)
noncomputable def cutV (xs : List V) (lo hi : Option Int) : List V := (xs.drop (HT.sIx xs.length 0 lo)).take (HT.sIx xs.length xs.length hi - HT.sIx xs.length 0 lo)
theorem cutV_length (xs : List V) (lo hi : Option Int) : (cutV xs lo hi).length ≤ xs.length := by
  unfold cutV
  rw [List.length_take, List.length_drop]
  omega
noncomputable def rSlT (K : PySem.W.Frag) : V → Option Int → Option Int → Hp → VK → Prop := fun x lo hi H Q => ∃ a xs, x = .ref a ∧ SqT K H a xs ∧
  ¬ (HT.sIx xs.length 0 lo = 0 ∧ HT.sIx xs.length xs.length hi = xs.length) ∧ ∀ p, H p = none → Q (.ref p) (upd H p (.tup (cutV xs lo hi)))
theorem sl_tup : SlR X (rSlT X.K) := by
  intro pins s σ H x v vl vu lo hi sl Q I rx hs pl pu h
  obtain ⟨a, xs, rfl, hx, hw, q⟩ := h
  cases rx
  obtain ⟨its, r, ht, hz⟩ := I.tuple hx
  have hlen : its.toArray.size = xs.length := by rw [List.size_toArray]; exact r.length.symm
  refine ⟨"tuple", _, PyProof.Rows.slot_tuple_getitem.lookup, ht.typeIs, ?_⟩
  refine HT.getItem_tuple_cut ht hs pl pu (by rw [hlen]; exact hw) ?_ (by rw [hlen]; exact hz)
  rw [hlen]
  refine ⟨.ref s.heap.objs.size, _, I.laid (t' := s.toks) (o := .tup (cutV xs lo hi)) (fun b ob q => Heap.get?_push_of_some _ q) (Nat.le_refl _) ?_, rfl, q _ (I.hok.fresh (Nat.le_refl _))⟩
  exact ⟨Nat.le_trans (cutV_length xs lo hi) hz, _, (r.drop (HT.sIx xs.length 0 lo)).take (HT.sIx xs.length xs.length hi - HT.sIx xs.length 0 lo), IsTup.new _ _⟩
noncomputable def rCatT (K : PySem.W.Frag) : R2 := fun x y H Q => ∃ a b xs ys, x = .ref a ∧ y = .ref b ∧ SqT K H a xs ∧ SqT K H b ys ∧ xs ≠ [] ∧ xs.length + ys.length ≤ sizeLine ∧
  (ys = [] → Q (.ref a) H) ∧ (ys ≠ [] → ∀ p, H p = none → Q (.ref p) (upd H p (.tup (xs ++ ys))))
theorem Vals.nil_iff {xs : List V} {us : List Value} (r : Vals xs us) : us = [] ↔ xs = [] := by
  cases r with
  | nil => simp
  | cons _ _ => simp
theorem op_catT : OpR X (binaryOp .Add) (rCatT X.K) := by
  intro pins s σ H x y v u Q I rx ry h
  obtain ⟨a, b, xs, ys, rfl, rfl, ha, hb, hx, hz, q1, q2⟩ := h
  cases rx
  cases ry
  obtain ⟨its, r1, p1, _⟩ := I.tuple ha
  obtain ⟨its2, r2, p2, _⟩ := I.tuple hb
  refine HT.cat_tup p1 p2 (fun z => hx (r1.nil_iff.mp z)) (fun z => ⟨.ref a, H, I, rfl, q1 (r2.nil_iff.mp z)⟩) (fun z => ?_) (by rw [← r1.length, ← r2.length]; exact hz)
  refine ⟨.ref s.heap.objs.size, _, I.laid (t' := s.toks) (o := .tup (xs ++ ys)) (fun b ob q => Heap.get?_push_of_some _ q) (Nat.le_refl _) ?_, rfl, q2 (fun w => z (r2.nil_iff.mpr w)) _ (I.hok.fresh (Nat.le_refl _))⟩
  exact ⟨by rw [List.length_append]; exact hz, _, r1.append r2, IsTup.new _ _⟩
end
end L2
namespace L2
open PySem PySem.Spec PyProof.Rows
noncomputable def ixN (n : Nat) (i : Int) : Option Nat := if 0 ≤ i then (if i < n then some i.toNat else none) else if -(n : Int) ≤ i then some (i + n).toNat else none
noncomputable def atI {α : Type} (xs : List α) (i : Int) : Option α := (ixN xs.length i).bind fun j => xs[j]?
theorem ixN_seq {n : Nat} {i : Int} {j : Nat} (h : ixN n i = some j) : seqIndex? i n = some j ∧ j < n ∧ -(n : Int) ≤ i ∧ i < n := by
  unfold ixN at h
  by_cases h0 : 0 ≤ i
  · rw [if_pos h0] at h
    by_cases h1 : i < n
    · rw [if_pos h1] at h
      have e : i.toNat = j := Option.some.inj h
      exact ⟨by rw [seqIndex_of h0 h1, e], by omega, by omega, h1⟩
    · rw [if_neg h1] at h; cases h
  · rw [if_neg h0] at h
    by_cases h1 : -(n : Int) ≤ i
    · rw [if_pos h1] at h
      have e : (i + n).toNat = j := Option.some.inj h
      exact ⟨by rw [seqIndex_neg (by omega) h1, e], by omega, h1, by omega⟩
    · rw [if_neg h1] at h; cases h
theorem atI_get {α : Type} {xs : List α} {i : Int} {v : α} (h : atI xs i = some v) : ∃ j, seqIndex? i xs.length = some j ∧ xs[j]? = some v ∧ j < xs.length ∧ -(xs.length : Int) ≤ i ∧ i < xs.length := by
  unfold atI at h
  cases e : ixN xs.length i with
  | none => rw [e] at h; cases h
  | some j =>
    rw [e] at h
    obtain ⟨h1, h2, h3, h4⟩ := ixN_seq e
    exact ⟨j, h1, h, h2, h3, h4⟩
theorem atI_nat {α : Type} {xs : List α} {j : Nat} {v : α} (h : xs[j]? = some v) : atI xs (j : Int) = some v := by
  have hj : j < xs.length := (List.getElem?_eq_some_iff.mp h).1
  have e : ixN xs.length (j : Int) = some j := by
    unfold ixN
    rw [if_pos (by omega), if_pos (by omega)]; simp
  unfold atI; rw [e]; exact h
noncomputable def PlainIx (b : Expr) : Prop := ∀ o i, subscripted b false o i = operate [o, i] (getItem o i)
noncomputable def IxR (X : Cx) (r : R2) : Prop :=
  ∀ (value slice : Expr) (pins : List (Addr × Obj)) (s : Shared) (σ : St) (H : Hp) (x y : V) (v u : Value) (Q : VK), Inv X pins σ H s → RelV x v → RelV y u → r x y H Q →
    subscripted slice false v u = operate [v, u] (getItem v u) → wpAny (model X.prog X.w) X.A (subscriptTail value slice v u) (EP X pins σ Q) X.xe s
noncomputable def MtR (X : Cx) (id : String) (r : V → List V → Hp → VK → Prop) : Prop :=
  ∀ (pins : List (Addr × Obj)) (s : Shared) (σ : St) (H : Hp) (x : V) (xs : List V) (v : Value) (us : List Value) (Q : VK), Inv X pins σ H s → RelV x v → Vals xs us → r x xs H Q →
    wpAny (model X.prog X.w) X.A (call (.builtin id) (v :: us)) (EP X pins σ Q) X.xe s
section
variable {X : Cx} {a b : Expr} {ta tb : TE} {pos : Pos}
theorem IxR.or {r r' : R2} (h : IxR X r) (h' : IxR X r') : IxR X (fun x y H Q => r x y H Q ∨ r' x y H Q) := by
  intro value slice pins s σ H x y v u Q I rx ry q hs
  rcases q with q | q
  · exact h value slice pins s σ H x y v u Q I rx ry q hs
  · exact h' value slice pins s σ H x y v u Q I rx ry q hs
theorem pe_ix {r : R2} (hr : IxR X r) (ha : PE X a ta) (hb : PE X b tb) (hs : PlainIx b) : PE X (.Subscript a b pos) (tOp r ta tb) := by
  intro pins s σ H Q I h
  exact Subscript_ (binT ha hb I h fun v u s2 x y H2 I2 rx ry q => hr a b pins s2 σ H2 x y v u Q I2 rx ry q (hs _ _))
noncomputable def rIxL (K : PySem.W.Frag) : R2 := fun x y H Q => ∃ p xs i v, x = .ref p ∧ y = .int i ∧ SqL K H p xs ∧ atI xs i = some v ∧ Q v H
noncomputable def rIxT (K : PySem.W.Frag) : R2 := fun x y H Q => ∃ p xs i v, x = .ref p ∧ y = .int i ∧ SqT K H p xs ∧ atI xs i = some v ∧ Q v H
theorem ix_list : IxR X (rIxL X.K) := by
  intro value slice pins s σ H x y v u Q I rx ry h hs
  obtain ⟨p, xs, i, z, rfl, rfl, hq, he, q⟩ := h
  cases rx
  obtain ⟨t, rfl⟩ := ry
  obtain ⟨its, r, pl, hz⟩ := I.list hq
  obtain ⟨j, h1, h2, h3, h4, h5⟩ := atI_get he
  obtain ⟨w, ew, rw'⟩ := r.get h2
  have hl := r.length
  have hn := line63
  have fin : EP X pins σ Q w s := ⟨z, H, I, rw', q⟩
  by_cases h0 : 0 ≤ i
  · have hj : i.toNat = j := by
      rw [seqIndex_of h0 h5] at h1
      exact Option.some.inj h1
    exact item_listR pl.isList h0 (by omega) (by rw [hj]; simpa using ew) fin hs
  · have hj : (i + (its.toArray.size : Int)).toNat = j := by
      rw [seqIndex_neg (by omega) h4] at h1
      rw [List.size_toArray, ← hl]
      exact Option.some.inj h1
    exact subscriptTail_builtinR (x := w) pl.isList.typeIs slot_list_getitem.lookup
      (wpAny_getItem_list_neg (Q := fun r s' => r = w ∧ EP X pins σ Q r s') pl.isList (by omega) (by rw [List.size_toArray] <;> omega) (by omega) (by rw [hj]; simpa using ew) ⟨rfl, fin⟩) hs
theorem ix_tup : IxR X (rIxT X.K) := by
  intro value slice pins s σ H x y v u Q I rx ry h hs
  obtain ⟨p, xs, i, z, rfl, rfl, hq, he, q⟩ := h
  cases rx
  obtain ⟨t, rfl⟩ := ry
  obtain ⟨its, r, pl, hz⟩ := I.tuple hq
  obtain ⟨j, h1, h2, h3, h4, h5⟩ := atI_get he
  obtain ⟨w, ew, rw'⟩ := r.get h2
  have hl := r.length
  have hn := line63
  have fin : EP X pins σ Q w s := ⟨z, H, I, rw', q⟩
  exact subscriptTail_builtinR (x := w) pl.typeIs slot_tuple_getitem.lookup
    (getItem_tuple (j := j) (Q := fun r s' => r = w ∧ EP X pins σ Q r s') pl (by omega) (by omega) (by rw [List.size_toArray, ← hl]; exact h1) (by simpa using ew) ⟨rfl, fin⟩) hs
theorem mapSeq_set (its : List Value) (n j : Nat) (u : Value) : Obj.mapSeq (·.setIfInBounds j u) { cls := .type "list", data := .seq its.toArray n } = { cls := .type "list", data := .seq (its.set j u).toArray n } := by
  simp [Obj.mapSeq]
theorem Inv.lst {pins : List (Addr × Obj)} {σ : St} {H : Hp} {s : Shared} {p : Addr} {xs : List V} (I : Inv X pins σ H s) (h : H p = some (.lst xs)) :
    ∃ (its : List Value) (n : Nat), Vals xs its ∧ s.heap.get? p = some { cls := .type "list", data := .seq its.toArray n } ∧ xs.length ≤ sizeLine := by
  obtain ⟨z, its, n, r, e⟩ := I.hok p _ h
  exact ⟨its, n, r, e, z⟩
theorem Inv.lstUpd {pins : List (Addr × Obj)} {σ : St} {H : Hp} {s : Shared} {p : Addr} {xs ys : List V} {its its' : List Value} {n n' : Nat} {f : Obj → Obj} (I : Inv X pins σ H s) (h : H p = some (.lst xs))
    (ho : s.heap.get? p = some { cls := .type "list", data := .seq its.toArray n }) (hf : f { cls := .type "list", data := .seq its.toArray n } = { cls := .type "list", data := .seq its'.toArray n' }) (r : Vals ys its') (hz : ys.length ≤ sizeLine) (t : Nat) :
    Inv X pins σ (upd H p (.lst ys)) { s with heap := s.heap.update p f, toks := t } := by
  have e : (s.heap.update p f).get? p = some { cls := .type "list", data := .seq its'.toArray n' } := by
    rw [Heap.get?_update_self f ho (by rw [hf] <;> rfl), hf]
  refine I.write (x := p) (e := p) (by rw [h]; trivial) (.inl rfl) (fun b u hb q => (Heap.get?_update_other _ _ (Ne.symm hb)).trans q) ⟨_, e⟩ ?_
  exact ⟨hz, its', n', r, e⟩
noncomputable def rSetL : V → V → V → Hp → (Hp → Prop) → Prop := fun o i v H Q => ∃ p xs k j, o = .ref p ∧ i = .int k ∧ H p = some (.lst xs) ∧ ixN xs.length k = some j ∧ Q (upd H p (.lst (xs.set j v)))
theorem set_list : PSet X rSetL := by
  intro pins s σ H o i v ov iv u Q I ro ri rv h
  obtain ⟨p, xs, k, j, rfl, rfl, hp, hj, q⟩ := h
  cases ro
  obtain ⟨t, rfl⟩ := ri
  obtain ⟨its, n, r, ho, hz⟩ := I.lst hp
  obtain ⟨h1, h2, h3, h4⟩ := ixN_seq hj
  have hl := r.length
  have hn := line63
  have I' : Inv X pins σ (upd H p (.lst (xs.set j v))) { s with heap := s.heap.update p (Obj.mapSeq (·.setIfInBounds j u)) } :=
    I.lstUpd hp ho (mapSeq_set its n j u) (r.set rv j) (by rw [List.length_set]; exact hz) s.toks
  by_cases h0 : 0 ≤ k
  · have hk : k.toNat = j := by
      rw [seqIndex_of h0 h4] at h1
      exact Option.some.inj h1
    exact PySem.W.ki_setAt ho h0 (by omega) (by rw [List.size_toArray, ← hl]; exact h4) (by rw [hk]; exact ⟨_, I', q⟩)
  · have hk : (k + (its.toArray.size : Int)).toNat = j := by
      rw [seqIndex_neg (by omega) h3] at h1
      rw [List.size_toArray, ← hl]
      exact Option.some.inj h1
    exact PySem.W.ki_setBack ho (by omega) (by rw [List.size_toArray, ← hl]; exact h3) (by omega) (by rw [hk]; exact ⟨_, I', q⟩)
theorem slice_bounds (lo hi : Option Int) (n : Nat) : (sliceBounds lo hi none n).1 = ((HT.sIx n 0 lo : Nat) : Int) ∧ (sliceBounds lo hi none n).2.1 = ((HT.sIx n n hi : Nat) : Int) ∧ (sliceBounds lo hi none n).2.2 = 1 := by
  refine ⟨?_, ?_, rfl⟩
  · cases lo with
    | none => simp [sliceBounds, HT.sIx]
    | some i =>
      simp only [sliceBounds, HT.sIx, Option.getD_none, show (1 : Int) > 0 by decide, if_true]
      by_cases h : i < 0
      · simp only [h, if_true] <;> omega
      · simp only [h, if_false] <;> omega
  · cases hi with
    | none => simp [sliceBounds, HT.sIx]
    | some i =>
      simp only [sliceBounds, HT.sIx, Option.getD_none, show (1 : Int) > 0 by decide, if_true]
      by_cases h : i < 0
      · simp only [h, if_true] <;> omega
      · simp only [h, if_false] <;> omega
theorem slicePick_cut (its : List Value) (lo hi : Option Int) : slicePick its.toArray lo hi none = ((its.drop (HT.sIx its.length 0 lo)).take (HT.sIx its.length its.length hi - HT.sIx its.length 0 lo)).toArray := by
  obtain ⟨h1, h2, h3⟩ := slice_bounds lo hi its.toArray.size
  unfold slicePick
  rw [h1, h2, h3]
  simp only [sliceRange_one, pick_run, List.size_toArray] <;> rfl
noncomputable def rSlL (K : PySem.W.Frag) : V → Option Int → Option Int → Hp → VK → Prop := fun x lo hi H Q => ∃ a xs, x = .ref a ∧ SqL K H a xs ∧ ∀ p, H p = none → Q (.ref p) (upd H p (.lst (cutV xs lo hi)))
theorem sl_list : SlR X (rSlL X.K) := by
  intro pins s σ H x v vl vu lo hi sl Q I rx hs pl pu h
  obtain ⟨a, xs, rfl, hx, q⟩ := h
  cases rx
  obtain ⟨its, r, ht, hz⟩ := I.list hx
  have hlen := r.length
  refine ⟨"list", _, slot_list_getitem.lookup, ht.isList.typeIs, ?_⟩
  refine wpAny_getItem_list_slice ht.isList hs pl pu .none (by simp) ?_ (by rw [List.size_toArray] <;> omega)
  rw [slicePick_cut, ← hlen]
  refine ⟨.ref s.heap.objs.size, _, I.laid (t' := s.toks) (o := .lst (cutV xs lo hi)) (fun b ob q => Heap.get?_push_of_some _ q) (Nat.le_refl _) ?_, rfl, q _ (I.hok.fresh (Nat.le_refl _))⟩
  exact ⟨Nat.le_trans (cutV_length xs lo hi) hz, _, 0, (r.drop (HT.sIx xs.length 0 lo)).take (HT.sIx xs.length xs.length hi - HT.sIx xs.length 0 lo), Heap.get?_push_size _ rfl⟩
theorem call_len_seq : CallR X (.builtin "len") (fun xs H Q => ∃ p ys, xs = [.ref p] ∧ (SqL X.K H p ys ∨ SqT X.K H p ys) ∧ Q (.int ys.length) H) := by
  intro pins s σ H xs us Q I r h
  obtain ⟨p, ys, rfl, hq, q⟩ := h
  obtain ⟨u, rfl, rx⟩ := vals1 r
  cases rx
  have hn := line63
  rcases hq with hq | hq
  · obtain ⟨its, r', pl, hz⟩ := I.list hq
    have hlen := r'.length
    exact Calls.call_len_list pl.isList (by simp only [List.size_toArray] <;> omega) ⟨.int ys.length, H, I.tok _, ⟨s.toks + 1, by rw [List.size_toArray, hlen]⟩, q⟩
  · obtain ⟨its, r', pl, hz⟩ := I.tuple hq
    have hlen := r'.length
    exact len_tuple pl (by simp only [List.size_toArray] <;> omega) ⟨.int ys.length, H, I.tok _, ⟨s.toks + 1, by rw [List.size_toArray, hlen]⟩, q⟩
theorem call_list_of : CallR X (.type "list") (fun xs H Q => ∃ p ys, xs = [.ref p] ∧ (SqL X.K H p ys ∨ SqT X.K H p ys) ∧ ∀ l, H l = none → Q (.ref l) (upd H l (.lst ys))) := by
  intro pins s σ H xs us Q I r h
  obtain ⟨p, ys, rfl, hq, q⟩ := h
  obtain ⟨u, rfl, rx⟩ := vals1 r
  cases rx
  have fin : ∀ (its : List Value), Vals ys its → ys.length ≤ sizeLine → ∀ (h' : Heap) (c' : Nat), (∀ b o', s.heap.get? b = some o' → h'.get? b = some o') →
      h'.get? s.heap.objs.size = some { cls := .type "list", dict := none, data := .seq its.toArray c', slots := #[] } → EP X pins σ Q (.ref s.heap.objs.size) { s with heap := h' } := fun its r' hz h' c' kp e =>
    ⟨.ref s.heap.objs.size, _, I.laid (t' := s.toks) kp (Nat.le_refl _) (show ObjOk X.prog X.w _ h' _ (.lst ys) from ⟨hz, its, c', r', e⟩), rfl, q _ (I.hok.fresh (Nat.le_refl _))⟩
  rcases hq with hq | hq
  · obtain ⟨its, r', pl, hz⟩ := I.list hq
    have hlen := r'.length
    obtain ⟨o, ho, hc, n, hd⟩ := pl.isList
    exact call_list_seq p (.inl rfl) ho hc hd (fun h' c' kp e => fin its r' hz h' c' kp e) (by simp only [List.size_toArray] <;> omega)
  · obtain ⟨its, r', pl, hz⟩ := I.tuple hq
    have hlen := r'.length
    obtain ⟨o, ho, hc, n, hd⟩ := pl
    exact call_list_seq p (.inr rfl) ho hc hd (fun h' c' kp e => fin its r' hz h' c' kp e) (by simp only [List.size_toArray] <;> omega)
theorem call_tuple_of : CallR X (.type "tuple") (fun xs H Q => ∃ p ys, xs = [.ref p] ∧ ((SqL X.K H p ys ∧ ∀ l, H l = none → Q (.ref l) (upd H l (.tup ys))) ∨ (SqT X.K H p ys ∧ Q (.ref p) H))) := by
  intro pins s σ H xs us Q I r h
  obtain ⟨p, ys, rfl, h⟩ := h
  obtain ⟨u, rfl, rx⟩ := vals1 r
  cases rx
  rcases h with ⟨hq, q⟩ | ⟨hq, q⟩
  · obtain ⟨its, r', pl, hz⟩ := I.list hq
    have hlen := r'.length
    refine call_tuple_list pl.isList (fun h' kp => ?_) (by simp only [List.size_toArray] <;> omega)
    have I1 : Inv X pins σ H { s with heap := h' } := I.kept (t' := s.toks) kp
    have I2 : Inv X pins σ (upd H h'.objs.size (.tup ys)) { s with heap := h'.push { cls := .type "tuple", data := .seq its.toArray } } :=
      I1.laid (t' := s.toks) (fun b o e => Heap.get?_push_of_some _ e) (Nat.le_refl _) (show ObjOk X.prog X.w _ _ _ (.tup ys) from ⟨hz, its, r', IsTup.new _ _⟩)
    exact ⟨.ref h'.objs.size, _, I2, rfl, q _ (I1.hok.fresh (Nat.le_refl _))⟩
  · obtain ⟨its, r', pl, hz⟩ := I.tuple hq
    exact call_tuple_same pl ⟨.ref p, H, I, rfl, q⟩
variable {o e : Expr} {es : List Expr} {to : TE} {t : TA} {name : Str} {apos cpos : Pos} {T id : String} {r : V → List V → Hp → VK → Prop}
end
end L2
namespace L2
open PySem PySem.Spec PyProof.Rows
noncomputable def MtM (X : Cx) (id : String) (r : V → List V → Hp → VK → Prop) : Prop :=
  ∀ (pins : List (Addr × Obj)) (s : Shared) (σ : St) (H : Hp) (x : V) (xs : List V) (v : Value) (us : List Value) (Q : VK), Inv X pins σ H s → RelV x v → Vals xs us → r x xs H Q →
    wpAny (model X.prog X.w) X.A (call (.builtin id) (v :: us)) (EP X pins σ Q) X.xe s
theorem Vals.one : ∀ {x : V} {us : List Value}, Vals [x] us → ∃ u, us = [u] ∧ RelV x u
  | _, _, .cons r .nil => ⟨_, rfl, r⟩
theorem Vals.rep {xs : List V} {us : List Value} (h : Vals xs us) : ∀ k : Nat, Vals (List.replicate k xs).flatten (List.replicate k us).flatten
  | 0 => .nil
  | k + 1 => by
    rw [List.replicate_succ, List.replicate_succ, List.flatten_cons, List.flatten_cons]
    exact Vals.append h (Vals.rep h k)
theorem foldl_rep (its : List Value) : ∀ (k : Nat) (acc : List Value),
    List.foldl (fun x1 x2 => x1 ++ x2) acc.toArray (List.replicate k its.toArray) = (acc ++ (List.replicate k its).flatten).toArray
  | 0, acc => by simp
  | k + 1, acc => by
    have e : acc.toArray ++ its.toArray = (acc ++ its).toArray := by simp
    have e2 : (acc ++ its) ++ (List.replicate k its).flatten = acc ++ (List.replicate (k + 1) its).flatten := by
      rw [List.replicate_succ, List.flatten_cons, List.append_assoc]
    rw [← e2, ← foldl_rep its k (acc ++ its), ← e, List.replicate_succ, List.foldl_cons]
section
variable {X : Cx} {pins : List (Addr × Obj)} {σ : St} {H : Hp} {s : Shared} {l b : Addr} {xs ys zs : List V}
theorem Inv.lset {its its' : List Value} {n : Nat} {f : Array Value → Array Value} {t' : Nat} (I : Inv X pins σ H s) (hH : H l = some (.lst xs))
    (e : s.heap.get? l = some { cls := .type "list", data := .seq its.toArray n }) (hf : f its.toArray = its'.toArray) (hv : Vals ys its') (hz : ys.length ≤ sizeLine) :
    Inv X pins σ (upd H l (.lst ys)) { s with heap := s.heap.update l (Obj.mapSeq f), toks := t' } := by
  have q := PySem.IsL.update e f
  rw [hf] at q
  refine I.write (x := l) (e := l) (by rw [hH]; exact trivial) (.inl rfl) (fun b' u hb hu => (Heap.get?_update_other s.heap (Obj.mapSeq f) (Ne.symm hb)).trans hu) ⟨_, q⟩ ?_
  exact ⟨hz, its', _, hv, q⟩
theorem Inv.lnew {its : List Value} {t' : Nat} (I : Inv X pins σ H s) (hv : Vals ys its) (hz : ys.length ≤ sizeLine) :
    Inv X pins σ (upd H s.heap.objs.size (.lst ys)) { s with heap := s.heap.push { cls := .type "list", data := .seq its.toArray }, toks := t' } :=
  I.laid (fun _ _ q => Heap.get?_push_of_some _ q) (Nat.le_refl _) ⟨hz, its, 0, hv, Heap.get?_push_size _ rfl⟩
theorem Inv.fresh (I : Inv X pins σ H s) : H s.heap.objs.size = none := I.hok.fresh (Nat.le_refl _)
theorem Inv.lstM (I : Inv X pins σ H s) (hH : H l = some (.lst xs)) : xs.length ≤ sizeLine ∧ ∃ (its : List Value) (n : Nat), Vals xs its ∧ xs.length = its.length ∧ s.heap.get? l = some { cls := .type "list", data := .seq its.toArray n } := by
  obtain ⟨z, its, n, r, e⟩ := I.hok l _ hH
  exact ⟨z, its, n, r, r.length, e⟩
theorem notLongL {n : Nat} (h : n ≤ sizeLine) : Builtin.List.listTooLong n = false := by
  unfold Builtin.List.listTooLong
  exact decide_eq_false (by omega)
end
section
variable {X : Cx}
noncomputable def rAppend : V → List V → Hp → VK → Prop := fun x vs H Q => ∃ l xs y, x = .ref l ∧ vs = [y] ∧ H l = some (.lst xs) ∧ xs.length < sizeLine ∧ Q .non (upd H l (.lst (xs ++ [y])))
theorem mt_append : MtM X "list.append" rAppend := by
  intro pins s σ H x vs v us Q I rx rv h
  obtain ⟨l, xs, y, rfl, rfl, hH, hz, q⟩ := h
  cases rx
  obtain ⟨u, rfl, ru⟩ := rv.one
  obtain ⟨z, its, n, r, hl, e⟩ := I.lstM hH
  refine call_meets F.slot_list_append ⟨_, e, rfl⟩ F.entry_list_append (F.args_list_append_2 _ _) (PySem.list_append l its.toArray n u (by rw [List.size_toArray]; omega)) ⟨e, ?_⟩
  refine ⟨.non, _, I.lset (its' := its ++ [u]) hH e (by simp) (r.append (.cons ru .nil)) ?_, rfl, q⟩
  rw [List.length_append, List.length_singleton]
  omega
noncomputable def rCat : R2 := fun x y H Q => ∃ l b xs zs, x = .ref l ∧ y = .ref b ∧ H l = some (.lst xs) ∧ H b = some (.lst zs) ∧ xs.length + zs.length ≤ sizeLine ∧ ∀ p, H p = none → Q (.ref p) (upd H p (.lst (xs ++ zs)))
theorem op_cat : OpR X (binaryOp .Add) rCat := by
  intro pins s σ H x y v u Q I rx ry h
  obtain ⟨l, b, xs, zs, rfl, rfl, hH, hB, hz, q⟩ := h
  cases rx
  cases ry
  obtain ⟨z, its, n, r, hl, e⟩ := I.lstM hH
  obtain ⟨z2, its2, n2, r2, hl2, e2⟩ := I.lstM hB
  refine PySem.P.add_list e e2 ?_ (by rw [List.size_toArray, List.size_toArray]; omega)
  have ea : its.toArray ++ its2.toArray = (its ++ its2).toArray := by simp
  rw [ea]
  exact ⟨.ref _, _, I.lnew (t' := s.toks) (r.append r2) (by rw [List.length_append]; omega), rfl, q _ I.fresh⟩
noncomputable def rRep : R2 := fun x y H Q => ∃ l k xs, x = .ref l ∧ y = .int k ∧ H l = some (.lst xs) ∧ -(2 ^ 63) ≤ k ∧ k < 2 ^ 63 ∧ xs.length * k.toNat ≤ sizeLine ∧
  ∀ p, H p = none → Q (.ref p) (upd H p (.lst (List.replicate k.toNat xs).flatten))
theorem len_rep {α : Type} (xs : List α) (k : Nat) : (List.replicate k xs).flatten.length = k * xs.length := by
  induction k with
  | zero => simp
  | succ k ih => rw [List.replicate_succ, List.flatten_cons, List.length_append, ih, Nat.succ_mul, Nat.add_comm]
theorem op_rep : OpR X (binaryOp .Mult) rRep := by
  intro pins s σ H x y v u Q I rx ry h
  obtain ⟨l, k, xs, rfl, rfl, hH, h1, h2, hz, q⟩ := h
  cases rx
  obtain ⟨t, rfl⟩ := ry
  obtain ⟨z, its, n, r, hl, e⟩ := I.lstM hH
  have hlen : its.toArray.size * k.toNat ≤ sizeLine := by rw [List.size_toArray, ← hl]; exact hz
  have hcap : ¬ its.toArray.size * k.toNat > (2 ^ 63 - 1) / 8 := by
    have : (sizeLine : Nat) ≤ (2 ^ 63 - 1) / 8 := by decide
    omega
  have hfit : ¬ (!Builtin.List.listFitsIndex k) = true := by
    rw [fitsIndex_both h1 h2]
    exact Bool.false_ne_true
  have hlong : ¬ Builtin.List.listTooLong (its.toArray.size * k.toNat) = true := by
    rw [notLongL hlen]
    exact Bool.false_ne_true
  have hnew : List.foldl (fun x1 x2 => x1 ++ x2) #[] (List.replicate (if its.toArray.isEmpty = true then 0 else k.toNat) its.toArray) = (List.replicate k.toNat its).flatten.toArray := by
    have f0 : ∀ m : Nat, List.foldl (fun x1 x2 => x1 ++ x2) #[] (List.replicate m its.toArray) = (List.replicate m its).flatten.toArray := fun m => by
      have := foldl_rep its m []
      rw [List.nil_append] at this
      exact this
    rw [f0]
    cases its with
    | nil => simp
    | cons a r' => rw [if_neg (by simp)]
  refine wpAny_binaryOp_repeat_ref (T := "list") (U := "int") (by decide) ⟨_, e, rfl⟩ (fun s' => typeIs_int s' k t) noFill_list_mul F.fills_int_mul F.slot_int_rmul repeat_list F.slot_int_index.lookup
    (call_meets F.slot_int_rmul (typeIs_int s k t) F.entry_int_rmul (F.args_int_rmul_2 _ _) (int___rmul___int_list k t l its.toArray n)
      ⟨e, rfl, ⟨_, e, rfl⟩, call_meets F.slot_list_mul ⟨_, e, rfl⟩ F.entry_list_mul (F.args_list_mul_2 _ _) (AutoListH.list___mul___list_int_3 l its.toArray n k t hfit hcap hlong) ⟨e, ?_⟩⟩)
  rw [hnew]
  exact ⟨.ref _, _, I.lnew (t' := s.toks) (r.rep k.toNat) (by rw [len_rep, Nat.mul_comm]; exact hz), rfl, q _ I.fresh⟩
end
section
variable {prog : Program} {w : World} {A : Around} {E : Value → Shared → Prop} {s : Shared}
set_option maxRecDepth 100000 in
end
section
variable {X : Cx}
end
end L2
namespace L2
open PySem PySem.Spec PyProof.Rows
section
variable {κ : Type} [DecidableEq κ]
end
section
variable {P : Program} {w : World} {H : Hp} {h : Heap} {a : Addr}
end
section
variable {X : Cx} {pins : List (Addr × Obj)} {σ : St} {H : Hp} {s : Shared} {a : Addr} {y v : V} {u r : Value} {o : Option V} {A : Around} {E : Value → Shared → Prop}
end
section
variable {X : Cx} {pins : List (Addr × Obj)} {σ : St} {H : Hp} {s : Shared} {a : Addr} {kvs : List (Key × V)} {k : Key} {u : Value} {A : Around} {E : Value → Shared → Prop}
end
section
variable {X : Cx} {o i e value : Expr} {pos pos' tpos : Pos} {td ty tv : TE}
end
section
variable {X : Cx} {pos : Pos}
end
structure M1 (X : Cx) (o : Expr) (m : Str) (apos : Pos) (e : Expr) (cpos : Pos) : Prop where
  base : attributeBase o m X.env (eval o X.env) = eval o X.env
  few : ((backTo cpos (starEach [e] X.env)).all (fun x => !x.1) && (backToKw cpos (keywordEach [] X.env)).all (fun x => x.1.isSome)
    && decide (([e] : List Expr).length + ([] : List Keyword).length + (if ([] : List Keyword).isEmpty then 0 else 1) < 30)) = true
  line : (apos.endLine == cpos.line) = true
  trees : backTo cpos (starEach [e] X.env) = [(false, eval e X.env)]
structure M2 (X : Cx) (o : Expr) (m : Str) (apos : Pos) (e f : Expr) (cpos : Pos) : Prop where
  base : attributeBase o m X.env (eval o X.env) = eval o X.env
  few : ((backTo cpos (starEach [e, f] X.env)).all (fun x => !x.1) && (backToKw cpos (keywordEach [] X.env)).all (fun x => x.1.isSome)
    && decide (([e, f] : List Expr).length + ([] : List Keyword).length + (if ([] : List Keyword).isEmpty then 0 else 1) < 30)) = true
  line : (apos.endLine == cpos.line) = true
  trees : backTo cpos (starEach [e, f] X.env) = [(false, eval e X.env), (false, eval f X.env)]
section
variable {X : Cx} {pins : List (Addr × Obj)} {σ : St} {H : Hp} {s : Shared} {a : Addr} {y d : V} {u r : Value} {o : Option V} {A : Around} {E : Value → Shared → Prop}
end
section
variable {X : Cx} {o e f : Expr} {apos cpos : Pos} {td ty tx : TE}
end
section
variable {X : Cx} {pins : List (Addr × Obj)} {σ : St} {H : Hp} {s : Shared} {a : Addr} {kvs : List (Key × V)} {A : Around} {E : Value → Shared → Prop}
end
section
variable {X : Cx} {pins : List (Addr × Obj)} {σ : St} {H : Hp} {s : Shared} {a : Addr} {y : V} {u : Value} {A : Around} {E : Value → Shared → Prop}
end
end L2
namespace Att
open PySem PySem.W PySem.Calls PyProof.Rows
theorem ints_of_wellAll {P : Params} {h : Heap} : ∀ (ns : List Int) (vs : List Value), WellAll P h vs (ns.map WData.int) → IntsAre vs ns := by
  intro ns
  induction ns with
  | nil =>
    intro vs w
    rw [List.map_nil] at w
    cases w
    exact .nil
  | cons n ns ih =>
    intro vs w
    rw [List.map_cons] at w
    cases w with
    | cons a b =>
      cases a
      exact .cons _ _ (ih _ b)
theorem script_of {l : OpenLaw} {n : Nat} (hn : l.most = some n) {P : Params} {h : Heap} {args : List WData} {vals : List Value}
    (hpre : l.row.toRowW.claim.pre args = true) (hwl : WellAll P h vals args) :
    ∃ a vs ns, vals = [Value.ref a] ∧ args = [WData.list (ns.map WData.int)] ∧ h.get? a = some { cls := .type "list", data := .seq vs.toArray } ∧ IntsAre vs ns ∧ ns.length ≤ n := by
  have hsh : WShape.hasAll [] args [.list .int] = true := (pre_splitW hpre).1
  have hc : l.pre.holds [] { args := args } = true := (pre_splitW hpre).2
  obtain ⟨d, r, rfl, h1, h2⟩ := hasAllW_cons hsh
  obtain rfl := hasAllW_nil h2
  obtain ⟨xs, rfl, h3⟩ := hasW_list h1
  obtain ⟨ns, rfl⟩ := items_int h3
  have hlen : ns.length ≤ n := by
    unfold OpenLaw.pre at hc
    have h4 : (WTm.not (.lt (.lit (.int (n : Int))) (.len (.arg 0)))).holds [] { args := [.list (ns.map .int)] } = true := by
      have h4 := (holds_andW hc).1
      rw [hn] at h4
      exact h4
    have h5 := condW_of h4 (w_not (w_lt w_lit (w_len_list (w_arg rfl))))
    rw [List.length_map] at h5
    refine Nat.le_of_not_lt fun q => ?_
    have q' : (n : Int) < ((ns.length : Nat) : Int) := by omega
    first
      | (rw [decide_eq_true q'] at h5; exact absurd h5 (by decide))
      | (simp at h5; omega)
  cases hwl with
  | cons w1 w2 =>
    cases w2
    cases w1 with
    | list ho hall => exact ⟨_, _, ns, rfl, rfl, ho, ints_of_wellAll ns _ hall, hlen⟩
theorem post_true (l : OpenLaw) (args : List WData) : l.row.toRowW.claim.post args (.bool true) args = true :=
  postW_of (r := l.row.toRowW) (X := (true == true))
    (show WShape.has [] (.bool true) .bool = true by first | rfl | decide | simp [WShape.has, WShape.arms, WShape.armsAll])
    (show (WTm.eq .res (.lit (.bool true))).value [] { args := args, res := some (.bool true), after := args } = some (.bool (true == true)) from w_eq_bool (w_res rfl) w_lit) rfl
theorem attach_call {l : OpenLaw} {n : Nat} {q : Program} {loose : List Str} {XP : (Str → Option Value) → Heap → Prop} {YP : World → Heap → Prop} {d : DefRec}
    (hn : l.most = some n) (hdf : d.params.defaults = [])
    (call : ∀ (w : World) (s₀ s₁ : Shared) (mg mb : Str → Option Value) (fa : Addr) (o : Obj) (pm cd doc : Value) (a : Addr) (vs : List Value) (ns : List Int),
      Ground q loose [] XP w s₀ mg mb s₁.heap → YP w s₁.heap →
      s₁.heap.get? fa = some o → o.data = .func (docDef d.name d.params d.body d.scope pm cd doc) → s₁.heap.CodeRec cd d.name → mg d.name = some (.ref fa) →
      s₁.heap.get? a = some { cls := .type "list", data := .seq vs.toArray } → IntsAre vs ns → ns.length ≤ n → s₁.gens = #[] →
      codeAny (model l.prog w) callerA (.call (.ref fa) ⟨[.ref a], []⟩) (fun r s' => r = .ok (.ret (.bool true)) ∧ OldK s₁.heap s'.heap ∧ s'.os = s₁.os ∧ AllBare s'.gens) s₁) :
    WalkO q loose XP YP l.row.toRowW d [] (fun f vs => PySem.call f vs) := by
  intro w s₀ s₁ mg mb G Y fa o pm cd doc dV kV ho hd hcd hD hmg hg args vals as hpre hlay hrd hwl hlo
  obtain rfl : dV = .none := Dflts.none hD hdf
  obtain rfl : kV = .none := Dflts.noKw hD
  obtain ⟨a, vs, ns, rfl, rfl, hobj, hints, hlen⟩ := script_of hn hpre hwl
  refine enter_call (codeAny_mono (call w s₀ s₁ mg mb fa o pm cd doc a vs ns G Y ho (fd_plain hd) hcd hmg hobj hints hlen hg) fun r s' hq => ?_)
  obtain ⟨rfl, h2, h3, h4⟩ := hq
  exact ⟨.inl ⟨.bool true, .bool true, [], rfl, fun _ => rfl, .bool true, post_true l _, fun _ => ⟨List.Pairwise.nil, fun _ hm => (nomatch hm)⟩⟩, h2, h3, h4⟩
section
variable {prog : Program} {w : World} {A : Around} {E : Value → Shared → Prop} {s : Shared} {K : Frag}
end
end Att
namespace L2
open PySem PySem.Spec PyProof.Rows
theorem vals_ints : ∀ {vs : List Value} {ns : List Int}, IntsAre vs ns → Vals (ns.map V.int) vs
  | _, _, .nil => .nil
  | _, _, .cons n t h => .cons ⟨t, rfl⟩ (vals_ints h)
noncomputable def Only (H : Hp) : Prop := ∀ b, H b = none ∨ ∃ o xs, H b = some (.frz o (.lst xs))
theorem law_call {P : Program} {w : World} {K : PySem.W.Frag} {mg mb : Str → Option Value} {CX : CXT} {k : Nat} {fa a : Addr} {fd : FuncData} {x : Str} {sp : Sp} {s₁ : Shared} {vs : List Value} {ns : List Int}
    (KX : K.In s₁.heap) (hns : s₁.heap.Ns mainGlobals mg) (hb : s₁.heap.Ns builtinsNs mb) (hbb : ∀ x : Str, x ≠ "__name__" → mb x = bootBuiltins x) (hlim : s₁.heap.NoLimit) (hg : s₁.gens = #[])
    (ha : s₁.heap.get? a = some { cls := .type "list", data := .seq vs.toArray }) (hi : IntsAre vs ns) (hl : ns.length ≤ sizeLine) (hr : Room k callerA)
    (F : ∀ base : Heap, K.In base → base.Ns mainGlobals mg → FnOk P w K mg base CX k fa fd [x] sp) (hbind : ∀ (s : Shared) (u : Value), BindsTo s fd ⟨[u], []⟩ [(x, u)])
    (hsp : ∀ H : Hp, Only H → SqL K H a (ns.map V.int) → sp [.ref a] H (fun v _ => v = .bl true) fun _ _ _ => False)
    (hCX : ∀ H e s', CX [] H s₁ (fun _ _ _ => False) e s' → False) :
    codeAny (model P w) callerA (.call (.ref fa) ⟨[.ref a], []⟩) (fun r s' => r = .ok (.ret (.bool true)) ∧ OldK s₁.heap s'.heap ∧ s'.os = s₁.os ∧ AllBare s'.gens) s₁ := by
  have rv := vals_ints hi
  have lenV := hi.length
  have core : ∀ H : Hp, Only H → SqL K H a (ns.map V.int) → HOk P w H s₁.heap → (∀ b, H b ≠ none → b = a) → (H a ≠ none → K.lookup a = none) →
      codeAny (model P w) callerA (.call (.ref fa) ⟨[.ref a], []⟩) (fun r s' => r = .ok (.ret (.bool true)) ∧ OldK s₁.heap s'.heap ∧ s'.os = s₁.os ∧ AllBare s'.gens) s₁ := by
    intro H hO hS hok hA hK
    have base_of : ∀ {b : Addr} {o : Obj}, s₁.heap.get? b = some o → H b = none → (hidT s₁.heap H).get? b = some o := fun e n => hidT_get e n
    have noA : ∀ {b : Addr} {o : Obj} {es : Array DictEntry} {ep : Nat}, s₁.heap.get? b = some o → o.data = .dict es ep → H b = none := fun {b o es ep} e d => by
      cases q : H b with
      | none => rfl
      | some u =>
        have e' : b = a := hA b (by rw [q]; simp)
        subst e'
        rw [ha] at e; cases e
        have d' : Data.seq vs.toArray _ = Data.dict es ep := d
        cases d'
    have nsK : ∀ {b : Addr} {m : Str → Option Value}, s₁.heap.Ns b m → (hidT s₁.heap H).Ns b m := fun {b m} ⟨o, es, ep, e, d, r⟩ => ⟨o, es, ep, base_of e (noA e d), d, r⟩
    have hKb : K.In (hidT s₁.heap H) := fun b o e => base_of (KX b o e) (by
      cases q : H b with
      | none => rfl
      | some u =>
        have e' : b = a := hA b (by rw [q]; simp)
        subst e'
        rw [hK (by rw [q]; simp)] at e; cases e)
    have hM : Mod K mg (hidT s₁.heap H) := ⟨hKb, nsK hns, ⟨mb, nsK hb, hbb⟩, let ⟨mc, h1, h2⟩ := hlim; ⟨mc, nsK h1, h2⟩⟩
    have e0 : Env0 P w K mg (hidT s₁.heap H) callerA [] s₁ H := ⟨rfl, hM, fun b o e => of_hidT e, Nat.le_of_eq (hidT_size _ _), trivial, fun b hb => absurd (show b ∈ ([] : List Addr) from hb) (by simp), hok, .of_eq hg⟩
    refine codeAny_mono ((F _ hKb (nsK hns)).run callerA [] s₁ H ⟨[.ref a], []⟩ [.ref a] [.ref a] _ _ hr e0 (hbind s₁ (.ref a)) (.cons rfl .nil) (hsp H hO hS)) fun r s' h => ?_
    cases r with
    | error e => exact (hCX H e s' h).elim
    | ok fl =>
      cases fl with
      | next => exact False.elim h
      | brk => exact False.elim h
      | cont => exact False.elim h
      | ret u =>
        obtain ⟨v, H', os, bare, un, hok', r', q⟩ := h
        have q' : v = .bl true := q
        subst q'
        obtain rfl : u = Value.bool true := r'
        refine ⟨rfl, OldK.of_keep fun b o e => ?_, os, bare⟩
        cases q : H b with
        | none => exact un.keep b o e q (by intro z; exact absurd (show b ∈ ([] : List Addr) from z) (by simp)) (by simp)
        | some u =>
          rcases hO b with z | ⟨ob, xs, z⟩
          · rw [q] at z; cases z
          · have z2 := un.frzs b ob _ z
            obtain ⟨e1, _⟩ := hok b _ z
            obtain ⟨e2, _⟩ := hok' b _ z2
            rw [e] at e1; cases e1
            exact e2
  cases hk : K.lookup a with
  | some o =>
    have e := KX a o hk
    rw [ha] at e
    cases e
    refine core (fun _ => none) (fun _ => .inl rfl) (.inr ⟨_, vs.toArray, _, hk, rfl, rfl, rfl, by rw [List.size_toArray, lenV]; exact hl, by simpa using rv⟩) (fun b u z => by have z' : (none : Option HO) = some u := z; cases z') (fun b z => absurd rfl z) fun z => absurd rfl z
  | none =>
    refine core (fun b => if b = a then some (.frz { cls := .type "list", data := .seq vs.toArray } (.lst (ns.map V.int))) else none) (fun b => ?_) (.inl (.inr ⟨{ cls := .type "list", data := .seq vs.toArray }, if_pos rfl⟩)) (fun b u z => ?_) (fun b z => ?_) fun _ => hk
    · by_cases hb : b = a
      · exact .inr ⟨_, _, if_pos hb⟩
      · exact .inl (if_neg hb)
    · by_cases hb : b = a
      · have z' := (if_pos hb).symm.trans z
        cases z'
        subst hb
        exact ⟨ha, by rw [List.length_map]; exact hl, vs, _, rv, ha⟩
      · have z' := (if_neg hb).symm.trans z
        cases z'
    · by_cases hb : b = a
      · exact hb
      · exact absurd (if_neg hb) z
end L2
namespace L2
open PySem PySem.Spec PyProof.Rows
theorem walk_of {l : PySem.W.OpenLaw} {n k : Nat} {q : Program} {loose : List Str} {XP : (Str → Option Value) → Heap → Prop} {YP : World → Heap → Prop} {d : DefRec} {K : Params → PySem.W.Frag} {CX : World → CXT} {sp : World → Sp} {x : Str}
    (hn : l.most = some n) (hn2 : n ≤ sizeLine) (hdf : d.params.defaults = []) (hr : Room k callerA)
    (hY : ∀ (w : World) (h : Heap), YP w h → (K w.params).In h)
    (F : ∀ (w : World) (mg : Str → Option Value) (fa : Addr) (h : Heap), (K w.params).In h → h.Ns mainGlobals mg → mg d.name = some (.ref fa) →
      ∃ fd : FuncData, (∀ (s : Shared) (u : Value), BindsTo s fd ⟨[u], []⟩ [(x, u)]) ∧
        ∀ base : Heap, (K w.params).In base → base.Ns mainGlobals mg → FnOk l.prog w (K w.params) mg base (CX w) k fa fd [x] (sp w))
    (hsp : ∀ (w : World) (H : Hp) (a : Addr) (ns : List Int), ns.length ≤ n → Only H → SqL (K w.params) H a (ns.map V.int) → sp w [.ref a] H (fun v _ => v = .bl true) fun _ _ _ => False)
    (hCX : ∀ (w : World) (H : Hp) (s : Shared) (e : Value) (s' : Shared), CX w [] H s (fun _ _ _ => False) e s' → False) :
    PySem.W.WalkO q loose XP YP l.row.toRowW d [] (fun f vs => PySem.call f vs) := by
  refine Att.attach_call hn hdf fun w s₀ s₁ mg mb fa o pm cd doc a vs ns G Y ho hd hcd hmg hobj hints hlen hg => ?_
  have KX := hY w _ Y
  obtain ⟨fd, hb, hF⟩ := F w mg fa _ KX G.T.g hmg
  exact law_call KX G.T.g G.T.b G.T.builtins G.T.nolimit hg hobj hints (Nat.le_trans hlen hn2) hr hF hb (fun H hO hS => hsp w H a ns hlen hO hS) fun H e s' => hCX w H s₁ e s'
end L2
namespace L2
open PySem PySem.Spec PyProof.Rows
noncomputable def defArgs (s : Stmt) : Arguments := match s with
  | .FunctionDef _ a _ _ _ _ _ _ _ _ => a
  | _ => { posonlyargs := [], args := [], vararg := none, kwonlyargs := [], kw_defaults := [], kwarg := none, defaults := [] }
noncomputable def defBody (s : Stmt) : List Stmt := match s with
  | .FunctionDef _ _ b _ _ _ _ _ _ _ => b
  | _ => []
noncomputable def defScope (s : Stmt) : Scope := match s with
  | .FunctionDef _ _ _ _ _ _ sc _ _ _ => sc
  | _ => { kind := .function, names := [], isGenerator := false, isCoroutine := false }
noncomputable abbrev CX0 : CXT := fun _ _ _ _ _ _ => False
noncomputable abbrev E0 : XK := fun _ _ _ => False
theorem pass0 {X : Cx} : Passes CX0 X E0 := fun _ _ _ _ _ _ _ h => h.elim
structure Fun (K : PySem.W.Frag) (x qual : Str) (st : Stmt) (f : Addr) (fd : FuncData) : Prop where
  ex : ∃ (oc : Value) (od : Option Addr) (kV doc pm : Value) (an : Option Addr) (cdv ct : Value) (osl : Array (Option Value)),
    fd = PySem.W.fnOf x qual (defArgs st) (defBody st) (defScope st) .none kV doc pm an cdv ct ∧ K.lookup f = some ⟨oc, od, .func fd, osl⟩ ∧ PySem.W.codeIn K cdv qual = true
  kp : PySem.W.keepIn K (.ref f) = true
section
variable {P : Program} {w : World} {K : PySem.W.Frag} {mg : Str → Option Value} {base : Heap}
theorem Fun.ok {x qual : Str} {st : Stmt} {f : Addr} {fd : FuncData} {N ps : List Str} {k : Nat} {sp : Sp} (F : Fun K x qual st f fd) (S : FnScope N ps (defScope st)) (len : ∀ vs H Q E, sp vs H Q E → vs.length = ps.length)
    (hbody : ∀ (cdv : Value) (A : Around) (outer : List Env) (s : Shared) (H : Hp) (vs : List V) (Q : VK) (E : XK), Room k (A.deeper (envOfC qual (defScope st) s.heap.objs.size f cdv)) → sp vs H Q E →
      ∃ t, PSs (cxOf CX0 P w K mg base N qual (defScope st) f cdv A outer s H E).nox (defBody st) t ∧ t { nx := fun _ H' => Q .non H', rt := Q } (start N vs) H) : FnOk P w K mg base CX0 (k + 1) f fd ps sp := by
  obtain ⟨oc, od, kV, doc, pm, an, cdv, ct, osl, rfl, lk, hcd⟩ := F.ex
  refine fn_of lk hcd S len fun A outer s H vs Q E hr hsp => ?_
  obtain ⟨t, h, q⟩ := hbody cdv A outer s H vs Q E hr hsp
  exact ⟨t, h.nox, q⟩
theorem Fun.binds {x qual : Str} {st : Stmt} {f : Addr} {fd : FuncData} {ps : List Str} (F : Fun K x qual st f fd)
    (h : ∀ (kV doc pm : Value) (an : Option Addr) (cdv ct : Value) (us : List Value), us.length = ps.length → bindArgs (PySem.W.fnOf x qual (defArgs st) (defBody st) (defScope st) .none kV doc pm an cdv ct) ⟨us, []⟩ = pure (ps.zip us)) : Binds K fd ps [] := by
  obtain ⟨oc, od, kV, doc, pm, an, cdv, ct, osl, rfl, lk, hcd⟩ := F.ex
  exact .all (h kV doc pm an cdv ct)
theorem fun_mk {x qual : Str} {st : Stmt} {f : Addr} {oc : Value} {od an : Option Addr} {osl : Array (Option Value)} {kV doc pm cdv ct : Value} (l : K.lookup f = some ⟨oc, od, .func (PySem.W.fnOf x qual (defArgs st) (defBody st) (defScope st) .none kV doc pm an cdv ct), osl⟩)
    (c : PySem.W.codeIn K cdv qual = true) (k : PySem.W.keepIn K (.ref f) = true) : Fun K x qual st f (PySem.W.fnOf x qual (defArgs st) (defBody st) (defScope st) .none kV doc pm an cdv ct) := ⟨⟨oc, od, kV, doc, pm, an, cdv, ct, osl, rfl, l, c⟩, k⟩
end
section
variable {X : Cx}
theorem pv (i : Nat) {x : Str} {pos : Pos} (hN : X.N[i]? = some x := by rfl) (hv : Vis X.env.scope x := by first | exact Or.inl rfl | exact Or.inr (Or.inl rfl) | exact Or.inr (Or.inr rfl)) (hd : (x == ("__debug__" : Str)) = false := by decide)
    (hcd : (x == ("__classdict__" : Str)) = false := by decide) : PE X (.Name x pos) (tVar i) := pe_var hN hv hd hcd
end
noncomputable def Same (H H' : Hp) : Prop := ∀ b o, H b = some o → H' b = some o
theorem Same.refl (H : Hp) : Same H H := fun _ _ h => h
end L2
namespace L2
open PySem PySem.Spec PyProof.Rows
section
variable {X : Cx}
end
section
variable {κ : Type} [DecidableEq κ]
end
end L2
set_option maxHeartbeats 4000000
namespace L2
open PySem PySem.Spec PyProof.Rows
mutual
noncomputable def Dp (K : PySem.W.Frag) (H : Hp) : PyData → V → Prop
  | .none, v => v = .non
  | .bool b, v => v = .bl b
  | .int i, v => v = .int i
  | .str x, v => v = .str x
  | .list ds, v => ∃ a xs, v = .ref a ∧ SqL K H a xs ∧ DpAll K H ds xs
  | .tuple ds, v => ∃ a xs, v = .ref a ∧ SqT K H a xs ∧ DpAll K H ds xs
  | .dict _, _ => False
noncomputable def DpAll (K : PySem.W.Frag) (H : Hp) : List PyData → List V → Prop
  | [], xs => xs = []
  | d :: ds, xs => ∃ x r, xs = x :: r ∧ Dp K H d x ∧ DpAll K H ds r
end
section
variable {X : Cx} {pins : List (Addr × Obj)} {σ : St} {H : Hp} {s : Shared}
mutual
theorem Dp.reads (I : Inv X pins σ H s) : ∀ (d : PyData) (v : V) (u : Value), Dp X.K H d v → RelV v u → ∃ as, Reads s.heap u d as
  | .none, v, u, h, r => by
    simp only [Dp] at h; subst h; cases r; exact ⟨_, .none⟩
  | .bool b, v, u, h, r => by
    simp only [Dp] at h; subst h; cases r; exact ⟨_, .bool b⟩
  | .int i, v, u, h, r => by
    simp only [Dp] at h; subst h; obtain ⟨t, rfl⟩ := r; exact ⟨_, .int i t⟩
  | .str x, v, u, h, r => by
    simp only [Dp] at h; subst h; obtain ⟨t, rfl⟩ := r; exact ⟨_, .str x t⟩
  | .list ds, v, u, h, r => by
    simp only [Dp] at h
    obtain ⟨a, xs, rfl, hs, hd⟩ := h
    cases r
    obtain ⟨its, rv, ⟨o, n, e, c, _, dd⟩, _⟩ := I.list hs
    obtain ⟨as, ra⟩ := DpAll.reads I ds xs its hd rv
    exact ⟨_, .list e c dd (by simpa using ra)⟩
  | .tuple ds, v, u, h, r => by
    simp only [Dp] at h
    obtain ⟨a, xs, rfl, hs, hd⟩ := h
    cases r
    obtain ⟨its, rv, ⟨o, e, c, n, dd⟩, _⟩ := I.tuple hs
    obtain ⟨as, ra⟩ := DpAll.reads I ds xs its hd rv
    exact ⟨_, .tuple e c dd (by simpa using ra)⟩
  | .dict _, v, u, h, r => by
    simp only [Dp] at h
theorem DpAll.reads (I : Inv X pins σ H s) : ∀ (ds : List PyData) (vs : List V) (us : List Value), DpAll X.K H ds vs → Vals vs us → ∃ as, ReadsAll s.heap us ds as
  | [], vs, us, h, r => by
    simp only [DpAll] at h; subst h
    cases r
    exact ⟨_, .nil⟩
  | d :: ds, vs, us, h, r => by
    simp only [DpAll] at h
    obtain ⟨x, q, rfl, h1, h2⟩ := h
    cases r with
    | cons r1 r2 =>
      obtain ⟨as, ra⟩ := Dp.reads I d _ _ h1 r1
      obtain ⟨bs, rb⟩ := DpAll.reads I ds _ _ h2 r2
      exact ⟨_, .cons ra rb⟩
end
noncomputable def rEqD (K : PySem.W.Frag) (neg : Bool) : R2 := fun x y H Q => ∃ d e, Dp K H d x ∧ Dp K H e y ∧ d.canLay0 = true ∧ e.canLay0 = true ∧ min d.depth e.depth ≤ 60 ∧
  Q (.bl (if neg then !PyData.eqv d e else PyData.eqv d e)) H
theorem op_eqD (hu : X.A.units + 64 < cLine) : OpR X (compareOp .Eq) (rEqD X.K false) := by
  intro pins s σ H x y v u Q I rx ry h
  obtain ⟨d, e, hx, hy, c1, c2, hd, q⟩ := h
  obtain ⟨as, ra⟩ := hx.reads I _ _ _ rx
  obtain ⟨bs, rb⟩ := hy.reads I _ _ _ ry
  exact SeqAt.compareEq_reads ra rb c1 c2 (by omega) ⟨.bl _, H, I, rfl, q⟩
theorem op_neD (hu : X.A.units + 64 < cLine) : OpR X (compareOp .NotEq) (rEqD X.K true) := by
  intro pins s σ H x y v u Q I rx ry h
  obtain ⟨d, e, hx, hy, c1, c2, hd, q⟩ := h
  obtain ⟨as, ra⟩ := hx.reads I _ _ _ rx
  obtain ⟨bs, rb⟩ := hy.reads I _ _ _ ry
  exact SeqAt.compareNe_reads ra rb c1 c2 (by omega) ⟨.bl _, H, I, rfl, q⟩
noncomputable def rInD (K : PySem.W.Frag) (neg : Bool) : R2 := fun x y H Q => ∃ d ds, Dp K H d x ∧ (Dp K H (.list ds) y ∨ Dp K H (.tuple ds) y) ∧ d.canLay0 = true ∧ PyData.canLayAll0 ds = true ∧ min (PyData.depthAll ds) d.depth ≤ 60 ∧
  Q (.bl (if neg then !(ds.any fun y => PyData.eqv y d) else ds.any fun y => PyData.eqv y d)) H
theorem op_inD (hu : X.A.units + 64 < cLine) : OpR X (compareOp .In) (rInD X.K false) := by
  intro pins s σ H x y v u Q I rx ry h
  obtain ⟨d, ds, hx, hy, c1, c2, hd, q⟩ := h
  obtain ⟨as, ra⟩ := hx.reads I _ _ _ rx
  rcases hy with hy | hy
  · obtain ⟨bs, rb⟩ := hy.reads I _ _ _ ry
    exact SeqAt.in_list_reads rb ra c2 c1 (by omega) ⟨.bl _, H, I, rfl, q⟩
  · obtain ⟨bs, rb⟩ := hy.reads I _ _ _ ry
    exact SeqAt.in_tuple_reads rb ra c2 c1 (by omega) ⟨.bl _, H, I, rfl, q⟩
theorem op_notInD (hu : X.A.units + 64 < cLine) : OpR X (compareOp .NotIn) (rInD X.K true) := by
  intro pins s σ H x y v u Q I rx ry h
  obtain ⟨d, ds, hx, hy, c1, c2, hd, q⟩ := h
  obtain ⟨as, ra⟩ := hx.reads I _ _ _ rx
  rcases hy with hy | hy
  · obtain ⟨bs, rb⟩ := hy.reads I _ _ _ ry
    exact SeqAt.notIn_list_reads rb ra c2 c1 (by omega) ⟨.bl _, H, I, rfl, q⟩
  · obtain ⟨bs, rb⟩ := hy.reads I _ _ _ ry
    exact SeqAt.notIn_tuple_reads rb ra c2 c1 (by omega) ⟨.bl _, H, I, rfl, q⟩
noncomputable def isiV (K : PySem.W.Frag) (H : Hp) (T : String) (r : Bool) : V → Prop
  | .non => r = false
  | .bl _ => r = (T == "int" || T == "bool")
  | .int _ => r = (T == "int")
  | .str _ => r = (T == "str")
  | .ref a => (∃ xs, SqT K H a xs ∧ r = (T == "tuple")) ∨ (∃ xs, SqL K H a xs ∧ r = (T == "list"))
  | _ => False
noncomputable def rIsi (K : PySem.W.Frag) : List V → Hp → VK → Prop := fun xs H Q => ∃ x T r, xs = [x, .ty T] ∧ (T = "int" ∨ T = "bool" ∨ T = "tuple" ∨ T = "list" ∨ T = "str") ∧ isiV K H T r x ∧ Q (.bl r) H
theorem call_isi : CallR X (.builtin "isinstance") (rIsi X.K) := by
  intro pins s σ H xs us Q I r h
  obtain ⟨x, T, b, rfl, hT, hx, q⟩ := h
  obtain ⟨u, u', rfl, ru, ru'⟩ := vals2 r
  cases ru'
  have fin : ∀ t, EP X pins σ Q (.bool b) { s with toks := t } := fun t => ⟨.bl b, H, I.tok t, rfl, q⟩
  have fin0 : EP X pins σ Q (.bool b) s := ⟨.bl b, H, I, rfl, q⟩
  cases x with
  | non =>
    cases ru
    have hx : b = false := hx
    subst hx
    rcases hT with rfl | rfl | rfl | rfl | rfl
    · exact IsiPair.NoneType_int (fin _)
    · exact IsiPair.NoneType_bool (fin _)
    · exact IsiPair.NoneType_tuple (fin _)
    · exact IsiPair.NoneType_list (fin _)
    · exact IsiPair.NoneType_str (fin _)
  | bl k =>
    cases ru
    rcases hT with rfl | rfl | rfl | rfl | rfl
    · have hx : b = true := hx
      subst hx; exact IsiPair.bool_int fin0
    · have hx : b = true := hx
      subst hx; exact IsiPair.bool_bool fin0
    · have hx : b = false := hx
      subst hx; exact IsiPair.bool_tuple (fin _)
    · have hx : b = false := hx
      subst hx; exact IsiPair.bool_list (fin _)
    · have hx : b = false := hx
      subst hx; exact IsiPair.bool_str (fin _)
  | int k =>
    obtain ⟨t, rfl⟩ := ru
    rcases hT with rfl | rfl | rfl | rfl | rfl
    · have hx : b = true := hx
      subst hx; exact IsiPair.int_int fin0
    · have hx : b = false := hx
      subst hx; exact IsiPair.int_bool (fin _)
    · have hx : b = false := hx
      subst hx; exact IsiPair.int_tuple (fin _)
    · have hx : b = false := hx
      subst hx; exact IsiPair.int_list (fin _)
    · have hx : b = false := hx
      subst hx; exact IsiPair.int_str (fin _)
  | str k =>
    obtain ⟨t, rfl⟩ := ru
    rcases hT with rfl | rfl | rfl | rfl | rfl
    · have hx : b = false := hx
      subst hx; exact IsiPair.str_int (fin _)
    · have hx : b = false := hx
      subst hx; exact IsiPair.str_bool (fin _)
    · have hx : b = false := hx
      subst hx; exact IsiPair.str_tuple (fin _)
    · have hx : b = false := hx
      subst hx; exact IsiPair.str_list (fin _)
    · have hx : b = true := hx
      subst hx; exact IsiPair.str_str fin0
  | ref a =>
    cases ru
    rcases hx with ⟨ys, hs, hb⟩ | ⟨ys, hs, hb⟩
    · obtain ⟨its, rv, ⟨o, e, c, n, dd⟩, _⟩ := I.tuple hs
      rcases hT with rfl | rfl | rfl | rfl | rfl
      · have hx : b = false := hb
        subst hx; exact IsiPair.tuple_int e c (fin _)
      · have hx : b = false := hb
        subst hx; exact IsiPair.tuple_bool e c (fin _)
      · have hx : b = true := hb
        subst hx; exact IsiPair.tuple_tuple e c fin0
      · have hx : b = false := hb
        subst hx; exact IsiPair.tuple_list e c (fin _)
      · have hx : b = false := hb
        subst hx; exact IsiPair.tuple_str e c (fin _)
    · obtain ⟨its, rv, ⟨o, n, e, c, _, dd⟩, _⟩ := I.list hs
      rcases hT with rfl | rfl | rfl | rfl | rfl
      · have hx : b = false := hb
        subst hx; exact IsiPair.list_int e c (fin _)
      · have hx : b = false := hb
        subst hx; exact IsiPair.list_bool e c (fin _)
      · have hx : b = false := hb
        subst hx; exact IsiPair.list_tuple e c (fin _)
      · have hx : b = true := hb
        subst hx; exact IsiPair.list_list e c fin0
      · have hx : b = false := hb
        subst hx; exact IsiPair.list_str e c (fin _)
  | byt _ => exact hx.elim
  | flt _ => exact hx.elim
  | ty _ => exact hx.elim
theorem boolsAre_of : ∀ {bs : List Bool} {us : List Value}, Vals (bs.map V.bl) us → LSm.BoolsAre us bs
  | [], _, .nil => .nil
  | b :: bs, _, .cons r t => by
    cases r
    exact .cons b (boolsAre_of t)
theorem call_allB (hc : X.A.handled = none) : CallR X (.builtin "all") (fun xs H Q => ∃ (p : Addr) (bs : List Bool), xs = [.ref p] ∧ SqL X.K H p (bs.map V.bl) ∧ Q (.bl (bs.all id)) H) := by
  intro pins s σ H xs us Q I r h
  obtain ⟨p, bs, rfl, hs, q⟩ := h
  obtain ⟨u, rfl, ru⟩ := vals1 r
  cases ru
  obtain ⟨its, rv, pl, _⟩ := I.list hs
  have hb := boolsAre_of rv
  have hl := pl.isList
  have hlt : p < s.heap.objs.size := by obtain ⟨_, e, _⟩ := hl; exact Heap.lt_size e
  refine call_all_walk (wpAny_pyIter_list hl ?_)
  refine ⟨s.heap.objs.size, [s.heap.objs.size, p], [s.heap.objs.size], its.toArray.size, _, _, fun i => (bs[i]?).getD true, rfl, Walks.list (A := X.A.in1) hc _ p (Nat.ne_of_lt hlt) its.toArray,
    ⟨⟨_, Heap.get?_push_size _ rfl, rfl, rfl⟩, hl.push _⟩, fun i v s' Q' E' hP hQ => ?_, fun h' tk hk => ?_⟩
  · obtain ⟨b, e, rfl⟩ := hb.get i v (by simpa using hP)
    simp only [e, Option.getD_some] at hQ
    exact wpAny_truthy_bool hQ
  · have e : ((List.range its.toArray.size).all fun i => (bs[i]?).getD true) = bs.all id := by
      rw [List.size_toArray, hb.length]; exact LSm.range_all bs
    rw [e]
    exact ⟨.bl _, H, I.kept (LSm.kept_iter hk), rfl, q⟩
theorem call_anyB (hc : X.A.handled = none) : CallR X (.builtin "any") (fun xs H Q => ∃ (p : Addr) (bs : List Bool), xs = [.ref p] ∧ SqL X.K H p (bs.map V.bl) ∧ Q (.bl (bs.any id)) H) := by
  intro pins s σ H xs us Q I r h
  obtain ⟨p, bs, rfl, hs, q⟩ := h
  obtain ⟨u, rfl, ru⟩ := vals1 r
  cases ru
  obtain ⟨its, rv, pl, _⟩ := I.list hs
  have hb := boolsAre_of rv
  have hl := pl.isList
  have hlt : p < s.heap.objs.size := by obtain ⟨_, e, _⟩ := hl; exact Heap.lt_size e
  refine call_any_walk (wpAny_pyIter_list hl ?_)
  refine ⟨s.heap.objs.size, [s.heap.objs.size, p], [s.heap.objs.size], its.toArray.size, _, _, fun i => (bs[i]?).getD false, rfl, Walks.list (A := X.A.in1) hc _ p (Nat.ne_of_lt hlt) its.toArray,
    ⟨⟨_, Heap.get?_push_size _ rfl, rfl, rfl⟩, hl.push _⟩, fun i v s' Q' E' hP hQ => ?_, fun h' tk hk => ?_⟩
  · obtain ⟨b, e, rfl⟩ := hb.get i v (by simpa using hP)
    simp only [e, Option.getD_some] at hQ
    exact wpAny_truthy_bool hQ
  · have e : ((List.range its.toArray.size).any fun i => (bs[i]?).getD false) = bs.any id := by
      rw [List.size_toArray, hb.length]; exact LSm.range_any bs
    rw [e]
    exact ⟨.bl _, H, I.kept (LSm.kept_iter hk), rfl, q⟩
noncomputable def NewT (K : PySem.W.Frag) (H : Hp) (xs : List V) (Q : VK) : Prop := ∀ p H', (H' = H ∧ SqT K H p xs) ∨ (H p = none ∧ H' = upd H p (.tup xs)) → Q (.ref p) H'
end
end L2
namespace HT
open PySem PyProof.Rows
section
variable {prog : Program} {w : World} {A : Around} {E : Value → Shared → Prop} {s : Shared}
theorem getItem_tuple_whole {t sl : Addr} {items : Array Value} {vl vu : Value} {lo hi : Option Int} {Q : Value → Shared → Prop} (ht : IsTup s.heap t items) (hs : s.heap.IsSliceOf sl vl vu .none) (pl : IsPart vl lo) (pu : IsPart vu hi)
    (hw : sIx items.size 0 lo = 0 ∧ sIx items.size items.size hi = items.size) (h : Q (.ref t) s) : wpAny (model prog w) A (getItem (.ref t) (.ref sl)) Q E s := by
  obtain ⟨os, hos, hcs, hds⟩ := id hs
  have hTs : s.TypeIs (.ref sl) "slice" := ⟨os, hos, hcs⟩
  unfold getItem
  try with_reducible refine wpAny_holding ?_
  first | refine wpAny_bind (wpAny_pure ?_) | skip
  refine wpAny_bind (wpAny_sequenceKey ht.typeIs (by decide) ?_)
  refine wpAny_bind (wpAny_callSpecial?_slot (name := Str.ofString "__getitem__") ht.typeIs PyProof.Rows.slot_tuple_getitem
    (wpAny_call_entry PyProof.Rows.slot_tuple_getitem ht.typeIs entry_tuple_getitem ?_ (args_tuple_getitem _ _)))
  show wpAny _ _ (Builtin.Tuple.tupleItemsOf (.ref t) >>= _) _ _ s
  refine wpAny_bind (tupleItemsOf_ ht ?_)
  refine wpAny_bind (wpAny_typeOf hTs ?_)
  rw [if_pos (by decide)]
  refine wpAny_bind (sliceApplied_gen hs pl pu ?_)
  have hyes : ((((sIx items.size 0 lo : Nat) : Int) == 0 && (1 : Int) == 1 && (sIx items.size items.size hi - sIx items.size 0 lo) == items.size) = true) := by
    rw [hw.1, hw.2]
    simp
  show wpAny _ _ (if (((sIx items.size 0 lo : Nat) : Int) == 0 && (1 : Int) == 1 && (sIx items.size items.size hi - sIx items.size 0 lo) == items.size) = true then _ else _) _ _ s
  rw [if_pos hyes]
  obtain ⟨o, ho, hc, n, hd⟩ := id ht
  have ex : Builtin.Tuple.tupleIsExact (.ref t) = (typeOf (.ref t) >>= fun T => pure (T == .type "tuple")) := rfl
  refine wpAny_bind (m := Builtin.Tuple.tupleIsExact (.ref t)) ?_
  rw [ex]
  refine wpAny_bind (wpAny_typeOf ht.typeIs (wpAny_pure ?_))
  rw [if_pos (by decide)]
  exact wpAny_bind (wpAny_rule (wpAny_pure ⟨_, rfl, wpAny_pure h⟩))
end
end HT
namespace L2
open PySem PySem.Spec PyProof.Rows
section
variable {X : Cx}
theorem cutV_whole {xs : List V} {lo hi : Option Int} (h : HT.sIx xs.length 0 lo = 0 ∧ HT.sIx xs.length xs.length hi = xs.length) : cutV xs lo hi = xs := by
  unfold cutV
  rw [h.1, h.2]
  simp
noncomputable def rSlN (K : PySem.W.Frag) : V → Option Int → Option Int → Hp → VK → Prop := fun x lo hi H Q => ∃ a xs, x = .ref a ∧ SqT K H a xs ∧ NewT K H (cutV xs lo hi) Q
theorem sl_tupN : SlR X (rSlN X.K) := by
  intro pins s σ H x v vl vu lo hi sl Q I rx hs pl pu h
  obtain ⟨a, xs, rfl, hx, q⟩ := h
  by_cases hw : HT.sIx xs.length 0 lo = 0 ∧ HT.sIx xs.length xs.length hi = xs.length
  · cases rx
    obtain ⟨its, r, ht, hz⟩ := I.tuple hx
    have hlen : its.toArray.size = xs.length := by rw [List.size_toArray]; exact r.length.symm
    refine ⟨"tuple", _, PyProof.Rows.slot_tuple_getitem.lookup, ht.typeIs, ?_⟩
    refine HT.getItem_tuple_whole ht hs pl pu (by rw [hlen]; exact hw) ⟨.ref a, H, I, rfl, q a H (.inl ⟨rfl, ?_⟩)⟩
    rw [cutV_whole hw]
    exact hx
  · exact sl_tup pins s σ H _ v vl vu lo hi sl Q I rx hs pl pu ⟨a, xs, rfl, hx, hw, fun p hp => q p _ (.inr ⟨hp, rfl⟩)⟩
noncomputable def rCatN (K : PySem.W.Frag) : R2 := fun x y H Q => ∃ a b xs ys, x = .ref a ∧ y = .ref b ∧ SqT K H a xs ∧ SqT K H b ys ∧ xs.length + ys.length ≤ sizeLine ∧ NewT K H (xs ++ ys) Q
theorem op_catN : OpR X (binaryOp .Add) (rCatN X.K) := by
  intro pins s σ H x y v u Q I rx ry h
  obtain ⟨a, b, xs, ys, rfl, rfl, ha, hb, hz, q⟩ := h
  by_cases hx : xs = []
  · subst hx
    cases rx
    cases ry
    obtain ⟨its, r1, p1, _⟩ := I.tuple ha
    obtain ⟨its2, r2, p2, _⟩ := I.tuple hb
    have e0 : its = [] := (Vals.nil_iff r1).mpr rfl
    subst e0
    obtain ⟨⟨cls, dd, data, sl⟩, ho, hc, n, hd⟩ := id p1
    obtain ⟨⟨cls2, dd2, data2, sl2⟩, ho2, hc2, n2, hd2⟩ := id p2
    simp only at hc hd hc2 hd2
    subst hc hd hc2 hd2
    exact concat_meets ⟨_, ho, rfl⟩ ⟨_, ho2, rfl⟩ noFill_tuple_add seq_tuple_add PySem.F.slot_tuple_add PySem.F.entry_tuple_add (PySem.F.args_tuple_add_2 _ _)
      (tuple_addW0 a b _ _ n n2 dd dd2 sl sl2 (by simp)) ⟨ho, ho2, .ref b, H, I, rfl, q b H (.inl ⟨rfl, hb⟩)⟩
  · refine op_catT pins s σ H _ _ v u Q I rx ry ⟨a, b, xs, ys, rfl, rfl, ha, hb, hx, hz, fun e => ?_, fun _ p hp => q p _ (.inr ⟨hp, rfl⟩)⟩
    refine q a H (.inl ⟨rfl, ?_⟩)
    rw [e, List.append_nil]
    exact ha
end
end L2
namespace L2
open PySem PySem.Spec PyProof.Rows
noncomputable def closL (env : Env) : List (Str × NameKind) → List (Str × Addr) → List (Str × Addr)
  | [], cs => cs
  | (n, k) :: r, cs => closL env r (if k == .free then (match env.cells.lookup n with | some a => (n, a) :: cs | none => cs) else cs)
theorem closL_eq {env : Env} : ∀ (names : List (Str × NameKind)) (cs : List (Str × Addr)), (∀ y ∈ names, y.2 = .free → ∃ a, env.cells.lookup y.1 = some a) →
    (forIn names cs fun (x : Str × NameKind) (r : List (Str × Addr)) => if (x.2 == NameKind.free) = true then cellOf env x.1 >>= fun a => pure (ForInStep.yield ((x.1, a) :: r)) else pure (ForInStep.yield r)) = (pure (closL env names cs) : Sem _)
  | [], cs, _ => rfl
  | (n, k) :: r, cs, h => by
    have ih := fun cs => closL_eq (env := env) r cs fun y hy => h y (List.mem_cons_of_mem _ hy)
    rw [List.forIn_cons]
    show ((if (k == NameKind.free) = true then cellOf env n >>= fun a => pure (ForInStep.yield ((n, a) :: cs)) else pure (ForInStep.yield cs)) >>= _) = pure (closL env r (if k == .free then (match env.cells.lookup n with | some a => (n, a) :: cs | none => cs) else cs))
    by_cases hk : (k == NameKind.free) = true
    · obtain ⟨a, e⟩ := h (n, k) List.mem_cons_self (by simpa using hk)
      have e : env.cells.lookup n = some a := e
      rw [if_pos hk, if_pos hk, e]
      have e2 : cellOf env n = pure a := by unfold cellOf; rw [e]
      rw [e2]
      exact ih _
    · rw [if_neg hk, if_neg hk]
      exact ih _
theorem closureFor_eq {env : Env} {scope : Scope} (h : ∀ y ∈ scope.names, y.2 = .free → ∃ a, env.cells.lookup y.1 = some a) : closureFor scope env = pure (closL env scope.names []) := by
  have e := closL_eq (env := env) scope.names [] h
  exact congrArg (fun (m : Sem (List (Str × Addr))) => m >>= fun cs => pure cs) e
theorem closL_of {env : Env} {x : Str} {c : Addr} : ∀ (names : List (Str × NameKind)) (cs : List (Str × Addr)), (closL env names cs).lookup x = some c →
    cs.lookup x = some c ∨ (env.cells.lookup x = some c ∧ (x, NameKind.free) ∈ names)
  | [], cs, h => .inl h
  | (n, k) :: r, cs, h => by
    rcases closL_of r _ h with q | ⟨q, m⟩
    · by_cases hk : (k == NameKind.free) = true
      · rw [if_pos hk] at q
        cases e : env.cells.lookup n with
        | none => rw [e] at q; exact .inl q
        | some a =>
          rw [e] at q
          have q : ((n, a) :: cs).lookup x = some c := q
          rw [List.lookup_cons] at q
          by_cases hx : (x == n) = true
          · rw [hx] at q
            have q : some a = some c := q
            cases q
            have hx : x = n := eq_of_beq hx
            subst hx
            have hk : k = .free := eq_of_beq hk
            subst hk
            exact .inr ⟨e, List.mem_cons_self⟩
          · have hx : (x == n) = false := by simpa using hx
            rw [hx] at q
            exact .inl q
      · rw [if_neg hk] at q
        exact .inl q
    · exact .inr ⟨q, List.mem_cons_of_mem _ m⟩
theorem closL_has {env : Env} {x : Str} : ∀ (names : List (Str × NameKind)) (cs : List (Str × Addr)), (((∃ c, cs.lookup x = some c)) ∨ ((x, NameKind.free) ∈ names ∧ ∃ c, env.cells.lookup x = some c)) →
    ∃ c, (closL env names cs).lookup x = some c
  | [], cs, h => by
    rcases h with h | ⟨m, _⟩
    · exact h
    · cases m
  | (n, k) :: r, cs, h => by
    refine closL_has r _ ?_
    rcases h with ⟨c, hc⟩ | ⟨m, c, hc⟩
    · left
      by_cases hk : (k == NameKind.free) = true
      · rw [if_pos hk]
        cases e : env.cells.lookup n with
        | none => exact ⟨c, hc⟩
        | some a =>
          by_cases hx : (x == n) = true
          · exact ⟨a, by show ((n, a) :: cs).lookup x = some a; rw [List.lookup_cons, hx]⟩
          · have hx : (x == n) = false := by simpa using hx
            exact ⟨c, by show ((n, a) :: cs).lookup x = some c; rw [List.lookup_cons, hx]; exact hc⟩
      · rw [if_neg hk]
        exact ⟨c, hc⟩
    · rcases List.mem_cons.mp m with e | m
      · left
        cases e
        rw [if_pos (by decide), hc]
        exact ⟨c, by show ((x, c) :: cs).lookup x = some c; rw [List.lookup_cons, beq_self_eq_true]⟩
      · exact .inr ⟨m, c, hc⟩
theorem lookup_relabel_free {env : Env} : ∀ {names : List (Str × NameKind)} {x : Str}, names.lookup x = some .free →
    (names.map fun (n, k) => if (k == NameKind.free && env.scope.kind == .function && env.kindOf n == some .cell) then (n, NameKind.cell) else (n, k)).lookup x = some .cell ∨
    (names.map fun (n, k) => if (k == NameKind.free && env.scope.kind == .function && env.kindOf n == some .cell) then (n, NameKind.cell) else (n, k)).lookup x = some .free
  | [], _, h => by simp at h
  | (n, k) :: r, x, h => by
    have ih := @lookup_relabel_free env r x
    rw [List.map_cons]
    show List.lookup x ((if (k == NameKind.free && env.scope.kind == .function && env.kindOf n == some .cell) = true then (n, NameKind.cell) else (n, k)) :: _) = _ ∨ List.lookup x ((if (k == NameKind.free && env.scope.kind == .function && env.kindOf n == some .cell) = true then (n, NameKind.cell) else (n, k)) :: _) = _
    cases hx : x == n with
    | true =>
      simp only [List.lookup_cons, hx] at h
      cases h
      by_cases hc : (NameKind.free == NameKind.free && env.scope.kind == .function && env.kindOf n == some .cell) = true
      · rw [if_pos hc]; left; simp only [List.lookup_cons, hx]
      · rw [if_neg hc]; right; simp only [List.lookup_cons, hx]
    | false =>
      simp only [List.lookup_cons, hx] at h
      by_cases hc : (k == NameKind.free && env.scope.kind == .function && env.kindOf n == some .cell) = true
      · rw [if_pos hc]; simp only [List.lookup_cons, hx]; exact ih h
      · rw [if_neg hc]; simp only [List.lookup_cons, hx]; exact ih h
theorem of_lookup_relabel {env : Env} : ∀ {names : List (Str × NameKind)} {x : Str}, ((names.map fun (n, k) => if (k == NameKind.free && env.scope.kind == .function && env.kindOf n == some .cell) then (n, NameKind.cell) else (n, k)).lookup x = some .cell ∨
    (names.map fun (n, k) => if (k == NameKind.free && env.scope.kind == .function && env.kindOf n == some .cell) then (n, NameKind.cell) else (n, k)).lookup x = some .free) → names.lookup x = some .free ∨ names.lookup x = some .cell
  | [], _, h => by simp at h
  | (n, k) :: r, x, h => by
    have ih := @of_lookup_relabel env r x
    rw [List.map_cons] at h
    have h : List.lookup x ((if (k == NameKind.free && env.scope.kind == .function && env.kindOf n == some .cell) = true then (n, NameKind.cell) else (n, k)) :: _) = _ ∨ List.lookup x ((if (k == NameKind.free && env.scope.kind == .function && env.kindOf n == some .cell) = true then (n, NameKind.cell) else (n, k)) :: _) = _ := h
    cases hx : x == n with
    | true =>
      simp only [List.lookup_cons, hx]
      by_cases hc : (k == NameKind.free && env.scope.kind == .function && env.kindOf n == some .cell) = true
      · have : k = .free := by
          simp only [Bool.and_eq_true, beq_iff_eq] at hc
          exact hc.1.1
        subst this
        exact .inl rfl
      · rw [if_neg hc] at h
        simp only [List.lookup_cons, hx] at h
        exact h.symm
    | false =>
      simp only [List.lookup_cons, hx]
      refine ih ?_
      by_cases hc : (k == NameKind.free && env.scope.kind == .function && env.kindOf n == some .cell) = true
      · rw [if_pos hc] at h; simp only [List.lookup_cons, hx] at h; exact h
      · rw [if_neg hc] at h; simp only [List.lookup_cons, hx] at h; exact h
structure CompScope (osc sc : Scope) (own frees N : List Str) (ix : List Nat) : Prop where
  kind : sc.kind = .function
  nocell : ∀ y ∈ sc.names, y.2 ≠ .cell
  names : ∀ y ∈ sc.names, y.2 = .local → sc.names.lookup y.1 = some .local
  fr : ∀ y ∈ sc.names, y.2 = .free → osc.names.lookup y.1 = some .cell ∨ osc.names.lookup y.1 = some .free
  nd : (own ++ frees).Nodup
  frl : ∀ x ∈ frees, sc.names.lookup x = some .free
  ixs : ix.map (fun i => N[i]?) = frees.map some
noncomputable def compCx (X : Cx) (scope : Scope) (own frees : List Str) (cl : List (Str × Addr)) (C : Addr) (s₀ : Shared) (H₀ : Hp) (fp : List Addr) (pn : List (Addr × Obj)) : Cx :=
  { X with N := own ++ frees, s₀ := s₀, H₀ := H₀, env := compEnvC scope cl C X.env, outer := X.stack, stack := X.stack, ex := fp, fn := fun _ => false, pn := pn, xe := fun _ _ => False }
noncomputable def compSt (k : Nat) (ix : List Nat) (σ : St) : St := List.replicate k none ++ ix.map fun i => (σ[i]?).getD none
section
variable {X : Cx} {tg iter elt : Expr} {pos : Pos} {scope : Scope} {own frees : List Str} {ix : List Nat} {wi : TI} {g : TG} {te : TE}
theorem compSt_len (k : Nat) (ix : List Nat) (σ : St) : (compSt k ix σ).length = k + ix.length := by
  unfold compSt
  simp
theorem comp_start {pins : List (Addr × Obj)} {σ : St} {H : Hp} {s s1 : Shared} {fp : List Addr} (S : CompScope X.env.scope scope own frees X.N ix) (I : Inv X pins σ H s) (hf : ∀ b ∈ fp, FpOk X pins H b) (hb : ∀ b ∈ fp, b < s.heap.objs.size)
    (ho : s1.os = s.os) (hg : s1.gens = s.gens) (hk : ∀ b o, s.heap.get? b = some o → s1.heap.get? b = some o) (hn : s1.heap.Ns s.heap.objs.size (fun _ => none)) :
    Inv (compCx X scope own frees (closL X.env scope.names []) s.heap.objs.size s H fp (X.pn ++ pins)) [] (compSt own.length ix σ) H s1 := by
  have clos : ∀ x c, (closL X.env scope.names []).lookup x = some c → X.env.cells.lookup x = some c ∧ (x, NameKind.free) ∈ scope.names := fun x c h => by
    rcases closL_of _ _ h with q | q
    · exact nomatch q
    · exact q
  have hlen : ix.length = frees.length := by
    have := congrArg List.length S.ixs
    simpa using this
  have cne : ∀ x c, X.env.cells.lookup x = some c → c < s.heap.objs.size := fun x c e => by
    obtain ⟨v, o, q, _⟩ := I.cell x c e
    exact Heap.lt_size q
  refine ⟨⟨I.ok.mod, S.kind, I.ok.glob, I.ok.blt, Nat.le_refl _, fun x y c h1 h2 => I.ok.inj x y c (clos x c h1).1 (clos y c h2).1, fun x hx => ?_, fun x c z => Bool.noConfusion z, I.ok.hd, I.ok.frames, .inl rfl, fun b z => ⟨Nat.ne_of_lt (hb b z), fun x c e => (hf b z).2.2.2.2.1 x c (clos x c e).1⟩, I.bs,
      Nat.le_trans I.ok.bsz I.sz, fun b o e z => ?_, fun b z => ?_, I.stack, I.stkFree⟩, ho, ?_, Un.kept hk, ⟨_, hn, fun i x v h1 h2 h3 => ?_⟩, fun x c e => ?_, I.fresh, fun x c e => I.freeC x c (clos x c e).1, fun p hp => ?_, I.hok.kept hk, ?_⟩
  · have hx : (relabel scope X.env).names.lookup x = some .cell ∨ (relabel scope X.env).names.lookup x = some .free := hx
    rcases of_lookup_relabel hx with q | q
    · have m : (x, NameKind.free) ∈ scope.names := PySem.mem_of_lookup q
      obtain ⟨c, hc⟩ := I.ok.has x (S.fr _ m rfl)
      exact closL_has _ _ (.inr ⟨m, c, hc⟩)
    · exact absurd rfl (S.nocell _ (PySem.mem_of_lookup q))
  · rcases (hf b z).2.2.2.1 with q | q
    · exact I.ok.noex b o e q
    · exact absurd (Heap.lt_size (I.ok.bs b o e).1) (Nat.not_lt.mpr q)
  · intro q
    rcases List.mem_cons.mp (I.stkSub b q) with r | r
    · exact (hf b z).2.1 r
    · exact (hf b z).2.2.1 r
  · rw [hg]; exact I.bare
  · have h2 : (compSt own.length ix σ)[i]? = some (some v) := h2
    have h1 : (own ++ frees)[i]? = some x := h1
    unfold compSt at h2
    by_cases hi : i < own.length
    · rw [List.getElem?_append_left (by simpa using hi), List.getElem?_replicate] at h2
      rw [if_pos hi] at h2
      cases h2
    · have hi : own.length ≤ i := Nat.not_lt.mp hi
      rw [List.getElem?_append_right (by simpa using hi), List.length_replicate, List.getElem?_map] at h2
      rw [List.getElem?_append_right hi] at h1
      cases e : ix[i - own.length]? with
      | none => rw [e] at h2; cases h2
      | some j =>
        rw [e] at h2
        have h2 : some ((σ[j]?).getD none) = some (some v) := h2
        have hσ : σ[j]? = some (some v) := by
          cases q : σ[j]? with
          | none => rw [q] at h2; cases h2
          | some z => rw [q] at h2; exact h2
        have hN : X.N[j]? = some x := by
          have := congrArg (fun l : List (Option Str) => l[i - own.length]?) S.ixs
          simp only [List.getElem?_map, e, h1, Option.map_some] at this
          exact Option.some.inj this
        have mf : x ∈ frees := List.mem_of_getElem? h1
        have lf := S.frl x mf
        have m : (x, NameKind.free) ∈ scope.names := PySem.mem_of_lookup lf
        have hos := S.fr _ m rfl
        obtain ⟨mm, hns, hl⟩ := I.loc
        obtain ⟨u, ru, look⟩ := hl j x v hN hσ (hos.elim (fun q => .inr (.inl q)) fun q => .inr (.inr q))
        refine ⟨u, ru, ?_⟩
        rcases look with ⟨kk, _⟩ | ⟨kk, c, hc, ic⟩
        · have kk : X.env.scope.names.lookup x = some .local := kk
          have hos : X.env.scope.names.lookup x = some .cell ∨ X.env.scope.names.lookup x = some .free := hos
          rw [kk] at hos
          rcases hos with q | q <;> cases q
        · obtain ⟨c', hc'⟩ := closL_has (env := X.env) scope.names [] (.inr ⟨m, c, hc⟩)
          have e2 := (clos x c' hc').1
          rw [hc] at e2
          cases e2
          refine .inr ⟨lookup_relabel_free lf, c, hc', ?_⟩
          obtain ⟨o, q1, q2⟩ := ic
          exact ⟨o, hk _ _ q1, q2⟩
  · obtain ⟨v, o, q1, q2⟩ := I.cell x c (clos x c e).1
    exact ⟨v, o, hk _ _ q1, q2⟩
  · have hp : p ∈ (X.pn ++ pins) ++ [] := hp
    rw [List.append_nil] at hp
    obtain ⟨e, n, ne, nf, d⟩ := I.pin p hp
    refine ⟨hk _ _ e, n, Nat.ne_of_lt (Heap.lt_size e), fun q => ?_, d⟩
    rcases List.mem_cons.mp (I.stkSub p.1 q) with r | r
    · exact ne r
    · exact nf r
  · show (compSt own.length ix σ).length = (own ++ frees).length
    rw [compSt_len, hlen, List.length_append]
theorem comp_end {pins pins' : List (Addr × Obj)} {σ σ' : St} {H H' : Hp} {s s' : Shared} {h' : Heap} {fp : List Addr} {cl : List (Str × Addr)} {C : Addr} (I : Inv X pins σ H s) (hf : ∀ b ∈ fp, FpOk X pins H b) (hC : s.heap.objs.size ≤ C)
    (J : Inv (compCx X scope own frees cl C s H fp (X.pn ++ pins)) pins' σ' H' s') (hs : Heap.SameBut C s'.heap h') : Inv X pins σ H' { s' with heap := h' } := by
  have nC : ∀ b, b < s.heap.objs.size → b ≠ C := fun b q e => by subst e; exact absurd q (Nat.not_lt.mpr hC)
  refine I.call' (ch := fp) J.os ⟨fun b o e n hb hx => ?_, fun b o e n hb hx => ?_, J.base.free, fun b o e hx => ?_, J.base.tups, J.base.frzs, J.base.tbls⟩ ?_ J.bare fun b z => ⟨(hf b z).2.2.2.1, (hf b z).2.1, (hf b z).2.2.2.2.1, (hf b z).2.2.2.2.2⟩
  · exact (hs.2 b (nC b (Heap.lt_size e))).trans (J.base.keep b o e n hb hx)
  · obtain ⟨sl, q⟩ := J.base.slot b o e n hb hx
    exact ⟨sl, (hs.2 b (nC b (Heap.lt_size e))).trans q⟩
  · obtain ⟨o', q⟩ := J.base.there b o e hx
    exact ⟨o', (hs.2 b (nC b (Heap.lt_size e))).trans q⟩
  · intro a o e
    refine (J.hok a o e).stay (fun b u hbu q => ?_) (fun _ q => q) fun _ _ q => q
    refine (hs.2 b ?_).trans q
    intro eb
    subst eb
    have hfree : H' b = none := J.free
    rcases hbu with rfl | z
    · rw [e] at hfree; cases hfree
    · rw [z] at hfree; cases hfree
end
end L2
namespace PySem
section
variable {prog : Program} {w : World} {A : Around} {E : Value → Shared → Prop} {s : Shared}
end
end PySem
namespace L2
open PySem PySem.Spec PyProof.Rows
section
variable {X : Cx} {tg : Expr}
end
end L2
namespace L2
open PySem PySem.Spec PyProof.Rows
section
variable {X : Cx}
end
noncomputable def compOk (osc sc : Scope) (own frees N : List Str) (ix : List Nat) : Bool :=
  decide (sc.kind = .function) && sc.names.all (fun y => decide (y.2 ≠ .cell)) && sc.names.all (fun y => decide (y.2 = .local → sc.names.lookup y.1 = some .local)) &&
    sc.names.all (fun y => decide (y.2 = .free → osc.names.lookup y.1 = some .cell ∨ osc.names.lookup y.1 = some .free)) && decide (own ++ frees).Nodup && frees.all (fun x => decide (sc.names.lookup x = some .free)) &&
    decide (ix.map (fun i => N[i]?) = frees.map some)
theorem compOk.sc {osc sc : Scope} {own frees N : List Str} {ix : List Nat} (h : compOk osc sc own frees N ix = true) : CompScope osc sc own frees N ix := by
  unfold compOk at h
  simp only [Bool.and_eq_true, List.all_eq_true, decide_eq_true_eq] at h
  obtain ⟨⟨⟨⟨⟨⟨h1, h2⟩, h3⟩, h4⟩, h5⟩, h6⟩, h7⟩ := h
  exact ⟨h1, h2, h3, h4, h5, h6, h7⟩
theorem Same.new {H : Hp} {p : Addr} (o : HO) (h : H p = none) : Same H (upd H p o) := fun x u e => by rw [upd_ne (ne_of_none e h)]; exact e
theorem NewT.intro {K : PySem.W.Frag} {H : Hp} {xs : List V} {Q : VK} (h : ∀ p H', SqT K H' p xs → Same H H' → Q (.ref p) H') : NewT K H xs Q := by
  intro p H' e
  rcases e with ⟨rfl, s⟩ | ⟨n, rfl⟩
  · exact h p H' s (Same.refl _)
  · exact h p _ (SqT.of upd_same) (Same.new _ n)
end L2
namespace L2
open PySem PySem.Spec PyProof.Rows
section
variable {X : Cx} {st : Stmt} {rest : List Stmt} {t u : TS}
end
end L2
namespace L2
open PySem PySem.Spec PyProof.Rows
noncomputable def dT (ns : List Int) : PyData := .tuple (ns.map PyData.int)
theorem call_tupN {X : Cx} : CallR X (.type "tuple") (fun xs H Q => ∃ (p : Addr) (ys : List V), xs = [.ref p] ∧ (SqL X.K H p ys ∨ SqT X.K H p ys) ∧ NewT X.K H ys Q) := by
  intro pins s σ H xs us Q I r h
  obtain ⟨p, ys, rfl, hs, q⟩ := h
  refine call_tuple_of pins s σ H _ us Q I r ⟨p, ys, rfl, ?_⟩
  rcases hs with hs | hs
  · exact .inl ⟨hs, fun l hl => q l _ (.inr ⟨hl, rfl⟩)⟩
  · exact .inr ⟨hs, q p H (.inl ⟨rfl, hs⟩)⟩
section
variable {κ : Type} [DecidableEq κ]
end
end L2
namespace L2
open PySem PySem.Spec PyProof.Rows
section
variable {X : Cx} {e st : Expr} {te : TE} {p2 pos : Pos}
end
end L2
namespace L2
open PySem PySem.Spec PyProof.Rows
theorem noFill_tuple_mul : fillsNumberSlot (.type "tuple") "mul" = pure false :=
  PySem.fillsNumberSlot_seq (id := "tuple.__mul__") (r := some (.builtin "tuple.__rmul__")) F.slot_tuple_mul.lookup (by decide +kernel) F.slot_tuple_rmul.lookup (by decide +kernel)
theorem repeat_tuple : seqRepeat? (.type "tuple") = pure (some (.builtin "tuple.__mul__")) := by
  unfold seqRepeat?
  rw [PySem.seqSlot_of (T := "tuple") (name := "__mul__") (id := "tuple.__mul__") F.slot_tuple_mul.lookup (by decide +kernel), PySem.seqSlot_of (T := "tuple") (name := "__rmul__") (id := "tuple.__rmul__") F.slot_tuple_rmul.lookup (by decide +kernel)]
  rfl
theorem int_rmul_tuple (a : Int) (t : Tok) (l : Addr) (items : Array Value) (n : Nat) (dd : Option Addr) (sl : Array (Option Value)) :
    Meets (Builtin.«int.__rmul__» ⟨[.int a t, .ref l], []⟩) (fun _ R s => s.heap.get? l = some { cls := .type "tuple", dict := dd, data := .seq items n, slots := sl } ∧ R (.ok (.ret Value.notImplemented)) s) :=
  .of_wp fun prog w A R s h => by obtain ⟨hp, g, d, tk, os⟩ := s; obtain ⟨hl, h⟩ := h; wp_walk; exact ⟨_, rfl, h⟩
theorem tuple_mulW (l : Addr) (items : Array Value) (n : Nat) (dd : Option Addr) (sl : Array (Option Value)) (x : Int) (u : Tok) (hc0 : ¬(decide (x < -(2 ^ 63)) || decide (x ≥ 2 ^ 63)) = true) (hc1 : ¬(items.isEmpty || x == 1) = true) (hc2 : ¬(decide (x ≤ 0) || items.isEmpty) = true) (hc3 : ¬ ((items.size : Int) * x > (2 ^ 63 - 1) / 8)) (hc4 : ¬ Builtin.Tuple.tupleTooMany ((items.size : Int) * x) = true) (hsz : (List.foldl (fun x1 x2 => x1 ++ x2) #[] (List.replicate x.toNat items)).size ≤ sizeLine) :
    Meets (Builtin.«tuple.__mul__» ⟨[.ref l, .int x u], []⟩) (fun _ R s => s.heap.get? l = some { cls := .type "tuple", dict := dd, data := .seq items n, slots := sl } ∧ R (.ok (.ret (Value.ref s.heap.objs.size))) { s with heap := s.heap.push { cls := Value.type "tuple", data := Data.seq (List.foldl (fun x1 x2 => x1 ++ x2) #[] (List.replicate x.toNat items)) }, toks := s.toks }) :=
  .of_wp fun prog w A R s h => by
    obtain ⟨hp, g, d, tk, os⟩ := s; obtain ⟨hl, h⟩ := h
    have f1 := AutoSeq1.idx_int; have f2 := AutoSeq1.sub_tuple_tuple
    wp_walk using AutoSeq1.wpAny_loadPart' hl
    rw [if_neg hc0]
    wp_walk using AutoSeq1.wpAny_loadPart' hl
    rw [if_neg hc3]
    wp_walk using AutoSeq1.wpAny_loadPart' hl
    exact ⟨_, rfl, h⟩
section
variable {X : Cx}
noncomputable def rRepT (K : PySem.W.Frag) : R2 := fun x y H Q => ∃ a k xs, x = .ref a ∧ y = .int k ∧ SqT K H a xs ∧ 0 < xs.length ∧ 2 ≤ k ∧ k < 2 ^ 63 ∧ xs.length * k.toNat ≤ sizeLine ∧
  ∀ p, H p = none → Q (.ref p) (upd H p (.tup (List.replicate k.toNat xs).flatten))
theorem op_repT : OpR X (binaryOp .Mult) (rRepT X.K) := by
  intro pins s σ H x y v u Q I rx ry h
  obtain ⟨a, k, xs, rfl, rfl, ha, h0, h1, h2, hz, q⟩ := h
  cases rx
  obtain ⟨t, rfl⟩ := ry
  obtain ⟨its, r, p1, _⟩ := I.tuple ha
  obtain ⟨⟨cls, dd, data, sl⟩, e, hc, n, hd⟩ := id p1
  simp only at hc hd
  subst hc hd
  have hlen : its.length = xs.length := r.length.symm
  have hne : its.toArray.isEmpty = false := by
    cases its with
    | nil => simp at hlen; omega
    | cons a r => simp
  have hnew : List.foldl (fun x1 x2 => x1 ++ x2) #[] (List.replicate k.toNat its.toArray) = (List.replicate k.toNat its).flatten.toArray := by
    have := foldl_rep its k.toNat []
    rw [List.nil_append] at this
    exact this
  have hl2 : ((its.toArray.size : Nat) : Int) * k = ((xs.length * k.toNat : Nat) : Int) := by
    rw [List.size_toArray, hlen, Int.natCast_mul, Int.toNat_of_nonneg (by omega)]
  have hs : (sizeLine : Nat) = 16777216 := rfl
  refine wpAny_binaryOp_repeat_ref (T := "tuple") (U := "int") (by decide) ⟨_, e, rfl⟩ (fun s' => typeIs_int s' k t) noFill_tuple_mul F.fills_int_mul F.slot_int_rmul repeat_tuple F.slot_int_index.lookup
    (call_meets F.slot_int_rmul (typeIs_int s k t) F.entry_int_rmul (F.args_int_rmul_2 _ _) (int_rmul_tuple k t a its.toArray n dd sl)
      ⟨e, rfl, ⟨_, e, rfl⟩, call_meets F.slot_tuple_mul ⟨_, e, rfl⟩ F.entry_tuple_mul (F.args_tuple_mul_2 _ _) (tuple_mulW a its.toArray n dd sl k t (by simp; omega) (by rw [hne]; simp; omega) (by rw [hne]; simp; omega) (by rw [hl2]; clear hl2; generalize xs.length * k.toNat = m at hz ⊢; omega) (by rw [hl2]; clear hl2; generalize xs.length * k.toNat = m at hz ⊢; unfold Builtin.Tuple.tupleTooMany; rw [decide_eq_true_eq]; omega) (by rw [hnew, List.size_toArray, len_rep, hlen, Nat.mul_comm]; exact hz)) ⟨e, ?_⟩⟩)
  rw [hnew]
  refine ⟨.ref s.heap.objs.size, _, I.laid (t' := s.toks) (o := .tup (List.replicate k.toNat xs).flatten) (fun b ob q => Heap.get?_push_of_some _ q) (Nat.le_refl _) ?_, rfl, q _ (I.hok.fresh (Nat.le_refl _))⟩
  exact ⟨by rw [len_rep, Nat.mul_comm]; exact hz, _, r.rep k.toNat, IsTup.new _ _⟩
end
end L2
namespace Mi
open PySem L2
inductive D where
  | non | bool (b : Bool) | int (i : Int) | str (x : Str)
  | tup (ds : List D) | ro (ds : List D) | lst (l : Nat) (ds : List D)
  | dct (l : Nat) (ks vs : List D) | obj (l : Nat) (c : Str) (ns : List Str) (vs : List D)
deriving Inhabited
mutual
noncomputable def labs : D → List Nat
  | .tup ds => labsL ds
  | .ro ds => labsL ds
  | .lst l ds => l :: labsL ds
  | .dct l ks vs => l :: (labsL ks ++ labsL vs)
  | .obj l _ _ vs => l :: labsL vs
  | .non => [] | .bool _ => [] | .int _ => [] | .str _ => []
noncomputable def labsL : List D → List Nat
  | [] => []
  | d :: ds => labs d ++ labsL ds
end
noncomputable def labsO : List (Option D) → List Nat
  | [] => []
  | none :: r => labsO r
  | some d :: r => labs d ++ labsO r
structure Gx where
  K : PySem.W.Frag
  cl : Str → Option Addr
  ci : ∀ c c' a, cl c = some a → cl c' = some a → c = c'
noncomputable def keyD : Key → D
  | .inl i => .int i
  | .inr x => .str x
noncomputable def dkD (ks : List Key) : D := .tup (ks.map keyD)
noncomputable def RoL (K : PySem.W.Frag) (H : Hp) (a : Addr) (xs : List V) : Prop :=
  (∃ o, H a = some (.frz o (.lst xs))) ∨ ∃ (o : Obj) (its : Array Value) (n : Nat), K.lookup a = some o ∧ o.cls = .type "list" ∧ o.dict = none ∧ o.data = .seq its n ∧ its.size ≤ sizeLine ∧ Vals xs its.toList
theorem RoL.sq {K : PySem.W.Frag} {H : Hp} {a : Addr} {xs : List V} (h : RoL K H a xs) : SqL K H a xs := by
  rcases h with ⟨o, h⟩ | h
  · exact .inl (.inr ⟨o, h⟩)
  · exact .inr h
mutual
noncomputable def RD (G : Gx) (ρ : Nat → Addr) (H : Hp) : D → V → Prop
  | .non, v => v = .non
  | .bool b, v => v = .bl b
  | .int i, v => v = .int i
  | .str x, v => v = .str x
  | .tup ds, v => ∃ a xs, v = .ref a ∧ SqT G.K H a xs ∧ RDs G ρ H ds xs
  | .ro ds, v => ∃ a xs, v = .ref a ∧ RoL G.K H a xs ∧ RDs G ρ H ds xs
  | .lst l ds, v => v = .ref (ρ l) ∧ ∃ xs, H (ρ l) = some (.lst xs) ∧ RDs G ρ H ds xs
  | .dct l ks vs, v => v = .ref (ρ l) ∧ ((∃ kvs : List (Key × V), H (ρ l) = some (.dK kvs) ∧ ks = kvs.map (fun p => keyD p.1) ∧ RDs G ρ H vs (kvs.map (·.2))) ∨
      (∃ kvs : List (List Key × V), H (ρ l) = some (.dT kvs) ∧ ks = kvs.map (fun p => dkD p.1) ∧ RDs G ρ H vs (kvs.map (·.2))))
  | .obj l c ns vs, v => v = .ref (ρ l) ∧ ∃ C dx fs, G.cl c = some C ∧ H (ρ l) = some (.ins C dx fs) ∧ ns = fs.map (·.1) ∧ RDs G ρ H vs (fs.map (·.2))
noncomputable def RDs (G : Gx) (ρ : Nat → Addr) (H : Hp) : List D → List V → Prop
  | [], xs => xs = []
  | d :: ds, xs => ∃ x r, xs = x :: r ∧ RD G ρ H d x ∧ RDs G ρ H ds r
end
structure Stays (H H' : Hp) : Prop where
  t : ∀ b xs, H b = some (.tup xs) → H' b = some (.tup xs)
  f : ∀ b o u, H b = some (.frz o u) → H' b = some (.frz o u)
theorem Stays.refl (H : Hp) : Stays H H := ⟨fun _ _ h => h, fun _ _ _ h => h⟩
theorem Stays.of {H H' : Hp} (h : Same H H') : Stays H H' := ⟨fun _ _ e => h _ _ e, fun _ _ _ e => h _ _ e⟩
theorem Stays.sqT {K : PySem.W.Frag} {H H' : Hp} (t : Stays H H') {a : Addr} {xs : List V} (h : SqT K H a xs) : SqT K H' a xs := by
  rcases h with (h | ⟨o, h⟩) | h
  · exact .inl (.inl (t.t _ _ h))
  · exact .inl (.inr ⟨o, t.f _ _ _ h⟩)
  · exact .inr h
theorem Stays.ro {K : PySem.W.Frag} {H H' : Hp} (t : Stays H H') {a : Addr} {xs : List V} (h : RoL K H a xs) : RoL K H' a xs := by
  rcases h with ⟨o, h⟩ | h
  · exact .inl ⟨o, t.f _ _ _ h⟩
  · exact .inr h
section
variable {G : Gx} {ρ ρ' : Nat → Addr} {H H' : Hp}
mutual
theorem RD.stay (ts : Stays H H') : ∀ (t : D) (v : V), RD G ρ H t v → (∀ l ∈ labs t, ρ' l = ρ l ∧ ∀ o, H (ρ l) = some o → H' (ρ l) = some o) → RD G ρ' H' t v
  | .non, v, h, _ => by simp only [RD] at h ⊢; exact h
  | .bool b, v, h, _ => by simp only [RD] at h ⊢; exact h
  | .int b, v, h, _ => by simp only [RD] at h ⊢; exact h
  | .str b, v, h, _ => by simp only [RD] at h ⊢; exact h
  | .tup ds, v, h, hl => by
    simp only [RD, labs] at h hl ⊢
    obtain ⟨a, xs, e, s, r⟩ := h
    exact ⟨a, xs, e, ts.sqT s, RDs.stay ts ds xs r hl⟩
  | .ro ds, v, h, hl => by
    simp only [RD, labs] at h hl ⊢
    obtain ⟨a, xs, e, s, r⟩ := h
    exact ⟨a, xs, e, ts.ro s, RDs.stay ts ds xs r hl⟩
  | .lst l ds, v, h, hl => by
    simp only [RD, labs] at h hl ⊢
    obtain ⟨e, xs, s, r⟩ := h
    obtain ⟨e1, e2⟩ := hl l (List.mem_cons_self ..)
    rw [e1]
    exact ⟨e, xs, e2 _ s, RDs.stay ts ds xs r fun k hk => hl k (List.mem_cons_of_mem _ hk)⟩
  | .dct l ks vs, v, h, hl => by
    simp only [RD, labs] at h hl ⊢
    obtain ⟨e, s⟩ := h
    obtain ⟨e1, e2⟩ := hl l (List.mem_cons_self ..)
    rw [e1]
    refine ⟨e, ?_⟩
    rcases s with ⟨kvs, s, s2, r⟩ | ⟨kvs, s, s2, r⟩
    · exact .inl ⟨kvs, e2 _ s, s2, RDs.stay ts vs _ r fun k hk => hl k (List.mem_cons_of_mem _ (List.mem_append_right _ hk))⟩
    · exact .inr ⟨kvs, e2 _ s, s2, RDs.stay ts vs _ r fun k hk => hl k (List.mem_cons_of_mem _ (List.mem_append_right _ hk))⟩
  | .obj l c ns vs, v, h, hl => by
    simp only [RD, labs] at h hl ⊢
    obtain ⟨e, C, dx, fs, hC, s, s2, r⟩ := h
    obtain ⟨e1, e2⟩ := hl l (List.mem_cons_self ..)
    rw [e1]
    exact ⟨e, C, dx, fs, hC, e2 _ s, s2, RDs.stay ts vs _ r fun k hk => hl k (List.mem_cons_of_mem _ hk)⟩
theorem RDs.stay (ts : Stays H H') : ∀ (t : List D) (v : List V), RDs G ρ H t v → (∀ l ∈ labsL t, ρ' l = ρ l ∧ ∀ o, H (ρ l) = some o → H' (ρ l) = some o) → RDs G ρ' H' t v
  | [], v, h, _ => by simp only [RDs] at h ⊢; exact h
  | d :: ds, v, h, hl => by
    simp only [RDs, labsL] at h hl ⊢
    obtain ⟨x, r, e, h1, h2⟩ := h
    exact ⟨x, r, e, RD.stay ts d x h1 fun l hk => hl l (List.mem_append_left _ hk), RDs.stay ts ds r h2 fun l hk => hl l (List.mem_append_right _ hk)⟩
end
end
mutual
noncomputable def rp (f : Nat → Option D) : D → D
  | .tup ds => .tup (rpL f ds)
  | .ro ds => .ro (rpL f ds)
  | .lst l ds => match f l with | some d => d | none => .lst l (rpL f ds)
  | .dct l ks vs => match f l with | some d => d | none => .dct l ks (rpL f vs)
  | .obj l c ns vs => match f l with | some d => d | none => .obj l c ns (rpL f vs)
  | .non => .non | .bool b => .bool b | .int i => .int i | .str x => .str x
noncomputable def rpL (f : Nat → Option D) : List D → List D
  | [] => []
  | d :: ds => rp f d :: rpL f ds
end
noncomputable def rpO (f : Nat → Option D) : List (Option D) → List (Option D)
  | [] => []
  | none :: r => none :: rpO f r
  | some d :: r => some (rp f d) :: rpO f r
section
variable {f : Nat → Option D}
mutual
theorem rp_id : ∀ t : D, (∀ l ∈ labs t, f l = none) → rp f t = t
  | .non, _ => rfl
  | .bool b, _ => rfl
  | .int b, _ => rfl
  | .str b, _ => rfl
  | .tup ds, h => by simp only [rp, labs] at h ⊢; rw [rpL_id ds h]
  | .ro ds, h => by simp only [rp, labs] at h ⊢; rw [rpL_id ds h]
  | .lst l ds, h => by
    simp only [rp, labs] at h ⊢
    rw [h l (List.mem_cons_self ..), rpL_id ds fun k hk => h k (List.mem_cons_of_mem _ hk)]
  | .dct l ks vs, h => by
    simp only [rp, labs] at h ⊢
    rw [h l (List.mem_cons_self ..), rpL_id vs fun k hk => h k (List.mem_cons_of_mem _ (List.mem_append_right _ hk))]
  | .obj l c ns vs, h => by
    simp only [rp, labs] at h ⊢
    rw [h l (List.mem_cons_self ..), rpL_id vs fun k hk => h k (List.mem_cons_of_mem _ hk)]
theorem rpL_id : ∀ t : List D, (∀ l ∈ labsL t, f l = none) → rpL f t = t
  | [], _ => rfl
  | d :: ds, h => by
    simp only [rpL, labsL] at h ⊢
    rw [rp_id d fun l hk => h l (List.mem_append_left _ hk), rpL_id ds fun l hk => h l (List.mem_append_right _ hk)]
end
theorem rpO_id : ∀ t : List (Option D), (∀ l ∈ labsO t, f l = none) → rpO f t = t
  | [], _ => rfl
  | none :: r, h => by simp only [rpO, labsO] at h ⊢; rw [rpO_id r h]
  | some d :: r, h => by
    simp only [rpO, labsO] at h ⊢
    rw [rp_id d fun l hk => h l (List.mem_append_left _ hk), rpO_id r fun l hk => h l (List.mem_append_right _ hk)]
end
section
variable {G : Gx} {ρ ρ' : Nat → Addr} {H H' : Hp} {f : Nat → Option D}
mutual
theorem RD.rp (ts : Stays H H') : ∀ (t : D) (v : V), RD G ρ H t v → (∀ l ∈ labs t, ρ' l = ρ l ∧ (match f l with | some d => RD G ρ' H' d (.ref (ρ l)) | none => ∀ o, H (ρ l) = some o → H' (ρ l) = some o)) → RD G ρ' H' (rp f t) v
  | .non, v, h, _ => by simp only [Mi.rp, RD] at h ⊢; exact h
  | .bool b, v, h, _ => by simp only [Mi.rp, RD] at h ⊢; exact h
  | .int b, v, h, _ => by simp only [Mi.rp, RD] at h ⊢; exact h
  | .str b, v, h, _ => by simp only [Mi.rp, RD] at h ⊢; exact h
  | .tup ds, v, h, hl => by
    simp only [Mi.rp, RD, labs] at h hl ⊢
    obtain ⟨a, xs, e, s, r⟩ := h
    exact ⟨a, xs, e, ts.sqT s, RDs.rp ts ds xs r hl⟩
  | .ro ds, v, h, hl => by
    simp only [Mi.rp, RD, labs] at h hl ⊢
    obtain ⟨a, xs, e, s, r⟩ := h
    exact ⟨a, xs, e, ts.ro s, RDs.rp ts ds xs r hl⟩
  | .lst l ds, v, h, hl => by
    simp only [Mi.rp, RD, labs] at h hl ⊢
    obtain ⟨e, xs, s, r⟩ := h
    obtain ⟨e1, e2⟩ := hl l (List.mem_cons_self ..)
    cases ef : f l with
    | some d => rw [ef] at e2; subst e; exact e2
    | none =>
      rw [ef] at e2
      simp only [RD]
      rw [e1]
      exact ⟨e, xs, e2 _ s, RDs.rp ts ds xs r fun k hk => hl k (List.mem_cons_of_mem _ hk)⟩
  | .dct l ks vs, v, h, hl => by
    simp only [Mi.rp, RD, labs] at h hl ⊢
    obtain ⟨e, s⟩ := h
    obtain ⟨e1, e2⟩ := hl l (List.mem_cons_self ..)
    cases ef : f l with
    | some d => rw [ef] at e2; subst e; exact e2
    | none =>
      rw [ef] at e2
      simp only [RD]
      rw [e1]
      refine ⟨e, ?_⟩
      rcases s with ⟨kvs, s, s2, r⟩ | ⟨kvs, s, s2, r⟩
      · exact .inl ⟨kvs, e2 _ s, s2, RDs.rp ts vs _ r fun k hk => hl k (List.mem_cons_of_mem _ (List.mem_append_right _ hk))⟩
      · exact .inr ⟨kvs, e2 _ s, s2, RDs.rp ts vs _ r fun k hk => hl k (List.mem_cons_of_mem _ (List.mem_append_right _ hk))⟩
  | .obj l c ns vs, v, h, hl => by
    simp only [Mi.rp, RD, labs] at h hl ⊢
    obtain ⟨e, C, dx, fs, hC, s, s2, r⟩ := h
    obtain ⟨e1, e2⟩ := hl l (List.mem_cons_self ..)
    cases ef : f l with
    | some d => rw [ef] at e2; subst e; exact e2
    | none =>
      rw [ef] at e2
      simp only [RD]
      rw [e1]
      exact ⟨e, C, dx, fs, hC, e2 _ s, s2, RDs.rp ts vs _ r fun k hk => hl k (List.mem_cons_of_mem _ hk)⟩
theorem RDs.rp (ts : Stays H H') : ∀ (t : List D) (v : List V), RDs G ρ H t v → (∀ l ∈ labsL t, ρ' l = ρ l ∧ (match f l with | some d => RD G ρ' H' d (.ref (ρ l)) | none => ∀ o, H (ρ l) = some o → H' (ρ l) = some o)) → RDs G ρ' H' (rpL f t) v
  | [], v, h, _ => by simp only [rpL, RDs] at h ⊢; exact h
  | d :: ds, v, h, hl => by
    simp only [rpL, RDs, labsL] at h hl ⊢
    obtain ⟨x, r, e, h1, h2⟩ := h
    exact ⟨x, r, e, RD.rp ts d x h1 fun l hk => hl l (List.mem_append_left _ hk), RDs.rp ts ds r h2 fun l hk => hl l (List.mem_append_right _ hk)⟩
end
end
section
variable {f : Nat → Option D}
mutual
theorem labs_rp (l : Nat) : ∀ t : D, l ∈ labs (rp f t) → l ∈ labs t ∨ ∃ k d, k ∈ labs t ∧ f k = some d ∧ l ∈ labs d
  | .non, h => by simp only [rp, labs] at h; cases h
  | .bool b, h => by simp only [rp, labs] at h; cases h
  | .int b, h => by simp only [rp, labs] at h; cases h
  | .str b, h => by simp only [rp, labs] at h; cases h
  | .tup ds, h => by
    simp only [rp, labs] at h ⊢
    exact labsL_rp l ds h
  | .ro ds, h => by
    simp only [rp, labs] at h ⊢
    exact labsL_rp l ds h
  | .lst k ds, h => by
    simp only [rp] at h
    cases e : f k with
    | some d => rw [e] at h; exact .inr ⟨k, d, by simp only [labs]; exact List.mem_cons_self .., e, h⟩
    | none =>
      rw [e] at h
      simp only [labs] at h ⊢
      rcases List.mem_cons.mp h with h | h
      · exact .inl (List.mem_cons.mpr (.inl h))
      · rcases labsL_rp l ds h with q | ⟨k', d, q1, q2, q3⟩
        · exact .inl (List.mem_cons_of_mem _ q)
        · exact .inr ⟨k', d, List.mem_cons_of_mem _ q1, q2, q3⟩
  | .dct k ks vs, h => by
    simp only [rp] at h
    cases e : f k with
    | some d => rw [e] at h; exact .inr ⟨k, d, by simp only [labs]; exact List.mem_cons_self .., e, h⟩
    | none =>
      rw [e] at h
      simp only [labs] at h ⊢
      rcases List.mem_cons.mp h with h | h
      · exact .inl (List.mem_cons.mpr (.inl h))
      · rcases List.mem_append.mp h with h | h
        · exact .inl (List.mem_cons_of_mem _ (List.mem_append_left _ h))
        · rcases labsL_rp l vs h with q | ⟨k', d, q1, q2, q3⟩
          · exact .inl (List.mem_cons_of_mem _ (List.mem_append_right _ q))
          · exact .inr ⟨k', d, List.mem_cons_of_mem _ (List.mem_append_right _ q1), q2, q3⟩
  | .obj k c ns vs, h => by
    simp only [rp] at h
    cases e : f k with
    | some d => rw [e] at h; exact .inr ⟨k, d, by simp only [labs]; exact List.mem_cons_self .., e, h⟩
    | none =>
      rw [e] at h
      simp only [labs] at h ⊢
      rcases List.mem_cons.mp h with h | h
      · exact .inl (List.mem_cons.mpr (.inl h))
      · rcases labsL_rp l vs h with q | ⟨k', d, q1, q2, q3⟩
        · exact .inl (List.mem_cons_of_mem _ q)
        · exact .inr ⟨k', d, List.mem_cons_of_mem _ q1, q2, q3⟩
theorem labsL_rp (l : Nat) : ∀ t : List D, l ∈ labsL (rpL f t) → l ∈ labsL t ∨ ∃ k d, k ∈ labsL t ∧ f k = some d ∧ l ∈ labs d
  | [], h => by simp only [rpL, labsL] at h; cases h
  | d :: ds, h => by
    simp only [rpL, labsL] at h ⊢
    rcases List.mem_append.mp h with h | h
    · rcases labs_rp l d h with q | ⟨k', d, q1, q2, q3⟩
      · exact .inl (List.mem_append_left _ q)
      · exact .inr ⟨k', d, List.mem_append_left _ q1, q2, q3⟩
    · rcases labsL_rp l ds h with q | ⟨k', d, q1, q2, q3⟩
      · exact .inl (List.mem_append_right _ q)
      · exact .inr ⟨k', d, List.mem_append_right _ q1, q2, q3⟩
end
theorem labsO_rp (l : Nat) : ∀ t : List (Option D), l ∈ labsO (rpO f t) → l ∈ labsO t ∨ ∃ k d, k ∈ labsO t ∧ f k = some d ∧ l ∈ labs d
  | [], h => by simp only [rpO, labsO] at h; cases h
  | none :: r, h => by simp only [rpO, labsO] at h ⊢; exact labsO_rp l r h
  | some d :: ds, h => by
    simp only [rpO, labsO] at h ⊢
    rcases List.mem_append.mp h with h | h
    · rcases labs_rp l d h with q | ⟨k', d, q1, q2, q3⟩
      · exact .inl (List.mem_append_left _ q)
      · exact .inr ⟨k', d, List.mem_append_left _ q1, q2, q3⟩
    · rcases labsO_rp l ds h with q | ⟨k', d, q1, q2, q3⟩
      · exact .inl (List.mem_append_right _ q)
      · exact .inr ⟨k', d, List.mem_append_right _ q1, q2, q3⟩
end
end Mi
namespace Mi
open PySem L2
structure Stt where
  σ : List (Option D)
  tm : List (Option D)
  n : Nat
structure Fx where
  A0 : Addr → Prop
  H0 : Hp
  Z : Addr → Prop
  zA : ∀ a, Z a → (∃ o, H0 a = some o) ∧ ¬ A0 a
  aH : ∀ a, A0 a → ∃ o, H0 a = some o
  n0 : Nat
  ρ0 : Nat → Addr
noncomputable def KD (K : PySem.W.Frag) (H : Hp) : Prop := ∀ a o, K.lookup a = some o → H a = none
section
variable (G : Gx) (ρ : Nat → Addr) (H : Hp)
noncomputable def Sl : List (Option D) → List (Option V) → Prop
  | [], vs => vs = []
  | none :: r, vs => ∃ o q, vs = o :: q ∧ Sl r q
  | some d :: r, vs => ∃ v q, vs = some v :: q ∧ RD G ρ H d v ∧ Sl r q
end
noncomputable def labsS (s : Stt) : List Nat := labsO s.σ ++ labsO s.tm
structure MR (G : Gx) (F : Fx) (ρ : Nat → Addr) (H : Hp) (σv tv : List (Option V)) (s : Stt) : Prop where
  sl : Sl G ρ H s.σ σv
  tm : Sl G ρ H s.tm tv
  inj : ∀ i j, i < s.n → j < s.n → ρ i = ρ j → i = j
  dom : ∀ l, l < s.n → ∃ o, H (ρ l) = some o
  lab : ∀ l ∈ labsS s, l < s.n
  own : ∀ l ∈ labsS s, F.A0 (ρ l) ∨ F.H0 (ρ l) = none
  frm : ∀ a o, F.H0 a = some o → (∃ o', H a = some o') ∧ (¬ F.A0 a → H a = some o)
  kd : KD G.K H
  frb : ∀ l, l < s.n → ¬ F.Z (ρ l)
  bas : F.n0 ≤ s.n ∧ ∀ l, l < F.n0 → ρ l = F.ρ0 l
noncomputable def Stt.psh (s : Stt) (t : D) : Stt := { s with tm := some t :: s.tm }
noncomputable def Stt.nxt (s : Stt) : Stt := { s with n := s.n + 1 }
section
variable {G : Gx} {F : Fx} {ρ ρ' : Nat → Addr} {H H' : Hp} {σv tv : List (Option V)} {s : Stt} {t : D} {v : V}
theorem Sl.stay (ts : Stays H H') : ∀ {σ : List (Option D)} {σv : List (Option V)}, Sl G ρ H σ σv → (∀ l ∈ labsO σ, ρ' l = ρ l ∧ ∀ o, H (ρ l) = some o → H' (ρ l) = some o) → Sl G ρ' H' σ σv
  | [], _, h, _ => h
  | none :: r, _, h, hl => by
    simp only [Sl, labsO] at h hl ⊢
    obtain ⟨o, q, e, h⟩ := h
    exact ⟨o, q, e, Sl.stay ts h hl⟩
  | some d :: r, _, h, hl => by
    simp only [Sl, labsO] at h hl ⊢
    obtain ⟨o, q, e, h1, h⟩ := h
    exact ⟨o, q, e, RD.stay ts d o h1 fun l hk => hl l (List.mem_append_left _ hk), Sl.stay ts h fun l hk => hl l (List.mem_append_right _ hk)⟩
theorem Sl.rp {f : Nat → Option D} (ts : Stays H H') : ∀ {σ : List (Option D)} {σv : List (Option V)}, Sl G ρ H σ σv →
    (∀ l ∈ labsO σ, ρ' l = ρ l ∧ (match f l with | some d => RD G ρ' H' d (.ref (ρ l)) | none => ∀ o, H (ρ l) = some o → H' (ρ l) = some o)) → Sl G ρ' H' (rpO f σ) σv
  | [], _, h, _ => h
  | none :: r, _, h, hl => by
    simp only [Sl, labsO, rpO] at h hl ⊢
    obtain ⟨o, q, e, h⟩ := h
    exact ⟨o, q, e, Sl.rp ts h hl⟩
  | some d :: r, _, h, hl => by
    simp only [Sl, labsO, rpO] at h hl ⊢
    obtain ⟨o, q, e, h1, h⟩ := h
    exact ⟨o, q, e, RD.rp ts d o h1 fun l hk => hl l (List.mem_append_left _ hk), Sl.rp ts h fun l hk => hl l (List.mem_append_right _ hk)⟩
theorem Sl.get : ∀ {σ : List (Option D)} {σv : List (Option V)}, Sl G ρ H σ σv → ∀ (i : Nat) (d : D), σ[i]? = some (some d) → ∃ v, σv[i]? = some (some v) ∧ RD G ρ H d v
  | [], _, _, i, d, e => by simp at e
  | none :: r, _, h, i, d, e => by
    simp only [Sl] at h
    obtain ⟨o, q, rfl, h⟩ := h
    cases i with
    | zero => simp at e
    | succ i => simpa using Sl.get h i d (by simpa using e)
  | some d' :: r, _, h, i, d, e => by
    simp only [Sl] at h
    obtain ⟨v, q, rfl, h1, h⟩ := h
    cases i with
    | zero => simp at e; subst e; exact ⟨v, rfl, h1⟩
    | succ i => simpa using Sl.get h i d (by simpa using e)
theorem Sl.length : ∀ {σ : List (Option D)} {σv : List (Option V)}, Sl G ρ H σ σv → σ.length = σv.length
  | [], _, h => by simp only [Sl] at h; subst h; rfl
  | none :: r, _, h => by
    simp only [Sl] at h
    obtain ⟨o, q, rfl, h⟩ := h
    simp [Sl.length h]
  | some d' :: r, _, h => by
    simp only [Sl] at h
    obtain ⟨v, q, rfl, h1, h⟩ := h
    simp [Sl.length h]
theorem Sl.set : ∀ {σ : List (Option D)} {σv : List (Option V)} (i : Nat), Sl G ρ H σ σv → RD G ρ H t v → Sl G ρ H (σ.set i (some t)) (σv.set i (some v))
  | [], _, i, h, _ => by simp only [Sl] at h; subst h; simp [Sl]
  | none :: r, _, i, h, ht => by
    simp only [Sl] at h
    obtain ⟨o, q, rfl, h⟩ := h
    cases i with
    | zero => simp only [List.set_cons_zero, Sl]; exact ⟨_, _, rfl, ht, h⟩
    | succ i => simp only [List.set_cons_succ, Sl]; exact ⟨_, _, rfl, Sl.set i h ht⟩
  | some d' :: r, _, i, h, ht => by
    simp only [Sl] at h
    obtain ⟨v', q, rfl, h1, h⟩ := h
    cases i with
    | zero => simp only [List.set_cons_zero, Sl]; exact ⟨_, _, rfl, ht, h⟩
    | succ i => simp only [List.set_cons_succ, Sl]; exact ⟨_, _, rfl, h1, Sl.set i h ht⟩
theorem Sl.append : ∀ {σ σ' : List (Option D)} {σv σv' : List (Option V)}, Sl G ρ H σ σv → Sl G ρ H σ' σv' → Sl G ρ H (σ ++ σ') (σv ++ σv')
  | [], _, _, _, h, h' => by simp only [Sl] at h; subst h; exact h'
  | none :: r, _, _, _, h, h' => by
    simp only [Sl] at h
    obtain ⟨o, q, rfl, h⟩ := h
    simp only [List.cons_append, Sl]; exact ⟨_, _, rfl, Sl.append h h'⟩
  | some d' :: r, _, _, _, h, h' => by
    simp only [Sl] at h
    obtain ⟨v, q, rfl, h1, h⟩ := h
    simp only [List.cons_append, Sl]; exact ⟨_, _, rfl, h1, Sl.append h h'⟩
theorem Sl.split : ∀ (σv : List (Option V)) {σ : List (Option D)} {tv : List (Option V)}, Sl G ρ H σ (σv ++ tv) → Sl G ρ H (σ.take σv.length) σv ∧ Sl G ρ H (σ.drop σv.length) tv
  | [], σ, tv, h => ⟨by simp [Sl], by simpa using h⟩
  | o :: σv, [], tv, h => by simp [Sl] at h
  | o :: σv, none :: r, tv, h => by
    simp only [List.cons_append, Sl] at h
    obtain ⟨o', q, e, h⟩ := h
    cases e
    obtain ⟨h1, h2⟩ := Sl.split σv h
    simp only [List.length_cons, List.take_succ_cons, List.drop_succ_cons, Sl]
    exact ⟨⟨_, _, rfl, h1⟩, h2⟩
  | o :: σv, some d :: r, tv, h => by
    simp only [List.cons_append, Sl] at h
    obtain ⟨o', q, e, h0, h⟩ := h
    cases e
    obtain ⟨h1, h2⟩ := Sl.split σv h
    simp only [List.length_cons, List.take_succ_cons, List.drop_succ_cons, Sl]
    exact ⟨⟨_, _, rfl, h0, h1⟩, h2⟩
theorem labsO_get : ∀ {σ : List (Option D)} {i : Nat} {d : D}, σ[i]? = some (some d) → ∀ l ∈ labs d, l ∈ labsO σ
  | [], i, d, e, l, h => by simp at e
  | none :: r, i, d, e, l, h => by
    simp only [labsO]
    cases i with
    | zero => simp at e
    | succ i => exact labsO_get (i := i) (by simpa using e) l h
  | some d' :: r, i, d, e, l, h => by
    simp only [labsO]
    cases i with
    | zero => simp at e; subst e; exact List.mem_append_left _ h
    | succ i => exact List.mem_append_right _ (labsO_get (i := i) (by simpa using e) l h)
theorem labsO_set : ∀ {σ : List (Option D)} {i : Nat} {d : D} (l : Nat), l ∈ labsO (σ.set i (some d)) → l ∈ labsO σ ∨ l ∈ labs d
  | [], i, d, l, h => by simp [labsO] at h
  | none :: r, i, d, l, h => by
    cases i with
    | zero =>
      simp only [List.set_cons_zero, labsO] at h ⊢
      rcases List.mem_append.mp h with h | h
      · exact .inr h
      · exact .inl h
    | succ i =>
      simp only [List.set_cons_succ, labsO] at h ⊢
      exact labsO_set l h
  | some d' :: r, i, d, l, h => by
    cases i with
    | zero =>
      simp only [List.set_cons_zero, labsO] at h ⊢
      rcases List.mem_append.mp h with h | h
      · exact .inr h
      · exact .inl (List.mem_append_right _ h)
    | succ i =>
      simp only [List.set_cons_succ, labsO] at h ⊢
      rcases List.mem_append.mp h with h | h
      · exact .inl (List.mem_append_left _ h)
      · rcases labsO_set l h with q | q
        · exact .inl (List.mem_append_right _ q)
        · exact .inr q
theorem labsO_append : ∀ (σ σ' : List (Option D)), labsO (σ ++ σ') = labsO σ ++ labsO σ'
  | [], _ => rfl
  | none :: r, σ' => by simp only [List.cons_append, labsO, labsO_append r σ']
  | some d :: r, σ' => by simp only [List.cons_append, labsO, labsO_append r σ', List.append_assoc]
theorem labsL_append : ∀ (σ σ' : List D), labsL (σ ++ σ') = labsL σ ++ labsL σ'
  | [], _ => rfl
  | d :: r, σ' => by simp only [List.cons_append, labsL, labsL_append r σ', List.append_assoc]
theorem labsL_mem : ∀ {ds : List D} {d : D}, d ∈ ds → ∀ l ∈ labs d, l ∈ labsL ds
  | _ :: ds, d, h, l, hl => by
    simp only [labsL]
    rcases List.mem_cons.mp h with rfl | h
    · exact List.mem_append_left _ hl
    · exact List.mem_append_right _ (labsL_mem h l hl)
theorem of_labsL : ∀ {ds : List D} {l : Nat}, l ∈ labsL ds → ∃ d ∈ ds, l ∈ labs d
  | d :: ds, l, h => by
    simp only [labsL] at h
    rcases List.mem_append.mp h with h | h
    · exact ⟨d, List.mem_cons_self .., h⟩
    · obtain ⟨x, h1, h2⟩ := of_labsL h
      exact ⟨x, List.mem_cons_of_mem _ h1, h2⟩
theorem RDs.get : ∀ {ds : List D} {xs : List V}, RDs G ρ H ds xs → ∀ (i : Nat) (d : D), ds[i]? = some d → ∃ x, xs[i]? = some x ∧ RD G ρ H d x
  | [], _, _, i, d, e => by simp at e
  | d' :: r, _, h, i, d, e => by
    simp only [RDs] at h
    obtain ⟨x, q, rfl, h1, h2⟩ := h
    cases i with
    | zero => simp at e; subst e; exact ⟨x, rfl, h1⟩
    | succ i => simpa using RDs.get h2 i d (by simpa using e)
theorem RDs.length : ∀ {ds : List D} {xs : List V}, RDs G ρ H ds xs → ds.length = xs.length
  | [], _, h => by simp only [RDs] at h; subst h; rfl
  | d' :: r, _, h => by
    simp only [RDs] at h
    obtain ⟨x, q, rfl, h1, h2⟩ := h
    simp [RDs.length h2]
theorem RDs.append : ∀ {ds es : List D} {xs ys : List V}, RDs G ρ H ds xs → RDs G ρ H es ys → RDs G ρ H (ds ++ es) (xs ++ ys)
  | [], _, _, _, h, h' => by simp only [RDs] at h; subst h; exact h'
  | d' :: r, _, _, _, h, h' => by
    simp only [RDs] at h
    obtain ⟨x, q, rfl, h1, h2⟩ := h
    simp only [List.cons_append, RDs]
    exact ⟨_, _, rfl, h1, RDs.append h2 h'⟩
theorem RDs.one {d : D} {x : V} (h : RD G ρ H d x) : RDs G ρ H [d] [x] := by simp only [RDs]; exact ⟨_, _, rfl, h, rfl⟩
theorem RDs.take : ∀ {ds : List D} {xs : List V} (k : Nat), RDs G ρ H ds xs → RDs G ρ H (ds.take k) (xs.take k)
  | _, _, 0, _ => by simp [RDs]
  | [], _, k + 1, h => by simp only [RDs] at h; subst h; simp [RDs]
  | d' :: r, _, k + 1, h => by
    simp only [RDs] at h
    obtain ⟨x, q, rfl, h1, h2⟩ := h
    simp only [List.take_succ_cons, RDs]
    exact ⟨_, _, rfl, h1, RDs.take k h2⟩
theorem RDs.drop : ∀ {ds : List D} {xs : List V} (k : Nat), RDs G ρ H ds xs → RDs G ρ H (ds.drop k) (xs.drop k)
  | _, _, 0, h => h
  | [], _, k + 1, h => by simp only [RDs] at h; subst h; simp [RDs]
  | d' :: r, _, k + 1, h => by
    simp only [RDs] at h
    obtain ⟨x, q, rfl, h1, h2⟩ := h
    simp only [List.drop_succ_cons]
    exact RDs.drop k h2
theorem RDs.set : ∀ {ds : List D} {xs : List V} (k : Nat), RDs G ρ H ds xs → RD G ρ H t v → RDs G ρ H (ds.set k t) (xs.set k v)
  | [], _, k, h, _ => by simp only [RDs] at h; subst h; simp [RDs]
  | d' :: r, _, 0, h, ht => by
    simp only [RDs] at h
    obtain ⟨x, q, rfl, h1, h2⟩ := h
    simp only [List.set_cons_zero, RDs]; exact ⟨_, _, rfl, ht, h2⟩
  | d' :: r, _, k + 1, h, ht => by
    simp only [RDs] at h
    obtain ⟨x, q, rfl, h1, h2⟩ := h
    simp only [List.set_cons_succ, RDs]; exact ⟨_, _, rfl, h1, RDs.set k h2 ht⟩
theorem MR.pop {o : Option V} {r : Option D} (M : MR G F ρ H σv (o :: tv) { s with tm := r :: s.tm }) : MR G F ρ H σv tv s where
  sl := M.sl
  tm := by
    have h := M.tm
    cases r with
    | none => simp only [Sl] at h; obtain ⟨_, _, e, h⟩ := h; cases e; exact h
    | some t => simp only [Sl] at h; obtain ⟨_, _, e, _, h⟩ := h; cases e; exact h
  inj := M.inj
  dom := M.dom
  lab := fun l h => M.lab l (by
    rcases List.mem_append.mp h with h | h
    · exact List.mem_append_left _ h
    · refine List.mem_append_right _ ?_
      cases r with
      | none => exact h
      | some t => exact List.mem_append_right _ h)
  own := fun l h => M.own l (by
    rcases List.mem_append.mp h with h | h
    · exact List.mem_append_left _ h
    · refine List.mem_append_right _ ?_
      cases r with
      | none => exact h
      | some t => exact List.mem_append_right _ h)
  frm := M.frm
  kd := M.kd
  frb := M.frb
  bas := M.bas
theorem MR.top (M : MR G F ρ H σv (some v :: tv) (s.psh t)) : RD G ρ H t v := by
  have h := M.tm
  have h : Sl G ρ H (some t :: s.tm) (some v :: tv) := h
  simp only [Sl] at h
  obtain ⟨_, _, e, h, _⟩ := h
  cases e
  exact h
theorem MR.topl (M : MR G F ρ H σv tv (s.psh t)) : ∀ l ∈ labs t, l < s.n ∧ (F.A0 (ρ l) ∨ F.H0 (ρ l) = none) := fun l h =>
  have m : l ∈ labsS (s.psh t) := List.mem_append_right _ (List.mem_append_left _ h)
  ⟨M.lab l m, M.own l m⟩
theorem MR.same (M : MR G F ρ H σv tv s) (h : Same H H') (k : KD G.K H') : MR G F ρ H' σv tv s where
  sl := Sl.stay (Stays.of h) M.sl fun l _ => ⟨rfl, fun o e => h _ _ e⟩
  tm := Sl.stay (Stays.of h) M.tm fun l _ => ⟨rfl, fun o e => h _ _ e⟩
  inj := M.inj
  dom := fun l hl => let ⟨o, e⟩ := M.dom l hl; ⟨o, h _ _ e⟩
  lab := M.lab
  own := M.own
  frm := fun a o e => let ⟨⟨o', e1⟩, e2⟩ := M.frm a o e; ⟨⟨o', h _ _ e1⟩, fun n => h _ _ (e2 n)⟩
  kd := k
  frb := M.frb
  bas := M.bas
theorem RDs.same {ts : List D} {vs : List V} (h : Same H H') (r : RDs G ρ H ts vs) : RDs G ρ H' ts vs := RDs.stay (Stays.of h) ts vs r fun l _ => ⟨rfl, fun o e => h _ _ e⟩
noncomputable def ext (ρ : Nat → Addr) (n : Nat) (p : Addr) : Nat → Addr := fun l => if l = n then p else ρ l
theorem ext_old {n l : Nat} {p : Addr} (h : l < n) : ext ρ n p l = ρ l := by unfold ext; rw [if_neg (by omega)]
theorem ext_new {n : Nat} {p : Addr} : ext ρ n p n = p := by unfold ext; rw [if_pos rfl]
theorem MR.new {p : Addr} {o : HO} (M : MR G F ρ H σv tv s) (hp : H p = none) (k : KD G.K (upd H p o)) : MR G F (ext ρ s.n p) (upd H p o) σv tv s.nxt where
  sl := Sl.stay (Stays.of (Same.new o hp)) M.sl fun l hl => ⟨ext_old (M.lab l (List.mem_append_left _ hl)), fun o e => Same.new _ hp _ _ e⟩
  tm := Sl.stay (Stays.of (Same.new o hp)) M.tm fun l hl => ⟨ext_old (M.lab l (List.mem_append_right _ hl)), fun o e => Same.new _ hp _ _ e⟩
  inj := fun i j hi hj e => by
    have hi : i < s.n + 1 := hi
    have hj : j < s.n + 1 := hj
    have nn : ∀ i, i < s.n → ρ i ≠ p := fun i h e => by
      obtain ⟨o, q⟩ := M.dom i h
      rw [e, hp] at q; cases q
    by_cases h1 : i = s.n
    · by_cases h2 : j = s.n
      · omega
      · rw [h1, ext_new, ext_old (by omega)] at e
        exact absurd e.symm (nn j (by omega))
    · by_cases h2 : j = s.n
      · rw [h2, ext_new, ext_old (by omega)] at e
        exact absurd e (nn i (by omega))
      · rw [ext_old (by omega), ext_old (by omega)] at e
        exact M.inj i j (by omega) (by omega) e
  dom := fun l hl => by
    have hl : l < s.n + 1 := hl
    by_cases h1 : l = s.n
    · subst h1; rw [ext_new]; exact ⟨o, upd_same⟩
    · rw [ext_old (by omega)]
      obtain ⟨o', e⟩ := M.dom l (by omega)
      exact ⟨o', Same.new _ hp _ _ e⟩
  lab := fun l h => Nat.lt_succ_of_lt (M.lab l h)
  own := fun l h => by rw [ext_old (M.lab l h)]; exact M.own l h
  frm := fun a o e => let ⟨⟨o', e1⟩, e2⟩ := M.frm a o e; ⟨⟨o', Same.new _ hp _ _ e1⟩, fun n => Same.new _ hp _ _ (e2 n)⟩
  kd := k
  frb := fun l hl => by
    have hl : l < s.n + 1 := hl
    by_cases h1 : l = s.n
    · subst h1; rw [ext_new]
      intro z
      obtain ⟨⟨o, e⟩, _⟩ := F.zA p z
      obtain ⟨⟨o', e'⟩, _⟩ := M.frm p o e
      rw [hp] at e'; cases e'
    · rw [ext_old (by omega)]
      exact M.frb l (by omega)
  bas := ⟨Nat.le_succ_of_le M.bas.1, fun l hl => by rw [ext_old (Nat.lt_of_lt_of_le hl M.bas.1)]; exact M.bas.2 l hl⟩
theorem MR.fresh0 {p : Addr} (M : MR G F ρ H σv tv s) (hp : H p = none) : F.H0 p = none := by
  cases q : F.H0 p with
  | none => rfl
  | some o =>
    obtain ⟨⟨o', e⟩, _⟩ := M.frm p o q
    rw [hp] at e; cases e
noncomputable def Stt.put (s : Stt) (l : Nat) (d : D) : Stt := { s with σ := rpO (fun k => if k = l then some d else none) s.σ, tm := rpO (fun k => if k = l then some d else none) s.tm }
end
end Mi
namespace Mi
open PySem L2
inductive Res (α : Type) where
  | ok (a : α) (s : Stt) | ex (d : D) (s : Stt) | no
noncomputable abbrev M (α : Type) := Stt → Res α
noncomputable def bd {α β : Type} (m : M α) (f : α → M β) : M β := fun s => match m s with
  | .ok a s' => f a s'
  | .ex d s' => .ex d s'
  | .no => .no
noncomputable def rt {α : Type} (a : α) : M α := fun s => .ok a s
noncomputable def fl {α : Type} : M α := fun _ => .no
noncomputable def psh (t : D) : M Unit := fun s => .ok () (s.psh t)
noncomputable def pop : M D := fun s => match s.tm with
  | some t :: r => .ok t { s with tm := r }
  | _ => .no
structure Fy extends Fx where
  tv0 : List (Option V)
  xw : D → Stt → Prop
structure MRL (G : Gx) (F : Fx) (ρ : Nat → Addr) (H : Hp) (σv tv : List (Option V)) (s : Stt) (ts : List D) (vs : List V) : Prop where
  m : MR G F ρ H σv tv s
  rd : RDs G ρ H ts vs
  lb : ∀ l ∈ labsL ts, l < s.n ∧ (F.A0 (ρ l) ∨ F.H0 (ρ l) = none)
section
variable {G : Gx} {F : Fy} {ρ ρ' : Nat → Addr} {H H' : Hp} {σv tv : List (Option V)} {s : Stt} {t t' : D} {v u : V} {ts : List D} {vs : List V} {Q : VK}
theorem MRL.rd1 (M : MRL G F.toFx ρ H σv tv s [t] [v]) : RD G ρ H t v := by
  have h := M.rd
  simp only [RDs] at h
  obtain ⟨_, _, e, h, _⟩ := h
  cases e; exact h
theorem MRL.rd2 (M : MRL G F.toFx ρ H σv tv s [t, t'] [v, u]) : RD G ρ H t v ∧ RD G ρ H t' u := by
  have h := M.rd
  simp only [RDs] at h
  obtain ⟨_, _, e, h, _, _, e', h', _⟩ := h
  cases e; cases e'; exact ⟨h, h'⟩
theorem MRL.push (M : MRL G F.toFx ρ H σv tv s [t] [v]) : MR G F.toFx ρ H σv (some v :: tv) (s.psh t) := by
  have hl : ∀ l ∈ labs t, l < s.n ∧ (F.A0 (ρ l) ∨ F.H0 (ρ l) = none) := fun l h => M.lb l (by simp only [labsL, List.append_nil]; exact h)
  refine ⟨M.m.sl, ?_, M.m.inj, M.m.dom, fun l h => ?_, fun l h => ?_, M.m.frm, M.m.kd, M.m.frb, M.m.bas⟩
  · show Sl G ρ H (some t :: s.tm) _
    simp only [Sl]
    exact ⟨v, tv, rfl, M.rd1, M.m.tm⟩
  · have h : l ∈ labsO s.σ ++ (labs t ++ labsO s.tm) := h
    rcases List.mem_append.mp h with h | h
    · exact M.m.lab l (List.mem_append_left _ h)
    · rcases List.mem_append.mp h with h | h
      · exact (hl l h).1
      · exact M.m.lab l (List.mem_append_right _ h)
  · have h : l ∈ labsO s.σ ++ (labs t ++ labsO s.tm) := h
    rcases List.mem_append.mp h with h | h
    · exact M.m.own l (List.mem_append_left _ h)
    · rcases List.mem_append.mp h with h | h
      · exact (hl l h).2
      · exact M.m.own l (List.mem_append_right _ h)
theorem MRL.down {s' : Stt} {r : List (Option D)} (M : MRL G F.toFx ρ H σv (some v :: tv) s' ts vs) (e : s'.tm = some t :: r) : MRL G F.toFx ρ H σv tv { s' with tm := r } (t :: ts) (v :: vs) := by
  obtain ⟨σ, tm, n⟩ := s'
  have e : tm = some t :: r := e
  subst e
  refine ⟨MR.pop (s := ⟨σ, r, n⟩) M.m, ?_, fun l h => ?_⟩
  · simp only [RDs]
    exact ⟨v, vs, rfl, MR.top (s := ⟨σ, r, n⟩) M.m, M.rd⟩
  · simp only [labsL] at h
    rcases List.mem_append.mp h with h | h
    · exact MR.topl (s := ⟨σ, r, n⟩) M.m l h
    · exact M.lb l h
noncomputable def wM (G : Gx) (F : Fy) (σv tv : List (Option V)) (r : Res D) (Q : VK) : Prop := match r with
  | .ok t s' => ∀ ρ' v H', MRL G F.toFx ρ' H' σv tv s' [t] [v] → Q v H'
  | .ex d s' => F.xw d s'
  | .no => False
noncomputable def wL (G : Gx) (F : Fy) (σv tv : List (Option V)) (r : Res (List D)) (Q : List V → Hp → Prop) : Prop := match r with
  | .ok ts s' => ∀ ρ' vs H', MRL G F.toFx ρ' H' σv tv s' ts vs → Q vs H'
  | .ex d s' => F.xw d s'
  | .no => False
noncomputable def wB (G : Gx) (F : Fy) (σv tv : List (Option V)) (r : Res Bool) (Q : Bool → Hp → Prop) : Prop := match r with
  | .ok b s' => ∀ ρ' H', MR G F.toFx ρ' H' σv tv s' → Q b H'
  | .ex d s' => F.xw d s'
  | .no => False
noncomputable def tMv (G : Gx) (F : Fy) (m : M D) (σv tv : List (Option V)) (H : Hp) (Q : VK) : Prop := F.tv0 <:+ tv ∧ ∃ ρ s, MR G F.toFx ρ H σv tv s ∧ wM G F σv tv (m s) Q
noncomputable def tLv (G : Gx) (F : Fy) (m : M (List D)) (σv tv : List (Option V)) (H : Hp) (Q : List V → Hp → Prop) : Prop := F.tv0 <:+ tv ∧ ∃ ρ s, MR G F.toFx ρ H σv tv s ∧ wL G F σv tv (m s) Q
noncomputable def tBv (G : Gx) (F : Fy) (m : M Bool) (σv tv : List (Option V)) (H : Hp) (Q : Bool → Hp → Prop) : Prop := F.tv0 <:+ tv ∧ ∃ ρ s, MR G F.toFx ρ H σv tv s ∧ wB G F σv tv (m s) Q
noncomputable def tM (G : Gx) (F : Fy) (m : M D) : TE := fun σv H Q => ∃ tv, tMv G F m σv tv H Q
noncomputable def tML (G : Gx) (F : Fy) (m : M (List D)) : TA := fun σv H Q => ∃ tv, tLv G F m σv tv H Q
noncomputable def tMB (G : Gx) (F : Fy) (m : M Bool) : TT := fun σv H Q => ∃ tv, tBv G F m σv tv H Q
noncomputable def SE (X : Cx) (G : Gx) (F : Fy) (e : Expr) (m : M D) : Prop := PE X e (tM G F m)
noncomputable def SA (X : Cx) (G : Gx) (F : Fy) (es : List Expr) (m : M (List D)) : Prop := PA X es (tML G F m)
noncomputable def SB (X : Cx) (G : Gx) (F : Fy) (e : Expr) (m : M Bool) : Prop := PT X e (tMB G F m)
theorem suf1 {o : Option V} (h : F.tv0 <:+ tv) : F.tv0 <:+ o :: tv := h.trans (List.suffix_cons _ _)
theorem tM_bd {m : M D} {f : D → M D} (h : tMv G F (bd m f) σv tv H Q) : tMv G F m σv tv H (fun v H1 => ∃ ρ1 s1 t, MRL G F.toFx ρ1 H1 σv tv s1 [t] [v] ∧ wM G F σv tv (f t s1) Q) := by
  obtain ⟨hs, ρ, s, M, W⟩ := h
  refine ⟨hs, ρ, s, M, ?_⟩
  unfold bd at W
  cases e : m s with
  | ok t s1 => rw [e] at W; exact fun ρ1 v H1 M1 => ⟨ρ1, s1, t, M1, W⟩
  | ex d s1 => rw [e] at W; exact W
  | no => rw [e] at W; exact W
noncomputable def mBin (ma mb : M D) (g : D → D → M D) : M D := bd ma fun x => bd (psh x) fun _ => bd mb fun y => bd pop fun x' => g x' y
theorem tM_bin {ma mb : M D} {g : D → D → M D} (h : tMv G F (mBin ma mb g) σv tv H Q) :
    tMv G F ma σv tv H (fun v H1 => tMv G F mb σv (some v :: tv) H1 (fun u H2 => ∃ ρ2 s2 t t', MRL G F.toFx ρ2 H2 σv tv s2 [t, t'] [v, u] ∧ wM G F σv tv (g t t' s2) Q)) := by
  have h' := tM_bd h
  obtain ⟨hs, ρ, s, M, W⟩ := h'
  refine ⟨hs, ρ, s, M, ?_⟩
  cases e : ma s with
  | ok t s1 =>
    rw [e] at W
    intro ρ1 v H1 M1
    obtain ⟨ρ1, s1, t, M1, W⟩ := W ρ1 v H1 M1
    refine ⟨suf1 hs, ρ1, s1.psh t, M1.push, ?_⟩
    simp only [bd, psh] at W
    cases e2 : mb (s1.psh t) with
    | ok y s2 =>
      rw [e2] at W
      intro ρ2 u H2 M2
      simp only [pop] at W
      cases e3 : s2.tm with
      | nil => rw [e3] at W; exact W.elim
      | cons o r =>
        cases o with
        | none => rw [e3] at W; exact W.elim
        | some t' =>
          rw [e3] at W
          exact ⟨ρ2, { s2 with tm := r }, t', y, M2.down e3, W⟩
    | ex d s2 => rw [e2] at W; exact W
    | no => rw [e2] at W; exact W
  | ex d s1 => rw [e] at W; exact W
  | no => rw [e] at W; exact W
noncomputable def mArgs : List (M D) → M (List D)
  | [] => rt []
  | m :: ms => bd m fun x => bd (psh x) fun _ => bd (mArgs ms) fun ys => bd pop fun x' => rt (x' :: ys)
end
section
variable {X : Cx} {G : Gx} {F : Fy} {e a b c : Expr} {pos : Pos}
theorem Inv.kd {pins : List (Addr × Obj)} {σ : St} {H : Hp} {s : Shared} (I : Inv X pins σ H s) : KD X.K H := fun a o e => (I.bs a o (I.ok.mod.kin a o e)).2
theorem PE.imp {t t' : TE} (hk : X.K = G.K) (h : PE X e t) (hi : ∀ σ H Q, t' σ H Q → t σ H (fun v H' => KD G.K H' → Q v H')) : PE X e t' := fun pins s σ H Q I q =>
  thn (h pins s σ H _ I (hi σ H Q q)) fun u s' ⟨v, H', I', r, k⟩ => ⟨v, H', I', r, k (hk ▸ Inv.kd I')⟩
theorem PT.imp {t t' : TT} (hk : X.K = G.K) (h : PT X e t) (hi : ∀ σ H Q, t' σ H Q → t σ H (fun v H' => KD G.K H' → Q v H')) : PT X e t' := fun pins s σ H Q I q =>
  thn (h pins s σ H _ I (hi σ H Q q)) fun u s' ⟨H', I', k⟩ => ⟨H', I', k (hk ▸ Inv.kd I')⟩
theorem PA.imp {es : List Expr} {t t' : TA} (hk : X.K = G.K) (h : PA X es t) (hi : ∀ σ H Q, t' σ H Q → t σ H (fun v H' => KD G.K H' → Q v H')) : PA X es t' := fun pos pins s σ H Q I q =>
  thn (h pos pins s σ H _ I (hi σ H Q q)) fun u s' ⟨v, H', I', r, k⟩ => ⟨v, H', I', r, k (hk ▸ Inv.kd I')⟩
noncomputable def OpOK (G : Gx) (F : Fy) (r : R2) (g : D → D → M D) : Prop := ∀ ρ s t t' v u H σv tv Q, MRL G F.toFx ρ H σv tv s [t, t'] [v, u] → wM G F σv tv (g t t' s) Q → r v u H (fun w H' => KD G.K H' → Q w H')
noncomputable def CmpOK (G : Gx) (F : Fy) (r : R2) (g : D → D → M D) : Prop := ∀ ρ s t t' v u H σv tv Q, MRL G F.toFx ρ H σv tv s [t, t'] [v, u] → wM G F σv tv (g t t' s) Q → r v u H Q
noncomputable def UnOK (G : Gx) (F : Fy) (r : V → Hp → VK → Prop) (g : D → M D) : Prop := ∀ ρ s t v H σv tv Q, MRL G F.toFx ρ H σv tv s [t] [v] → wM G F σv tv (g t s) Q → r v H (fun w H' => KD G.K H' → Q w H')
noncomputable def CallOK (G : Gx) (F : Fy) (r : List V → Hp → VK → Prop) (g : List D → M D) : Prop := ∀ ρ s ts vs H σv tv Q, MRL G F.toFx ρ H σv tv s ts vs → wM G F σv tv (g ts s) Q → r vs H (fun w H' => KD G.K H' → Q w H')
theorem se_op {op : Operator} {r : R2} {ma mb : M D} {g : D → D → M D} (hk : X.K = G.K) (ho : OpR X (binaryOp op) r) (hg : OpOK G F r g) (ha : SE X G F a ma) (hb : SE X G F b mb) : SE X G F (.BinOp a op b pos) (mBin ma mb g) := by
  refine PE.imp hk (pe_op ho ha hb) fun σ H Q ⟨tv, h⟩ => ⟨tv, ?_⟩
  obtain ⟨hs, ρ, s, M, W⟩ := tM_bin h
  refine ⟨hs, ρ, s, M, ?_⟩
  cases e : ma s with
  | ok t s1 =>
    rw [e] at W
    intro ρ1 v H1 M1
    refine ⟨some v :: tv, ?_⟩
    obtain ⟨hs2, ρ2, s2, M2, W2⟩ := W ρ1 v H1 M1
    refine ⟨hs2, ρ2, s2, M2, ?_⟩
    cases e2 : mb s2 with
    | ok t2 s3 =>
      rw [e2] at W2
      intro ρ3 u H3 M3
      obtain ⟨ρ4, s4, x, y, M4, W4⟩ := W2 ρ3 u H3 M3
      exact hg _ _ _ _ _ _ _ _ _ _ M4 W4
    | ex d s3 => rw [e2] at W2; exact W2
    | no => rw [e2] at W2; exact W2
  | ex d s1 => rw [e] at W; exact W
  | no => rw [e] at W; exact W
theorem wM.mono {σv tv : List (Option V)} {r : Res D} {Q Q' : VK} (h : wM G F σv tv r Q) (k : ∀ v H, Q v H → Q' v H) : wM G F σv tv r Q' := by
  cases r with
  | ok t s => exact fun ρ v H M => k _ _ (h ρ v H M)
  | ex d s => exact h
  | no => exact h
theorem tMv.mono {m : M D} {σv tv : List (Option V)} {H : Hp} {Q Q' : VK} (h : tMv G F m σv tv H Q) (k : ∀ v H, Q v H → Q' v H) : tMv G F m σv tv H Q' := by
  obtain ⟨hs, ρ, s, M, W⟩ := h
  exact ⟨hs, ρ, s, M, W.mono k⟩
theorem bin_imp {ma mb : M D} {g : D → D → M D} {R : V → V → Hp → VK → Prop} {σv : St} {H : Hp} {Q : VK} (hg : OpOK G F R g) (h : tM G F (mBin ma mb g) σv H Q) :
    tM G F ma σv H fun x H1 => tM G F mb σv H1 fun y H2 => R x y H2 fun w H' => KD G.K H' → Q w H' := by
  obtain ⟨tv, h⟩ := h
  exact ⟨tv, (tM_bin h).mono fun v H1 h1 => ⟨_, h1.mono fun u H2 ⟨ρ, s, t, t', M, W⟩ => hg _ _ _ _ _ _ _ _ _ _ M W⟩⟩
theorem un_imp {ma : M D} {g : D → M D} {R : V → Hp → VK → Prop} {σv : St} {H : Hp} {Q : VK} (hg : UnOK G F R g) (h : tM G F (bd ma g) σv H Q) :
    tM G F ma σv H fun x H1 => R x H1 fun w H' => KD G.K H' → Q w H' := by
  obtain ⟨tv, h⟩ := h
  exact ⟨tv, (tM_bd h).mono fun v H1 ⟨ρ, s, t, M, W⟩ => hg _ _ _ _ _ _ _ _ M W⟩
theorem se_un {op : UnaryOp} {r : V → Hp → VK → Prop} {ma : M D} {g : D → M D} (hk : X.K = G.K) (ho : UnR X (unaryOp op) r) (hg : UnOK G F r g) (ha : SE X G F a ma) : SE X G F (.UnaryOp op a pos) (bd ma g) :=
  PE.imp hk (pe_un ho ha) fun _ _ _ h => un_imp hg h
theorem bin_imp0 {ma mb : M D} {g : D → D → M D} {R : V → V → Hp → VK → Prop} {σv : St} {H : Hp} {Q : VK} (hg : CmpOK G F R g) (h : tM G F (mBin ma mb g) σv H Q) :
    tM G F ma σv H fun x H1 => tM G F mb σv H1 fun y H2 => R x y H2 Q := by
  obtain ⟨tv, h⟩ := h
  exact ⟨tv, (tM_bin h).mono fun v H1 h1 => ⟨_, h1.mono fun u H2 ⟨ρ, s, t, t', M, W⟩ => hg _ _ _ _ _ _ _ _ _ _ M W⟩⟩
theorem PE.imp0 {t t' : TE} (h : PE X e t) (hi : ∀ σ H Q, t' σ H Q → t σ H Q) : PE X e t' := fun pins s σ H Q I q => h pins s σ H _ I (hi σ H Q q)
theorem PT.imp0 {t t' : TT} (h : PT X e t) (hi : ∀ σ H Q, t' σ H Q → t σ H Q) : PT X e t' := fun pins s σ H Q I q => h pins s σ H _ I (hi σ H Q q)
theorem se_cmpR {op : CmpOp} {r : R2} {ma mb : M D} {g : D → D → M D} (ho : OpR X (compareOp op) r) (hg : CmpOK G F r g) (ha : SE X G F a ma) (hb : SE X G F b mb) (hm : behindInMarks op b = false) : SE X G F (.Compare a [op] [b] pos) (mBin ma mb g) :=
  PE.imp0 (pe_cmpR ho ha hb hm) fun _ _ _ h => bin_imp0 hg h
theorem se_ix {r : R2} {ma mb : M D} {g : D → D → M D} (hk : X.K = G.K) (ho : IxR X r) (hg : OpOK G F r g) (ha : SE X G F a ma) (hb : SE X G F b mb) (hs : PlainIx b) : SE X G F (.Subscript a b pos) (mBin ma mb g) :=
  PE.imp hk (pe_ix ho ha hb hs) fun _ _ _ h => bin_imp hg h
theorem sa_nil (hk : X.K = G.K) : SA X G F [] (mArgs []) := by
  refine PA.imp hk pa_nil fun σ H Q ⟨tv, hs, ρ, s, M, W⟩ _ => W ρ [] H ⟨M, rfl, fun l h => by simp [labsL] at h⟩
noncomputable def nst : Expr → Bool
  | .Starred _ _ => false
  | _ => true
theorem star_cons {es : List Expr} {env : Env} (h : nst e = true) : starEach (e :: es) env = (false, eval e env) :: starEach es env := by
  cases e <;> first | rfl | exact Bool.noConfusion h
theorem sa_cons {es : List Expr} {m : M D} {ms : List (M D)} (hk : X.K = G.K) (ha : SE X G F e m) (hr : SA X G F es (mArgs ms)) (hs : nst e = true := by rfl) : SA X G F (e :: es) (mArgs (m :: ms)) := by
  refine PA.imp hk (pa_cons ha hr (star_cons hs)) fun σ H Q ⟨tv, hs, ρ, s, M, W⟩ => ⟨tv, hs, ρ, s, M, ?_⟩
  unfold mArgs at W
  simp only [bd, psh] at W
  cases e : m s with
  | ok t s1 =>
    rw [e] at W
    intro ρ1 v H1 M1
    refine ⟨some v :: tv, suf1 hs, ρ1, s1.psh t, M1.push, ?_⟩
    dsimp only at W
    cases e2 : mArgs ms (s1.psh t) with
    | ok ys s2 =>
      rw [e2] at W
      intro ρ2 us H2 M2 _
      simp only [pop, rt] at W
      cases e3 : s2.tm with
      | nil => rw [e3] at W; exact W.elim
      | cons o r =>
        cases o with
        | none => rw [e3] at W; exact W.elim
        | some t' =>
          rw [e3] at W
          exact W ρ2 (v :: us) H2 (M2.down e3)
    | ex d s2 => rw [e2] at W; exact W
    | no => rw [e2] at W; exact W
  | ex d s1 => rw [e] at W; exact W
  | no => rw [e] at W; exact W
noncomputable def mCB (ms : List (M D)) (g : List D → M D) : M D := bd (mArgs ms) g
theorem call_imp {ma : M (List D)} {g : List D → M D} {R : List V → Hp → VK → Prop} {σv : St} {H : Hp} {Q : VK} (hg : CallOK G F R g) (h : tM G F (bd ma g) σv H Q) :
    tML G F ma σv H fun xs H1 => R xs H1 fun w H' => KD G.K H' → Q w H' := by
  obtain ⟨tv, hs, ρ, s, M, W⟩ := h
  refine ⟨tv, hs, ρ, s, M, ?_⟩
  unfold bd at W
  cases e : ma s with
  | ok ts s1 => rw [e] at W; exact fun ρ1 vs H1 M1 => hg _ _ _ _ _ _ _ _ M1 W
  | ex d s1 => rw [e] at W; exact W
  | no => rw [e] at W; exact W
theorem se_callB {x : Str} {p : Pos} {es : List Expr} {ms : List (M D)} {g : List D → M D} {id : String} {r : List V → Hp → VK → Prop} (hk : X.K = G.K) (hc : CallR X (.builtin id) r) (hg : CallOK G F r g) (hgl : Gl X x) (hm : X.mg x = none) (hv : bootBuiltins x = some (.builtin id)) (ha : SA X G F (e :: es) (mArgs ms)) (hn : x ≠ "__name__" := by decide) (hdb : (x == ("__debug__" : Str)) = false := by decide)
    (he : starEach (e :: es) X.env = (false, eval e X.env) :: starEach es X.env := by rfl) (hpl : (backTo pos (starEach es X.env)).any (·.1) = false := by rfl) : SE X G F (.Call (.Name x p) (e :: es) [] pos) (mCB ms g) :=
  PE.imp hk (pe_callB hc hgl hm hv ha hn hdb he hpl) fun _ _ _ h => call_imp hg h
theorem se_callTy {x : Str} {p : Pos} {es : List Expr} {ms : List (M D)} {g : List D → M D} {T : String} {r : List V → Hp → VK → Prop} (hk : X.K = G.K) (hc : CallR X (.type T) r) (hg : CallOK G F r g) (hgl : Gl X x) (hm : X.mg x = none) (hv : bootBuiltins x = some (.type T)) (ha : SA X G F (e :: es) (mArgs ms)) (hn : x ≠ "__name__" := by decide) (hdb : (x == ("__debug__" : Str)) = false := by decide)
    (he : starEach (e :: es) X.env = (false, eval e X.env) :: starEach es X.env := by rfl) (hpl : (backTo pos (starEach es X.env)).any (·.1) = false := by rfl) : SE X G F (.Call (.Name x p) (e :: es) [] pos) (mCB ms g) :=
  PE.imp hk (pe_callTy hc hgl hm hv ha hn hdb he hpl) fun _ _ _ h => call_imp hg h
noncomputable def mVar (i : Nat) : M D := fun s => match s.σ[i]? with
  | some (some t) => .ok t s
  | _ => .no
theorem se_var (i : Nat) {x : Str} (hk : X.K = G.K) (h : PE X (.Name x pos) (tVar i)) : SE X G F (.Name x pos) (mVar i) := by
  refine PE.imp hk h fun σ H Q ⟨tv, hs, ρ, s, M, W⟩ => ?_
  unfold mVar at W
  cases e : s.σ[i]? with
  | none => rw [e] at W; exact W.elim
  | some o =>
    cases o with
    | none => rw [e] at W; exact W.elim
    | some t =>
      rw [e] at W
      obtain ⟨v, h1, h2⟩ := M.sl.get i t e
      refine ⟨v, h1, fun _ => W ρ v H ⟨M, RDs.one h2, fun l hl => ?_⟩⟩
      simp only [labsL, List.append_nil] at hl
      have := labsO_get e l hl
      exact ⟨M.lab l (List.mem_append_left _ this), M.own l (List.mem_append_left _ this)⟩
noncomputable def cV : D → Option V
  | .non => some .non | .bool b => some (.bl b) | .int i => some (.int i) | .str x => some (.str x) | _ => none
theorem cV_rd {d : D} {v : V} {ρ : Nat → Addr} {H : Hp} (h : cV d = some v) : RD G ρ H d v ∧ labs d = [] := by
  cases d <;> simp only [cV, Option.some.injEq] at h <;> first | (subst h; exact ⟨by simp only [RD], by simp only [labs]⟩) | cases h
noncomputable def mC (d : D) : M D := rt d
theorem se_c {d : D} {v : V} (hk : X.K = G.K) (h : PE X e (tC v)) (hd : cV d = some v := by rfl) : SE X G F e (mC d) := by
  refine PE.imp hk h fun σ H Q ⟨tv, hs, ρ, s, M, W⟩ _ => W ρ v H ⟨M, RDs.one (cV_rd hd).1, fun l hl => ?_⟩
  simp only [labsL, (cV_rd (G := G) (ρ := ρ) (H := H) hd).2] at hl
  cases hl
theorem wM.out {σv tv : List (Option V)} {s : Stt} {t : D} {v : V} {ρ : Nat → Addr} {H : Hp} {Q : VK} (W : wM G F σv tv (.ok t s) Q) (M : MR G F.toFx ρ H σv tv s) (h : RD G ρ H t v) (hl : ∀ l ∈ labs t, l < s.n ∧ (F.A0 (ρ l) ∨ F.H0 (ρ l) = none)) : Q v H :=
  W ρ v H ⟨M, RDs.one h, fun l q => hl l (by simpa only [labsL, List.append_nil] using q)⟩
theorem wM.flat {σv tv : List (Option V)} {s : Stt} {t : D} {v : V} {ρ : Nat → Addr} {H : Hp} {Q : VK} (W : wM G F σv tv (.ok t s) Q) (M : MR G F.toFx ρ H σv tv s) (h : cV t = some v) : Q v H :=
  W.out M (cV_rd h).1 fun l q => by rw [(cV_rd (G := G) (ρ := ρ) (H := H) h).2] at q; cases q
end
end Mi
namespace Mi
open PySem L2
mutual
noncomputable def er : D → PyData
  | .non => .none | .bool b => .bool b | .int i => .int i | .str x => .str x
  | .tup ds => .tuple (erL ds)
  | .ro ds => .list (erL ds)
  | .lst _ ds => .list (erL ds)
  | .dct _ _ _ => .none
  | .obj _ _ _ _ => .none
noncomputable def erL : List D → List PyData
  | [] => []
  | d :: ds => er d :: erL ds
end
mutual
noncomputable def plain : D → Bool
  | .non => true | .bool _ => true | .int _ => true | .str _ => true
  | .tup ds => plainL ds
  | .ro ds => plainL ds
  | .lst _ ds => plainL ds
  | .dct _ _ _ => false
  | .obj _ _ _ _ => false
noncomputable def plainL : List D → Bool
  | [] => true
  | d :: ds => plain d && plainL ds
end
noncomputable def seqD : D → Option (List D)
  | .tup ds => some ds | .ro ds => some ds | .lst _ ds => some ds | _ => none
noncomputable def lstD : D → Option (List D)
  | .ro ds => some ds | .lst _ ds => some ds | _ => none
section
variable {G : Gx} {F : Fy} {ρ : Nat → Addr} {H H' : Hp} {σv tv : List (Option V)} {s : Stt} {t t' : D} {v u : V} {ts ds : List D} {vs xs : List V} {Q : VK}
mutual
theorem RD.dp : ∀ (t : D) (v : V), RD G ρ H t v → plain t = true → Dp G.K H (er t) v
  | .non, v, h, _ => by simp only [RD, er, Dp] at h ⊢; exact h
  | .bool b, v, h, _ => by simp only [RD, er, Dp] at h ⊢; exact h
  | .int b, v, h, _ => by simp only [RD, er, Dp] at h ⊢; exact h
  | .str b, v, h, _ => by simp only [RD, er, Dp] at h ⊢; exact h
  | .tup ds, v, h, p => by
    simp only [RD, er, Dp, plain] at h p ⊢
    obtain ⟨a, xs, e, s, r⟩ := h
    exact ⟨a, xs, e, s, RDs.dp ds xs r p⟩
  | .ro ds, v, h, p => by
    simp only [RD, er, Dp, plain] at h p ⊢
    obtain ⟨a, xs, e, s, r⟩ := h
    exact ⟨a, xs, e, s.sq, RDs.dp ds xs r p⟩
  | .lst l ds, v, h, p => by
    simp only [RD, er, Dp, plain] at h p ⊢
    obtain ⟨e, xs, s, r⟩ := h
    exact ⟨_, xs, e, SqL.of s, RDs.dp ds xs r p⟩
  | .dct l ks vs, v, h, p => by simp only [plain] at p; cases p
  | .obj l c ns vs, v, h, p => by simp only [plain] at p; cases p
theorem RDs.dp : ∀ (t : List D) (v : List V), RDs G ρ H t v → plainL t = true → DpAll G.K H (erL t) v
  | [], v, h, _ => by simp only [RDs, erL, DpAll] at h ⊢; exact h
  | d :: ds, v, h, p => by
    simp only [RDs, erL, DpAll, plainL, Bool.and_eq_true] at h p ⊢
    obtain ⟨x, r, e, h1, h2⟩ := h
    exact ⟨x, r, e, RD.dp d x h1 p.1, RDs.dp ds r h2 p.2⟩
end
theorem RD.seq (h : RD G ρ H t v) (e : seqD t = some ds) : ∃ a xs, v = .ref a ∧ (SqL G.K H a xs ∨ SqT G.K H a xs) ∧ RDs G ρ H ds xs ∧ ∀ l ∈ labsL ds, l ∈ labs t := by
  cases t <;> simp only [seqD, Option.some.injEq] at e <;> try cases e
  · simp only [RD] at h
    obtain ⟨a, xs, e, s, r⟩ := h
    exact ⟨a, xs, e, .inr s, r, fun l hl => by simp only [labs]; exact hl⟩
  · simp only [RD] at h
    obtain ⟨a, xs, e, s, r⟩ := h
    exact ⟨a, xs, e, .inl s.sq, r, fun l hl => by simp only [labs]; exact hl⟩
  · simp only [RD] at h
    obtain ⟨e, xs, s, r⟩ := h
    exact ⟨_, xs, e, .inl (SqL.of s), r, fun l hl => by simp only [labs]; exact List.mem_cons_of_mem _ hl⟩
theorem RD.lstq (h : RD G ρ H t v) (e : lstD t = some ds) : ∃ a xs, v = .ref a ∧ SqL G.K H a xs ∧ RDs G ρ H ds xs ∧ ∀ l ∈ labsL ds, l ∈ labs t := by
  cases t <;> simp only [lstD, Option.some.injEq] at e <;> try cases e
  · simp only [RD] at h
    obtain ⟨a, xs, e, s, r⟩ := h
    exact ⟨a, xs, e, s.sq, r, fun l hl => by simp only [labs]; exact hl⟩
  · simp only [RD] at h
    obtain ⟨e, xs, s, r⟩ := h
    exact ⟨_, xs, e, SqL.of s, r, fun l hl => by simp only [labs]; exact List.mem_cons_of_mem _ hl⟩
theorem RD.tupq (h : RD G ρ H (.tup ds) v) : ∃ a xs, v = .ref a ∧ SqT G.K H a xs ∧ RDs G ρ H ds xs := by
  simp only [RD] at h; exact h
theorem MRL.lb1 (M : MRL G F.toFx ρ H σv tv s [t] [v]) : ∀ l ∈ labs t, l < s.n ∧ (F.A0 (ρ l) ∨ F.H0 (ρ l) = none) := fun l h => M.lb l (by simp only [labsL, List.append_nil]; exact h)
theorem MRL.lb2 (M : MRL G F.toFx ρ H σv tv s [t, t'] [v, u]) : (∀ l ∈ labs t, l < s.n ∧ (F.A0 (ρ l) ∨ F.H0 (ρ l) = none)) ∧ (∀ l ∈ labs t', l < s.n ∧ (F.A0 (ρ l) ∨ F.H0 (ρ l) = none)) :=
  ⟨fun l h => M.lb l (by simp only [labsL, List.append_nil]; exact List.mem_append_left _ h), fun l h => M.lb l (by simp only [labsL, List.append_nil]; exact List.mem_append_right _ h)⟩
noncomputable abbrev LB (F : Fx) (ρ : Nat → Addr) (n : Nat) (ls : List Nat) : Prop := ∀ l ∈ ls, l < n ∧ (F.A0 (ρ l) ∨ F.H0 (ρ l) = none)
theorem out_newT (W : wM G F σv tv (.ok (.tup ds) s) Q) (M : MR G F.toFx ρ H σv tv s) (r : RDs G ρ H ds xs) (lb : LB F.toFx ρ s.n (labsL ds)) : NewT G.K H xs (fun w H' => KD G.K H' → Q w H') := by
  refine NewT.intro fun p H' sq sm k => ?_
  exact W.out (M.same sm k) (by simp only [RD]; exact ⟨p, xs, rfl, sq, r.same sm⟩) (by simp only [labs]; exact lb)
theorem out_tup {p : Addr} (W : wM G F σv tv (.ok (.tup ds) s) Q) (M : MR G F.toFx ρ H σv tv s) (r : RDs G ρ H ds xs) (lb : LB F.toFx ρ s.n (labsL ds)) (hp : H p = none) (k : KD G.K (upd H p (.tup xs))) : Q (.ref p) (upd H p (.tup xs)) := by
  have sm := Same.new (.tup xs) hp
  exact W.out (M.same sm k) (by simp only [RD]; exact ⟨p, xs, rfl, SqT.of upd_same, r.same sm⟩) (by simp only [labs]; exact lb)
theorem RDs.ext {p : Addr} {o : HO} (M : MR G F.toFx ρ H σv tv s) (r : RDs G ρ H ds xs) (lb : LB F.toFx ρ s.n (labsL ds)) (hp : H p = none) : RDs G (ext ρ s.n p) (upd H p o) ds xs :=
  RDs.stay (Stays.of (Same.new o hp)) ds xs r fun l hl => ⟨ext_old (lb l hl).1, fun o e => Same.new _ hp _ _ e⟩
theorem out_lst {p : Addr} (W : wM G F σv tv (.ok (.lst s.n ds) s.nxt) Q) (M : MR G F.toFx ρ H σv tv s) (r : RDs G ρ H ds xs) (lb : LB F.toFx ρ s.n (labsL ds)) (hp : H p = none) (k : KD G.K (upd H p (.lst xs))) : Q (.ref p) (upd H p (.lst xs)) := by
  refine W.out (M.new hp k) ?_ fun l hl => ?_
  · simp only [RD]
    rw [ext_new]
    exact ⟨rfl, xs, upd_same, RDs.ext M r lb hp⟩
  · simp only [labs] at hl
    rcases List.mem_cons.mp hl with q | q
    · rw [q]
      exact ⟨Nat.lt_succ_self _, by rw [ext_new]; exact .inr (M.fresh0 hp)⟩
    · obtain ⟨h1, h2⟩ := lb l q
      exact ⟨Nat.lt_succ_of_lt h1, by rw [ext_old h1]; exact h2⟩
end
noncomputable def newL (ds : List D) : M D := fun s => .ok (.lst s.n ds) s.nxt
noncomputable def addD : D → D → M D
  | .int i, .int j => rt (.int (i + j))
  | .tup a, .tup b => if a.length + b.length ≤ sizeLine then rt (.tup (a ++ b)) else fl
  | .lst _ a, .lst _ b => if a.length + b.length ≤ sizeLine then newL (a ++ b) else fl
  | .str a, .str b => if a.length + b.length ≤ sizeLine then rt (.str (a ++ b)) else fl
  | _, _ => fl
noncomputable def subD : D → D → M D
  | .int i, .int j => rt (.int (i - j))
  | _, _ => fl
instance (i j : Int) : Decidable (CMul i j) := by unfold CMul; infer_instance
instance (i j : Int) : Decidable (CDiv i j) := by unfold CDiv; infer_instance
instance (i j : Int) : Decidable (CPow i j) := by unfold CPow; infer_instance
noncomputable def mulD : D → D → M D
  | .int i, .int j => if CMul i j then rt (.int (i * j)) else fl
  | .lst _ a, .int k => if -(2 ^ 63) ≤ k ∧ k < 2 ^ 63 ∧ a.length * k.toNat ≤ sizeLine then newL (List.flatten (List.replicate k.toNat a)) else fl
  | .tup a, .int k => if 0 < a.length ∧ 2 ≤ k ∧ k < 2 ^ 63 ∧ a.length * k.toNat ≤ sizeLine then rt (.tup (List.flatten (List.replicate k.toNat a))) else fl
  | _, _ => fl
noncomputable def fdivD : D → D → M D
  | .int i, .int j => if CDiv i j then rt (.int (i / j)) else fl
  | _, _ => fl
noncomputable def modD : D → D → M D
  | .int i, .int j => if 0 < j then rt (.int (i % j)) else fl
  | _, _ => fl
noncomputable def powD : D → D → M D
  | .int i, .int j => if CPow i j then rt (.int (i ^ j.toNat)) else fl
  | _, _ => fl
noncomputable def ltD : D → D → M D
  | .int i, .int j => rt (.bool (decide (i < j)))
  | _, _ => fl
noncomputable def leD : D → D → M D
  | .int i, .int j => rt (.bool (decide (i ≤ j)))
  | _, _ => fl
noncomputable def gtD : D → D → M D
  | .int i, .int j => rt (.bool (decide (j < i)))
  | _, _ => fl
noncomputable def geD : D → D → M D
  | .int i, .int j => rt (.bool (decide (j ≤ i)))
  | _, _ => fl
noncomputable def eqC (t t' : D) : Bool := plain t && plain t' && (er t).canLay0 && (er t').canLay0 && decide (min (er t).depth (er t').depth ≤ 60)
noncomputable def eqD (t t' : D) : M D := if eqC t t' = true then rt (.bool (PyData.eqv (er t) (er t'))) else fl
noncomputable def neD (t t' : D) : M D := if eqC t t' = true then rt (.bool (!PyData.eqv (er t) (er t'))) else fl
noncomputable def inC (t : D) (ds : List D) : Bool := plain t && plainL ds && (er t).canLay0 && PyData.canLayAll0 (erL ds) && decide (min (PyData.depthAll (erL ds)) (er t).depth ≤ 60)
noncomputable def inD (t t' : D) : M D := match seqD t' with
  | some ds => if inC t ds = true then rt (.bool ((erL ds).any fun y => PyData.eqv y (er t))) else fl
  | none => fl
noncomputable def ninD (t t' : D) : M D := match seqD t' with
  | some ds => if inC t ds = true then rt (.bool (!(erL ds).any fun y => PyData.eqv y (er t))) else fl
  | none => fl
noncomputable def isN : D → D → M D
  | .non, .non => rt (.bool true)
  | _, .non => rt (.bool false)
  | _, _ => fl
noncomputable def notN : D → D → M D
  | .non, .non => rt (.bool false)
  | _, .non => rt (.bool true)
  | _, _ => fl
noncomputable def optM : Option D → M D
  | some d => rt d
  | none => fl
noncomputable def ixG : Option (List D) → D → M D
  | some ds, .int i => optM (atI ds i)
  | _, _ => fl
noncomputable def ixD (t t' : D) : M D := ixG (seqD t) t'
noncomputable def negD : D → M D
  | .int i => rt (.int (-i))
  | _ => fl
section
variable {G : Gx} {F : Fy}
theorem wfl {σv tv : List (Option V)} {s : Stt} {Q : VK} {A : Prop} (h : wM G F σv tv ((fl : M D) s) Q) : A := False.elim h
theorem ints2 {ρ : Nat → Addr} {H : Hp} {σv tv : List (Option V)} {s : Stt} {i j : Int} {v u : V} (M : MRL G F.toFx ρ H σv tv s [.int i, .int j] [v, u]) : v = .int i ∧ u = .int j := by
  obtain ⟨h1, h2⟩ := M.rd2
  simp only [RD] at h1 h2
  exact ⟨h1, h2⟩
theorem ok_add : OpOK G F (fun x y H Q => rI0 (fun i j => .int (i + j)) x y H Q ∨ rCatN G.K x y H Q ∨ rCat x y H Q ∨ ∃ i j, x = .str i ∧ y = .str j ∧ i.length + j.length ≤ sizeLine ∧ Q (.str (i ++ j)) H) addD := by
  intro ρ s t t' v u H σv tv Q M W
  unfold addD at W
  split at W
  · obtain ⟨rfl, rfl⟩ := ints2 M
    exact .inl ⟨_, _, rfl, rfl, fun _ => W.flat M.m rfl⟩
  · split at W
    · rename_i a b hz
      obtain ⟨h1, h2⟩ := M.rd2
      obtain ⟨l1, l2⟩ := M.lb2
      obtain ⟨p, xs, rfl, s1, r1⟩ := h1.tupq
      obtain ⟨q, ys, rfl, s2, r2⟩ := h2.tupq
      refine .inr (.inl ⟨p, q, xs, ys, rfl, rfl, s1, s2, by rw [← r1.length, ← r2.length]; exact hz, out_newT W M.m (r1.append r2) ?_⟩)
      rw [labsL_append]
      intro l hl
      rcases List.mem_append.mp hl with q | q
      · exact l1 l (by simpa only [labs] using q)
      · exact l2 l (by simpa only [labs] using q)
    · exact wfl W
  · split at W
    · rename_i la a lb b hz
      obtain ⟨h1, h2⟩ := M.rd2
      obtain ⟨l1, l2⟩ := M.lb2
      simp only [RD] at h1 h2
      obtain ⟨rfl, xs, s1, r1⟩ := h1
      obtain ⟨rfl, ys, s2, r2⟩ := h2
      refine .inr (.inr (.inl ⟨_, _, xs, ys, rfl, rfl, s1, s2, by rw [← r1.length, ← r2.length]; exact hz, fun p hp k => out_lst W M.m (r1.append r2) ?_ hp k⟩))
      rw [labsL_append]
      intro l hl
      rcases List.mem_append.mp hl with q | q
      · exact l1 l (by simp only [labs]; exact List.mem_cons_of_mem _ q)
      · exact l2 l (by simp only [labs]; exact List.mem_cons_of_mem _ q)
    · exact wfl W
  · split at W
    · rename_i a b hz
      obtain ⟨h1, h2⟩ := M.rd2
      simp only [RD] at h1 h2
      subst h1 h2
      exact .inr (.inr (.inr ⟨_, _, rfl, rfl, hz, fun _ => W.flat M.m rfl⟩))
    · exact wfl W
  · exact wfl W
theorem ok_sub : OpOK G F (rI0 fun i j => .int (i - j)) subD := by
  intro ρ s t t' v u H σv tv Q M W
  unfold subD at W
  split at W
  · obtain ⟨rfl, rfl⟩ := ints2 M
    exact ⟨_, _, rfl, rfl, fun _ => W.flat M.m rfl⟩
  · exact wfl W
theorem ok_fdiv : OpOK G F (rI CDiv fun i j => .int (i / j)) fdivD := by
  intro ρ s t t' v u H σv tv Q M W
  unfold fdivD at W
  split at W
  · split at W
    · rename_i hc
      obtain ⟨rfl, rfl⟩ := ints2 M
      exact ⟨_, _, rfl, rfl, hc, fun _ => W.flat M.m rfl⟩
    · exact wfl W
  · exact wfl W
theorem ok_mod : OpOK G F (rI (fun _ j => 0 < j) fun i j => .int (i % j)) modD := by
  intro ρ s t t' v u H σv tv Q M W
  unfold modD at W
  split at W
  · split at W
    · rename_i hc
      obtain ⟨rfl, rfl⟩ := ints2 M
      exact ⟨_, _, rfl, rfl, hc, fun _ => W.flat M.m rfl⟩
    · exact wfl W
  · exact wfl W
theorem ok_pow : OpOK G F (rI CPow fun i j => .int (i ^ j.toNat)) powD := by
  intro ρ s t t' v u H σv tv Q M W
  unfold powD at W
  split at W
  · split at W
    · rename_i hc
      obtain ⟨rfl, rfl⟩ := ints2 M
      exact ⟨_, _, rfl, rfl, hc, fun _ => W.flat M.m rfl⟩
    · exact wfl W
  · exact wfl W
theorem ok_lt : CmpOK G F (rI0 fun i j => .bl (decide (i < j))) ltD := by
  intro ρ s t t' v u H σv tv Q M W
  unfold ltD at W
  split at W
  · obtain ⟨rfl, rfl⟩ := ints2 M
    exact ⟨_, _, rfl, rfl, W.flat M.m rfl⟩
  · exact wfl W
theorem ok_le : CmpOK G F (rI0 fun i j => .bl (decide (i ≤ j))) leD := by
  intro ρ s t t' v u H σv tv Q M W
  unfold leD at W
  split at W
  · obtain ⟨rfl, rfl⟩ := ints2 M
    exact ⟨_, _, rfl, rfl, W.flat M.m rfl⟩
  · exact wfl W
theorem ok_gt : CmpOK G F (rI0 fun i j => .bl (decide (j < i))) gtD := by
  intro ρ s t t' v u H σv tv Q M W
  unfold gtD at W
  split at W
  · obtain ⟨rfl, rfl⟩ := ints2 M
    exact ⟨_, _, rfl, rfl, W.flat M.m rfl⟩
  · exact wfl W
theorem ok_eq : CmpOK G F (rEqD G.K false) eqD := by
  intro ρ s t t' v u H σv tv Q M W
  unfold eqD at W
  split at W
  · rename_i hc
    simp only [eqC, Bool.and_eq_true, decide_eq_true_eq] at hc
    obtain ⟨⟨⟨⟨c1, c2⟩, c3⟩, c4⟩, c5⟩ := hc
    obtain ⟨h1, h2⟩ := M.rd2
    exact ⟨er t, er t', RD.dp _ _ h1 c1, RD.dp _ _ h2 c2, c3, c4, c5, W.flat M.m rfl⟩
  · exact wfl W
theorem ok_ne : CmpOK G F (rEqD G.K true) neD := by
  intro ρ s t t' v u H σv tv Q M W
  unfold neD at W
  split at W
  · rename_i hc
    simp only [eqC, Bool.and_eq_true, decide_eq_true_eq] at hc
    obtain ⟨⟨⟨⟨c1, c2⟩, c3⟩, c4⟩, c5⟩ := hc
    obtain ⟨h1, h2⟩ := M.rd2
    exact ⟨er t, er t', RD.dp _ _ h1 c1, RD.dp _ _ h2 c2, c3, c4, c5, W.flat M.m rfl⟩
  · exact wfl W
theorem RD.dpSeq {ρ : Nat → Addr} {H : Hp} {t : D} {v : V} {ds : List D} (h : RD G ρ H t v) (e : seqD t = some ds) (p : plainL ds = true) : Dp G.K H (.list (erL ds)) v ∨ Dp G.K H (.tuple (erL ds)) v := by
  obtain ⟨a, xs, rfl, sq, r, _⟩ := h.seq e
  have d := RDs.dp ds xs r p
  rcases sq with sq | sq
  · exact .inl (by simp only [Dp]; exact ⟨a, xs, rfl, sq, d⟩)
  · exact .inr (by simp only [Dp]; exact ⟨a, xs, rfl, sq, d⟩)
theorem ok_in : CmpOK G F (rInD G.K false) inD := by
  intro ρ s t t' v u H σv tv Q M W
  unfold inD at W
  cases e : seqD t' with
  | some ds =>
    rw [e] at W
    dsimp only at W
    split at W
    · rename_i hc
      simp only [inC, Bool.and_eq_true, decide_eq_true_eq] at hc
      obtain ⟨⟨⟨⟨c1, c2⟩, c3⟩, c4⟩, c5⟩ := hc
      obtain ⟨h1, h2⟩ := M.rd2
      exact ⟨er t, erL ds, RD.dp _ _ h1 c1, h2.dpSeq e c2, c3, c4, c5, W.flat M.m rfl⟩
    · exact wfl W
  | none => rw [e] at W; exact wfl W
theorem ok_nin : CmpOK G F (rInD G.K true) ninD := by
  intro ρ s t t' v u H σv tv Q M W
  unfold ninD at W
  cases e : seqD t' with
  | some ds =>
    rw [e] at W
    dsimp only at W
    split at W
    · rename_i hc
      simp only [inC, Bool.and_eq_true, decide_eq_true_eq] at hc
      obtain ⟨⟨⟨⟨c1, c2⟩, c3⟩, c4⟩, c5⟩ := hc
      obtain ⟨h1, h2⟩ := M.rd2
      exact ⟨er t, erL ds, RD.dp _ _ h1 c1, h2.dpSeq e c2, c3, c4, c5, W.flat M.m rfl⟩
    · exact wfl W
  | none => rw [e] at W; exact wfl W
theorem RD.non_iff {ρ : Nat → Addr} {H : Hp} {t : D} {v : V} (h : RD G ρ H t v) : v = .non ↔ t = .non := by
  cases t <;> simp only [RD] at h <;> (try (subst h; simp)) <;> (try (obtain ⟨a, xs, rfl, _⟩ := h; simp)) <;> (try (obtain ⟨rfl, _⟩ := h; simp))
theorem ok_isN : CmpOK G F (fun x y H Q => y = .non ∧ Q (.bl (decide (x = .non))) H) isN := by
  intro ρ s t t' v u H σv tv Q M W
  obtain ⟨h1, h2⟩ := M.rd2
  have e1 := h1.non_iff
  unfold isN at W
  split at W
  · simp only [RD] at h2
    exact ⟨h2, by rw [decide_eq_true (e1.mpr rfl)]; exact W.flat M.m rfl⟩
  · rename_i ne
    simp only [RD] at h2
    exact ⟨h2, by rw [decide_eq_false (fun z => ne (e1.mp z))]; exact W.flat M.m rfl⟩
  · exact wfl W
theorem ok_notN : CmpOK G F (fun x y H Q => y = .non ∧ Q (.bl (!decide (x = .non))) H) notN := by
  intro ρ s t t' v u H σv tv Q M W
  obtain ⟨h1, h2⟩ := M.rd2
  have e1 := h1.non_iff
  unfold notN at W
  split at W
  · simp only [RD] at h2
    exact ⟨h2, by rw [decide_eq_true (e1.mpr rfl)]; exact W.flat M.m rfl⟩
  · rename_i ne
    simp only [RD] at h2
    exact ⟨h2, by rw [decide_eq_false (fun z => ne (e1.mp z))]; exact W.flat M.m rfl⟩
  · exact wfl W
theorem atI_rd {ρ : Nat → Addr} {H : Hp} {ds : List D} {xs : List V} {i : Int} {d : D} (r : RDs G ρ H ds xs) (e : atI ds i = some d) : ∃ x, atI xs i = some x ∧ RD G ρ H d x := by
  unfold atI at e ⊢
  rw [← r.length]
  cases e1 : ixN ds.length i with
  | none => rw [e1] at e; cases e
  | some j =>
    rw [e1] at e
    exact r.get j d e
theorem atI_mem {α : Type} {ds : List α} {i : Int} {d : α} (e : atI ds i = some d) : d ∈ ds := by
  unfold atI at e
  cases e1 : ixN ds.length i with
  | none => rw [e1] at e; cases e
  | some j =>
    rw [e1] at e
    exact List.mem_of_getElem? e
theorem ok_ix : OpOK G F (fun x y H Q => rIxL G.K x y H Q ∨ rIxT G.K x y H Q) ixD := by
  intro ρ s t t' v u H σv tv Q M W
  obtain ⟨h1, h2⟩ := M.rd2
  unfold ixD at W
  cases e : seqD t with
  | none => rw [e] at W; exact False.elim W
  | some ds =>
    rw [e] at W
    cases t' with
    | int i =>
      have W : wM G F σv tv (optM (atI ds i) s) Q := W
      cases ea : atI ds i with
      | some d =>
        rw [ea] at W
        obtain ⟨a, xs, rfl, sq, r, sub⟩ := h1.seq e
        obtain ⟨x, ex, rx⟩ := atI_rd r ea
        simp only [RD] at h2
        subst h2
        have fin : KD G.K H → Q x H := fun _ => W.out M.m rx fun l hl => M.lb2.1 l (sub l (labsL_mem (atI_mem ea) l hl))
        rcases sq with sq | sq
        · exact .inl ⟨a, xs, i, x, rfl, rfl, sq, ex, fin⟩
        · exact .inr ⟨a, xs, i, x, rfl, rfl, sq, ex, fin⟩
      | none => rw [ea] at W; exact False.elim W
    | _ => exact False.elim W
theorem ok_neg : UnOK G F (rU fun i => .int (-i)) negD := by
  intro ρ s t v H σv tv Q M W
  unfold negD at W
  split at W
  · have h := M.rd1
    simp only [RD] at h
    exact ⟨_, h, fun _ => W.flat M.m rfl⟩
  · exact wfl W
end
end Mi
namespace Mi
open PySem L2
section
variable {X : Cx} {G : Gx} {F : Fy} {e a b c : Expr} {pos : Pos}
theorem RDs.flat {ρ : Nat → Addr} {H : Hp} {ds : List D} {xs : List V} (r : RDs G ρ H ds xs) : ∀ k : Nat, RDs G ρ H (List.replicate k ds).flatten (List.replicate k xs).flatten
  | 0 => by simp [RDs]
  | k + 1 => by
    rw [List.replicate_succ, List.replicate_succ, List.flatten_cons, List.flatten_cons]
    exact r.append (RDs.flat r k)
theorem labsL_flat {ds : List D} {l : Nat} : ∀ k : Nat, l ∈ labsL (List.replicate k ds).flatten → l ∈ labsL ds
  | 0, h => by simp [labsL] at h
  | k + 1, h => by
    rw [List.replicate_succ, List.flatten_cons, labsL_append] at h
    rcases List.mem_append.mp h with h | h
    · exact h
    · exact labsL_flat k h
theorem ok_mul : OpOK G F (fun x y H Q => rI CMul (fun i j => .int (i * j)) x y H Q ∨ (rRep x y H Q ∨ rRepT G.K x y H Q)) mulD := by
  intro ρ s t t' v u H σv tv Q M W
  unfold mulD at W
  split at W
  · split at W
    · rename_i hc
      obtain ⟨rfl, rfl⟩ := ints2 M
      exact .inl ⟨_, _, rfl, rfl, hc, fun _ => W.flat M.m rfl⟩
    · exact wfl W
  · split at W
    · rename_i la a k hc
      obtain ⟨h1, h2⟩ := M.rd2
      obtain ⟨l1, l2⟩ := M.lb2
      simp only [RD] at h1 h2
      obtain ⟨rfl, xs, s1, r1⟩ := h1
      subst h2
      refine .inr (.inl ⟨_, k, xs, rfl, rfl, s1, hc.1, hc.2.1, by rw [← r1.length]; exact hc.2.2, fun p hp kd => out_lst W M.m (r1.flat _) (fun l hl => ?_) hp kd⟩)
      exact l1 l (by simp only [labs]; exact List.mem_cons_of_mem _ (labsL_flat _ hl))
    · exact wfl W
  · split at W
    · rename_i a k hc
      obtain ⟨h1, h2⟩ := M.rd2
      obtain ⟨l1, l2⟩ := M.lb2
      simp only [RD] at h1 h2
      obtain ⟨a', xs, rfl, s1, r1⟩ := h1
      subst h2
      refine .inr (.inr ⟨_, k, xs, rfl, rfl, s1, by rw [← r1.length]; exact hc.1, hc.2.1, hc.2.2.1, by rw [← r1.length]; exact hc.2.2.2, fun p hp kd => out_tup W M.m (r1.flat _) (fun l hl => ?_) hp kd⟩)
      exact l1 l (by simp only [labs]; exact labsL_flat _ hl)
    · exact wfl W
  · exact wfl W
noncomputable def cutA {α : Type} (xs : List α) (lo hi : Option Int) : List α := (xs.drop (HT.sIx xs.length 0 lo)).take (HT.sIx xs.length xs.length hi - HT.sIx xs.length 0 lo)
noncomputable def slD : D → Option Int → Option Int → M D
  | .tup ds, lo, hi => rt (.tup (cutA ds lo hi))
  | .lst _ ds, lo, hi => newL (cutA ds lo hi)
  | .ro ds, lo, hi => newL (cutA ds lo hi)
  | _, _, _ => fl
theorem RDs.cut {ρ : Nat → Addr} {H : Hp} {ds : List D} {xs : List V} (r : RDs G ρ H ds xs) (lo hi : Option Int) : RDs G ρ H (cutA ds lo hi) (cutV xs lo hi) := by
  unfold cutA cutV
  rw [r.length]
  exact (r.drop _).take _
theorem labsL_cut {ds : List D} {lo hi : Option Int} {l : Nat} (h : l ∈ labsL (cutA ds lo hi)) : l ∈ labsL ds := by
  obtain ⟨d, h1, h2⟩ := of_labsL h
  exact labsL_mem (List.mem_of_mem_drop (List.mem_of_mem_take h1)) l h2
noncomputable def mInt (d : D) : Option Int := match d with | .int i => some i | _ => none
noncomputable def mPart : Option (M D) → M (Option Int)
  | none => rt none
  | some m => bd m fun d => match mInt d with | some i => rt (some i) | none => fl
noncomputable def tP (G : Gx) (F : Fy) (m : M (Option Int)) : TO := fun σv H Q => ∃ tv, F.tv0 <:+ tv ∧ ∃ ρ s, MR G F.toFx ρ H σv tv s ∧ (match m s with
  | .ok o s' => ∀ ρ' H', MR G F.toFx ρ' H' σv tv s' → Q o H'
  | .ex d s' => F.xw d s'
  | .no => False)
noncomputable def SO (X : Cx) (G : Gx) (F : Fy) (e : Option Expr) (m : Option (M D)) : Prop := PO X e (tP G F (mPart m))
theorem so_none : SO X G F none none := by
  intro pins s σ H Q I ⟨tv, hs, ρ, ms, M, W⟩
  exact po_none pins s σ H Q I (W ρ H M)
theorem so_some {m : M D} (h : SE X G F e m) : SO X G F (some e) (some m) := by
  intro pins s σ H Q I ⟨tv, hs, ρ, ms, M, W⟩
  refine po_some h pins s σ H Q I ⟨tv, hs, ρ, ms, M, ?_⟩
  simp only [mPart, bd] at W
  cases e1 : m ms with
  | ok d s1 =>
    rw [e1] at W
    intro ρ' v H' M'
    cases d with
    | int i =>
      have h := M'.rd1
      simp only [RD] at h
      exact ⟨i, h, W ρ' H' M'.m⟩
    | _ => exact False.elim W
  | ex d s1 => rw [e1] at W; exact W
  | no => rw [e1] at W; exact W
noncomputable def mSl (m : M D) (lo hi : Option (M D)) : M D := bd m fun x => bd (psh x) fun _ => bd (mPart lo) fun l => bd (mPart hi) fun h => bd pop fun x' => slD x' l h
theorem ok_sl {ρ : Nat → Addr} {s : Stt} {t : D} {v : V} {H : Hp} {σv tv : List (Option V)} {lo hi : Option Int} {Q : VK} (M : MRL G F.toFx ρ H σv tv s [t] [v]) (W : wM G F σv tv (slD t lo hi s) Q) :
    rSlN G.K v lo hi H (fun w H' => KD G.K H' → Q w H') ∨ rSlL G.K v lo hi H (fun w H' => KD G.K H' → Q w H') := by
  have h := M.rd1
  cases t with
  | tup ds =>
    obtain ⟨p, xs, rfl, s1, r1⟩ := h.tupq
    exact .inl ⟨p, xs, rfl, s1, out_newT W M.m (r1.cut lo hi) fun l hl => M.lb1 l (by simp only [labs]; exact labsL_cut hl)⟩
  | lst n ds =>
    obtain ⟨p, xs, rfl, s1, r1, _⟩ := h.lstq (ds := ds) rfl
    exact .inr ⟨p, xs, rfl, s1, fun q hq k => out_lst W M.m (r1.cut lo hi) (fun l hl => M.lb1 l (by simp only [labs]; exact List.mem_cons_of_mem _ (labsL_cut hl))) hq k⟩
  | ro ds =>
    obtain ⟨p, xs, rfl, s1, r1, _⟩ := h.lstq (ds := ds) rfl
    exact .inr ⟨p, xs, rfl, s1, fun q hq k => out_lst W M.m (r1.cut lo hi) (fun l hl => M.lb1 l (by simp only [labs]; exact labsL_cut hl)) hq k⟩
  | _ => exact False.elim W
theorem se_slice {lo hi : Option Expr} {p2 : Pos} {m : M D} {ml mh : Option (M D)} (hk : X.K = G.K) (he : SE X G F e m) (hl : SO X G F lo ml) (hh : SO X G F hi mh) : SE X G F (.Subscript e (.Slice lo hi none p2) pos) (mSl m ml mh) := by
  refine PE.imp hk (pe_slice (r := fun x lo hi H Q => rSlN X.K x lo hi H Q ∨ rSlL X.K x lo hi H Q) (SlR.or sl_tupN sl_list) he hl hh) fun σ H Q ⟨tv, h⟩ => ⟨tv, ?_⟩
  obtain ⟨hs, ρ, s, M, W⟩ := tM_bd h
  refine ⟨hs, ρ, s, M, W.mono fun v H1 ⟨ρ1, s1, t, M1, W1⟩ => ⟨some v :: tv, suf1 hs, ρ1, s1.psh t, M1.push, ?_⟩⟩
  simp only [bd, psh] at W1
  cases e1 : mPart ml (s1.psh t) with
  | ex d s2 => rw [e1] at W1; exact W1
  | no => rw [e1] at W1; exact W1
  | ok l s2 =>
    rw [e1] at W1
    intro ρ2 H2 M2
    refine ⟨some v :: tv, suf1 hs, ρ2, s2, M2, ?_⟩
    dsimp only at W1
    cases e2 : mPart mh s2 with
    | ex d s3 => rw [e2] at W1; exact W1
    | no => rw [e2] at W1; exact W1
    | ok h s3 =>
      rw [e2] at W1
      intro ρ3 H3 M3
      simp only [pop] at W1
      cases e3 : s3.tm with
      | nil => rw [e3] at W1; exact W1.elim
      | cons o r =>
        cases o with
        | none => rw [e3] at W1; exact W1.elim
        | some t' =>
          rw [e3] at W1
          have M4 : MRL G F.toFx ρ3 H3 σ tv { s3 with tm := r } [t'] [v] := MRL.down (ts := []) (vs := []) ⟨M3, rfl, fun l h => by simp [labsL] at h⟩ e3
          rw [hk]
          exact ok_sl M4 W1
noncomputable def tupD (ts : List D) : M D := if ts.length ≤ sizeLine then rt (.tup ts) else fl
noncomputable def lstM (ts : List D) : M D := if ts.length ≤ sizeLine then newL ts else fl
theorem ok_tup : CallOK G F (fun xs H1 Q => xs.length ≤ sizeLine ∧ ∀ p, H1 p = none → Q (.ref p) (upd H1 p (.tup xs))) tupD := by
  intro ρ s ts vs H σv tv Q M W
  unfold tupD at W
  split at W
  · rename_i hz
    exact ⟨by rw [← M.rd.length]; exact hz, fun p hp k => out_tup W M.m M.rd M.lb hp k⟩
  · exact wfl W
theorem ok_lst : CallOK G F (fun xs H1 Q => xs.length ≤ sizeLine ∧ ∀ p, H1 p = none → Q (.ref p) (upd H1 p (.lst xs))) lstM := by
  intro ρ s ts vs H σv tv Q M W
  unfold lstM at W
  split at W
  · rename_i hz
    exact ⟨by rw [← M.rd.length]; exact hz, fun p hp k => out_lst W M.m M.rd M.lb hp k⟩
  · exact wfl W
theorem se_tup {es : List Expr} {ms : List (M D)} {x1} (hk : X.K = G.K) (h : SA X G F es (mArgs ms)) : SE X G F (.Tuple es x1 pos) (mCB ms tupD) :=
  PE.imp hk (pe_tup h) fun _ _ _ h => call_imp ok_tup h
theorem se_lst {es : List Expr} {ms : List (M D)} (hk : X.K = G.K) (h : SA X G F es (mArgs ms)) : SE X G F (.List es pos) (mCB ms lstM) :=
  PE.imp hk (pe_lst h) fun _ _ _ h => call_imp ok_lst h
noncomputable def truD : D → M Bool
  | .non => rt false
  | .bool b => rt b
  | .int i => rt (i != 0)
  | .str x => if x.length ≤ sizeLine then rt ((x.length : Int) != 0) else fl
  | .tup ds => rt (!ds.isEmpty)
  | .ro ds => rt (!ds.isEmpty)
  | .lst _ ds => rt (!ds.isEmpty)
  | _ => fl
noncomputable def mTest (m : M D) : M Bool := bd m truD
theorem isEmpty_rd {ρ : Nat → Addr} {H : Hp} {ds : List D} {xs : List V} (r : RDs G ρ H ds xs) : (!ds.isEmpty) = !xs.isEmpty := by
  have := r.length
  cases ds <;> cases xs <;> simp at this ⊢
theorem ok_tru {ρ : Nat → Addr} {s : Stt} {t : D} {v : V} {H : Hp} {σv tv : List (Option V)} {Q : Bool → Hp → Prop} (M : MRL G F.toFx ρ H σv tv s [t] [v]) (W : wB G F σv tv (truD t s) Q) : ∃ k, TruV G.K v H k ∧ Q k H := by
  have h := M.rd1
  cases t with
  | non => simp only [RD] at h; subst h; exact ⟨false, rfl, W ρ H M.m⟩
  | bool b => simp only [RD] at h; subst h; exact ⟨b, rfl, W ρ H M.m⟩
  | int i => simp only [RD] at h; subst h; exact ⟨_, rfl, W ρ H M.m⟩
  | str x =>
    simp only [RD] at h; subst h
    unfold truD at W
    by_cases hz : x.length ≤ sizeLine
    · simp only [if_pos hz] at W; exact ⟨_, ⟨hz, rfl⟩, W ρ H M.m⟩
    · simp only [if_neg hz] at W; exact False.elim W
  | tup ds =>
    obtain ⟨p, xs, rfl, s1, r1⟩ := h.tupq
    exact ⟨_, .inr (.inl ⟨xs, s1, isEmpty_rd r1⟩), W ρ H M.m⟩
  | ro ds =>
    obtain ⟨p, xs, rfl, s1, r1, _⟩ := h.lstq (ds := ds) rfl
    exact ⟨_, .inl ⟨xs, s1, isEmpty_rd r1⟩, W ρ H M.m⟩
  | lst n ds =>
    obtain ⟨p, xs, rfl, s1, r1, _⟩ := h.lstq (ds := ds) rfl
    exact ⟨_, .inl ⟨xs, s1, isEmpty_rd r1⟩, W ρ H M.m⟩
  | dct _ _ _ => exact False.elim W
  | obj _ _ _ _ => exact False.elim W
theorem test_imp {m : M D} {σ : St} {H : Hp} {Q : Bool → Hp → Prop} (h : tMB G F (mTest m) σ H Q) : tM G F m σ H fun x H' => ∃ k, TruV G.K x H' k ∧ Q k H' := by
  obtain ⟨tv, hs, ρ, s, M, W⟩ := h
  refine ⟨tv, hs, ρ, s, M, ?_⟩
  unfold mTest bd at W
  cases e : m s with
  | ok t s1 => rw [e] at W; exact fun ρ1 v H1 M1 => ok_tru M1 W
  | ex d s1 => rw [e] at W; exact W
  | no => rw [e] at W; exact W
theorem sb_truth {m : M D} (hk : X.K = G.K) (ha : SE X G F a m) (he : ∀ whole, isTrue a X.env whole = (do let v ← whole; standAt a.pos; holding [v] (truthy v)) := by intro _; rfl) : SB X G F a (mTest m) := by
  refine PT.imp hk (pt_truth ha he) fun σ H Q h => ?_
  rw [hk]
  obtain ⟨tv, h'⟩ := test_imp h
  exact ⟨tv, h'.mono fun v H1 ⟨k, q1, q2⟩ => ⟨k, q1, fun _ => q2⟩⟩
noncomputable def booD : D → M Bool
  | .bool b => rt b
  | _ => fl
noncomputable def mBoo (m : M D) : M Bool := bd m booD
theorem boo_imp {m : M D} {σ : St} {H : Hp} {Q : Bool → Hp → Prop} (h : tMB G F (mBoo m) σ H Q) : tM G F m σ H fun x H' => ∃ k, x = .bl k ∧ Q k H' := by
  obtain ⟨tv, hs, ρ, s, M, W⟩ := h
  refine ⟨tv, hs, ρ, s, M, ?_⟩
  unfold mBoo bd at W
  cases e : m s with
  | ok t s1 =>
    rw [e] at W
    intro ρ1 v H1 M1
    have h := M1.rd1
    cases t with
    | bool b => simp only [RD] at h; exact ⟨b, h, W ρ1 H1 M1.m⟩
    | _ => exact False.elim W
  | ex d s1 => rw [e] at W; exact W
  | no => rw [e] at W; exact W
theorem sb_cmpR {op : CmpOp} {r : R2} {ma mb : M D} {g : D → D → M D} (ho : OpR X (compareOp op) r) (hg : CmpOK G F r g) (ha : SE X G F a ma) (hb : SE X G F b mb) (hm : behindInMarks op b = false) : SB X G F (.Compare a [op] [b] pos) (mBoo (mBin ma mb g)) :=
  PT.imp0 (pt_cmpR ho ha hb hm) fun _ _ _ h => bin_imp0 hg (boo_imp h)
theorem tB_bd {m : M Bool} {f : Bool → M Bool} {σ : St} {tv : List (Option V)} {H : Hp} {Q : Bool → Hp → Prop} (h : tBv G F (bd m f) σ tv H Q) : tBv G F m σ tv H fun b H1 => ∃ ρ1 s1, MR G F.toFx ρ1 H1 σ tv s1 ∧ wB G F σ tv (f b s1) Q := by
  obtain ⟨hs, ρ, s, M, W⟩ := h
  refine ⟨hs, ρ, s, M, ?_⟩
  unfold bd at W
  cases e : m s with
  | ok b s1 => rw [e] at W; exact fun ρ1 H1 M1 => ⟨ρ1, s1, M1, W⟩
  | ex d s1 => rw [e] at W; exact W
  | no => rw [e] at W; exact W
theorem wB.mono {σv tv : List (Option V)} {r : Res Bool} {Q Q' : Bool → Hp → Prop} (h : wB G F σv tv r Q) (k : ∀ v H, Q v H → Q' v H) : wB G F σv tv r Q' := by
  cases r with
  | ok t s => exact fun ρ H M => k _ _ (h ρ H M)
  | ex d s => exact h
  | no => exact h
theorem tBv.mono {m : M Bool} {σv tv : List (Option V)} {H : Hp} {Q Q' : Bool → Hp → Prop} (h : tBv G F m σv tv H Q) (k : ∀ v H, Q v H → Q' v H) : tBv G F m σv tv H Q' := by
  obtain ⟨hs, ρ, s, M, W⟩ := h
  exact ⟨hs, ρ, s, M, W.mono k⟩
noncomputable def iteM {α : Type} (b : Bool) (m m' : M α) : M α := match b with | true => m | false => m'
noncomputable def mAnd (m m' : M Bool) : M Bool := bd m fun b => iteM b m' (rt false)
noncomputable def mOr (m m' : M Bool) : M Bool := bd m fun b => iteM b (rt true) m'
noncomputable def mNot (m : M Bool) : M Bool := bd m fun b => rt (!b)
noncomputable def SW (X : Cx) (G : Gx) (F : Fy) (e : Expr) (m : M Bool) : Prop := PW X e (tMB G F m)
theorem SW.sb {m : M Bool} (h : SW X G F e m) : SB X G F e m := PW.pt h
theorem PW.imp0 {t t' : TT} (h : PW X e t) (hi : ∀ σ H Q, t' σ H Q → t σ H Q) : PW X e t' := fun wh pins s σ H Q I q => h wh pins s σ H _ I (hi σ H Q q)
theorem sw_and1 {m : M Bool} (h : SB X G F a m) : SW X G F (.BoolOp .And [a] pos) m := pw_and1 h
theorem sw_or1 {m : M Bool} (h : SB X G F a m) : SW X G F (.BoolOp .Or [a] pos) m := pw_or1 h
theorem sw_and {rest : List Expr} {m m' : M Bool} (ha : SB X G F a m) (hb : SW X G F (.BoolOp .And (b :: rest) pos) m') : SW X G F (.BoolOp .And (a :: b :: rest) pos) (mAnd m m') := by
  refine PW.imp0 (pw_and ha hb) fun σ H Q ⟨tv, h⟩ => ⟨tv, (tB_bd h).mono fun b H1 ⟨ρ1, s1, M1, W⟩ => ?_⟩
  cases b with
  | true => rw [if_pos rfl]; exact ⟨tv, h.1, ρ1, s1, M1, W⟩
  | false => rw [if_neg Bool.false_ne_true]; exact W ρ1 H1 M1
theorem sw_or {rest : List Expr} {m m' : M Bool} (ha : SB X G F a m) (hb : SW X G F (.BoolOp .Or (b :: rest) pos) m') : SW X G F (.BoolOp .Or (a :: b :: rest) pos) (mOr m m') := by
  refine PW.imp0 (pw_or ha hb) fun σ H Q ⟨tv, h⟩ => ⟨tv, (tB_bd h).mono fun b H1 ⟨ρ1, s1, M1, W⟩ => ?_⟩
  cases b with
  | true => rw [if_pos rfl]; exact W ρ1 H1 M1
  | false => rw [if_neg Bool.false_ne_true]; exact ⟨tv, h.1, ρ1, s1, M1, W⟩
theorem sb_not {m : M Bool} (ha : SB X G F a m) : SB X G F (.UnaryOp .Not a pos) (mNot m) := by
  refine PT.imp0 (pt_not ha) fun σ H Q ⟨tv, h⟩ => ⟨tv, (tB_bd h).mono fun b H1 ⟨ρ1, s1, M1, W⟩ => W ρ1 H1 M1⟩
noncomputable def mAndV (m m' : M D) : M D := bd (mBoo m) fun b => iteM b m' (rt (.bool false))
noncomputable def mOrV (m m' : M D) : M D := bd (mBoo m) fun b => iteM b (rt (.bool true)) m'
noncomputable def mNotV (m : M D) : M D := bd (mBoo m) fun b => rt (.bool (!b))
theorem boo_bd {m : M D} {f : Bool → M D} {σ : St} {H : Hp} {Q : VK} (h : tM G F (bd (mBoo m) f) σ H Q) : tM G F m σ H fun x H1 => ∃ k, x = .bl k ∧ ∃ ρ1 s1 tv, F.tv0 <:+ tv ∧ MR G F.toFx ρ1 H1 σ tv s1 ∧ wM G F σ tv (f k s1) Q := by
  obtain ⟨tv, hs, ρ, s, M, W⟩ := h
  refine ⟨tv, hs, ρ, s, M, ?_⟩
  unfold mBoo bd at W
  cases e : m s with
  | ok t s1 =>
    rw [e] at W
    intro ρ1 v H1 M1
    have h := M1.rd1
    cases t with
    | bool b => simp only [RD] at h; exact ⟨b, h, ρ1, s1, tv, hs, M1.m, W⟩
    | _ => exact False.elim W
  | ex d s1 => rw [e] at W; exact W
  | no => rw [e] at W; exact W
theorem tM.mono {m : M D} {σ : St} {H : Hp} {Q Q' : VK} (h : tM G F m σ H Q) (k : ∀ v H, Q v H → Q' v H) : tM G F m σ H Q' := by
  obtain ⟨tv, h⟩ := h
  exact ⟨tv, h.mono k⟩
theorem se_one {op} {m : M D} (h : SE X G F a m) : SE X G F (.BoolOp op [a] pos) m := pe_one h
theorem se_and {rest : List Expr} {m m' : M D} (ha : SE X G F a m) (hb : SE X G F (.BoolOp .And (b :: rest) pos) m') : SE X G F (.BoolOp .And (a :: b :: rest) pos) (mAndV m m') := by
  refine PE.imp0 (pe_and ha hb) fun σ H Q h => (boo_bd h).mono fun x H1 ⟨k, e, ρ1, s1, tv, hs, M1, W⟩ => ⟨k, e, ?_⟩
  cases k with
  | true => rw [if_pos rfl]; exact ⟨tv, hs, ρ1, s1, M1, W⟩
  | false => rw [if_neg Bool.false_ne_true]; exact W.flat M1 rfl
theorem se_not {m : M D} (ha : SE X G F a m) : SE X G F (.UnaryOp .Not a pos) (mNotV m) := by
  refine PE.imp0 (pe_not ha) fun σ H Q h => (boo_bd h).mono fun x H1 ⟨k, e, ρ1, s1, tv, hs, M1, W⟩ => ⟨k, e, W.flat M1 rfl⟩
noncomputable def mIf (c : M Bool) (m m' : M D) : M D := bd c fun b => iteM b m m'
noncomputable def flatM (y : D) (m : M D) : M D := match cV y with | some _ => m | none => fl
noncomputable def mChain (ma mb mc : M D) (g g' : D → D → M D) : M D := bd ma fun x => bd (psh x) fun _ => bd mb fun y => bd pop fun x' => flatM y (bd (mBoo (g x' y)) fun k => iteM k (bd mc fun z => g' y z) (rt (.bool false)))
theorem chain_imp {ma mb mc : M D} {g g' : D → D → M D} {r r' : R2} {σ : St} {H : Hp} {Q : VK} (hg : CmpOK G F r g) (hg' : CmpOK G F r' g') (h : tM G F (mChain ma mb mc g g') σ H Q) : tChain r r' (tM G F ma) (tM G F mb) (tM G F mc) σ H Q := by
  obtain ⟨tv, h⟩ := h
  have hs := h.1
  refine ⟨tv, (tM_bin (g := fun x' y => flatM y (bd (mBoo (g x' y)) fun k => iteM k (bd mc fun z => g' y z) (rt (.bool false)))) h).mono fun v H1 h1 => ⟨_, h1.mono fun u H2 ⟨ρ, s, t, t', M, W⟩ => ?_⟩⟩
  unfold flatM at W
  cases e : cV t' with
  | none => rw [e] at W; exact False.elim W
  | some u' =>
    rw [e] at W
    have hu : u = u' := by
      have h2 := M.rd2.2
      cases t' <;> simp only [cV, Option.some.injEq] at e <;> simp only [RD] at h2 <;> first | (rw [h2, e]) | cases e
    subst hu
    unfold bd mBoo at W
    dsimp only at W
    refine hg ρ s t t' v u H2 σ tv _ M ?_
    unfold bd at W
    cases e2 : g t t' s with
    | ok z s1 =>
      rw [e2] at W
      intro ρ1 w H3 M3
      have h3 := M3.rd1
      cases z with
      | bool k =>
        simp only [RD] at h3
        refine ⟨k, h3, ?_⟩
        have W : wM G F σ tv (iteM k (bd mc fun z => g' t' z) (rt (.bool false)) s1) Q := W
        cases k with
        | false => rw [if_neg Bool.false_ne_true]; exact W.flat M3.m rfl
        | true =>
          rw [if_pos rfl]
          have h5 : tMv G F (bd mc fun z => g' t' z) σ tv H3 Q := ⟨hs, ρ1, s1, M3.m, W⟩
          refine ⟨tv, (tM_bd h5).mono fun w' H4 ⟨ρ4, s4, t4, M4, W4⟩ => hg' ρ4 s4 t' t4 u w' H4 σ tv Q ⟨M4.m, ?_, fun l hl => ?_⟩ W4⟩
          · simp only [RDs]; exact ⟨_, _, rfl, (cV_rd e).1, _, _, rfl, M4.rd1, rfl⟩
          · simp only [labsL, (cV_rd (G := G) (ρ := ρ4) (H := H4) e).2, List.nil_append, List.append_nil] at hl
            exact M4.lb1 l hl
      | _ => exact False.elim W
    | ex d s1 => rw [e2] at W; exact W
    | no => rw [e2] at W; exact W
theorem se_chain {op op' : CmpOp} {r r' : R2} {ma mb mc : M D} {g g' : D → D → M D} (ho : OpR X (compareOp op) r) (hg : CmpOK G F r g) (ho' : OpR X (compareOp op') r') (hg' : CmpOK G F r' g') (ha : SE X G F a ma) (hb : SE X G F b mb) (hc : SE X G F c mc)
    (hm : lastMarks [op, op'] [b, c] = false := by with_unfolding_all rfl) : SE X G F (.Compare a [op, op'] [b, c] pos) (mChain ma mb mc g g') :=
  PE.imp0 (pe_chain ho ho' ha hb hc hm) fun _ _ _ h => chain_imp hg hg' h
theorem sb_chain {op op' : CmpOp} {r r' : R2} {ma mb mc : M D} {g g' : D → D → M D} (ho : OpR X (compareOp op) r) (hg : CmpOK G F r g) (ho' : OpR X (compareOp op') r') (hg' : CmpOK G F r' g') (ha : SE X G F a ma) (hb : SE X G F b mb) (hc : SE X G F c mc)
    (hm : lastMarks [op, op'] [b, c] = false := by with_unfolding_all rfl) : SB X G F (.Compare a [op, op'] [b, c] pos) (mBoo (mChain ma mb mc g g')) :=
  PT.imp0 (pt_chain ho ho' ha hb hc hm) fun _ _ _ h => chain_imp hg hg' (boo_imp h)
end
end Mi
namespace Mi
open PySem L2
noncomputable def lenD : List D → M D
  | [.tup ds] => rt (.int ds.length)
  | [.ro ds] => rt (.int ds.length)
  | [.lst _ ds] => rt (.int ds.length)
  | _ => fl
noncomputable def absD : List D → M D
  | [.int i] => rt (.int (if i < 0 then -i else i))
  | _ => fl
noncomputable def minD : List D → M D
  | [.int i, .int j] => rt (.int (if j < i then j else i))
  | _ => fl
noncomputable def maxD : List D → M D
  | [.int i, .int j] => rt (.int (if j > i then j else i))
  | _ => fl
noncomputable def boolsD : List D → Option (List Bool)
  | [] => some []
  | .bool b :: r => (boolsD r).map (b :: ·)
  | _ => none
noncomputable def allD : List D → M D
  | [.lst _ ds] => match boolsD ds with | some bs => rt (.bool (bs.all id)) | none => fl
  | _ => fl
noncomputable def anyD : List D → M D
  | [.lst _ ds] => match boolsD ds with | some bs => rt (.bool (bs.any id)) | none => fl
  | _ => fl
noncomputable def intD : List D → M D
  | [.int i] => rt (.int i)
  | [.bool b] => rt (.int (if b then 1 else 0))
  | _ => fl
noncomputable def tupF : List D → M D
  | [.tup ds] => rt (.tup ds)
  | [.ro ds] => rt (.tup ds)
  | [.lst _ ds] => rt (.tup ds)
  | _ => fl
noncomputable def listF : List D → M D
  | [.tup ds] => newL ds
  | [.ro ds] => newL ds
  | [.lst _ ds] => newL ds
  | _ => fl
section
variable {X : Cx} {G : Gx} {F : Fy} {e a b c : Expr} {pos : Pos}
theorem MRL.one {ρ : Nat → Addr} {H : Hp} {σv tv : List (Option V)} {s : Stt} {t : D} {vs : List V} (M : MRL G F.toFx ρ H σv tv s [t] vs) : ∃ v, vs = [v] ∧ RD G ρ H t v ∧ LB F.toFx ρ s.n (labs t) := by
  have h := M.rd
  simp only [RDs] at h
  obtain ⟨v, r, rfl, h, rfl⟩ := h
  exact ⟨v, rfl, h, M.lb1⟩
theorem MRL.two {ρ : Nat → Addr} {H : Hp} {σv tv : List (Option V)} {s : Stt} {t t' : D} {vs : List V} (M : MRL G F.toFx ρ H σv tv s [t, t'] vs) : ∃ v u, vs = [v, u] ∧ RD G ρ H t v ∧ RD G ρ H t' u := by
  have h := M.rd
  simp only [RDs] at h
  obtain ⟨v, r, rfl, h, u, q, rfl, h', rfl⟩ := h
  exact ⟨v, u, rfl, h, h'⟩
theorem ok_len : CallOK G F (fun xs H Q => ∃ p ys, xs = [.ref p] ∧ (SqL G.K H p ys ∨ SqT G.K H p ys) ∧ Q (.int ys.length) H) lenD := by
  intro ρ s ts vs H σv tv Q M W
  unfold lenD at W
  split at W
  · obtain ⟨v, rfl, h, _⟩ := M.one
    obtain ⟨p, xs, rfl, s1, r1, _⟩ := h.seq rfl
    exact ⟨p, xs, rfl, s1, fun _ => by rw [← r1.length]; exact W.flat M.m rfl⟩
  · obtain ⟨v, rfl, h, _⟩ := M.one
    obtain ⟨p, xs, rfl, s1, r1, _⟩ := h.seq rfl
    exact ⟨p, xs, rfl, s1, fun _ => by rw [← r1.length]; exact W.flat M.m rfl⟩
  · obtain ⟨v, rfl, h, _⟩ := M.one
    obtain ⟨p, xs, rfl, s1, r1, _⟩ := h.seq rfl
    exact ⟨p, xs, rfl, s1, fun _ => by rw [← r1.length]; exact W.flat M.m rfl⟩
  · exact wfl W
theorem ok_abs : CallOK G F (fun xs H Q => ∃ i, xs = [.int i] ∧ Q (.int (if i < 0 then -i else i)) H) absD := by
  intro ρ s ts vs H σv tv Q M W
  unfold absD at W
  split at W
  · obtain ⟨v, rfl, h, _⟩ := M.one
    simp only [RD] at h
    subst h
    exact ⟨_, rfl, fun _ => W.flat M.m rfl⟩
  · exact wfl W
theorem ok_min : CallOK G F (fun xs H Q => ∃ i j, xs = [.int i, .int j] ∧ Q (.int (if j < i then j else i)) H) minD := by
  intro ρ s ts vs H σv tv Q M W
  unfold minD at W
  split at W
  · obtain ⟨v, u, rfl, h, h'⟩ := M.two
    simp only [RD] at h h'
    subst h h'
    exact ⟨_, _, rfl, fun _ => W.flat M.m rfl⟩
  · exact wfl W
theorem ok_max : CallOK G F (fun xs H Q => ∃ i j, xs = [.int i, .int j] ∧ Q (.int (if j > i then j else i)) H) maxD := by
  intro ρ s ts vs H σv tv Q M W
  unfold maxD at W
  split at W
  · obtain ⟨v, u, rfl, h, h'⟩ := M.two
    simp only [RD] at h h'
    subst h h'
    exact ⟨_, _, rfl, fun _ => W.flat M.m rfl⟩
  · exact wfl W
theorem bools_rd {ρ : Nat → Addr} {H : Hp} : ∀ {ds : List D} {xs : List V} {bs : List Bool}, RDs G ρ H ds xs → boolsD ds = some bs → xs = bs.map V.bl
  | [], xs, bs, r, e => by simp only [RDs] at r; simp only [boolsD, Option.some.injEq] at e; subst r e; rfl
  | d :: ds, xs, bs, r, e => by
    simp only [RDs] at r
    obtain ⟨x, q, rfl, h1, h2⟩ := r
    cases d with
    | bool b =>
      simp only [boolsD] at e
      cases e1 : boolsD ds with
      | none => rw [e1] at e; cases e
      | some cs =>
        rw [e1] at e
        cases e
        simp only [RD] at h1
        rw [h1, bools_rd h2 e1]; rfl
    | _ => simp only [boolsD] at e; cases e
theorem ok_all : CallOK G F (fun xs H Q => ∃ (p : Addr) (bs : List Bool), xs = [.ref p] ∧ SqL G.K H p (bs.map V.bl) ∧ Q (.bl (bs.all id)) H) allD := by
  intro ρ s ts vs H σv tv Q M W
  unfold allD at W
  split at W
  · rename_i l ds
    cases e1 : boolsD ds with
    | none => rw [e1] at W; exact False.elim W
    | some bs =>
      rw [e1] at W
      obtain ⟨v, rfl, h, _⟩ := M.one
      obtain ⟨p, xs, rfl, s1, r1, _⟩ := h.lstq (ds := ds) rfl
      rw [bools_rd r1 e1] at s1
      exact ⟨p, bs, rfl, s1, fun _ => W.flat M.m rfl⟩
  · exact wfl W
theorem ok_any : CallOK G F (fun xs H Q => ∃ (p : Addr) (bs : List Bool), xs = [.ref p] ∧ SqL G.K H p (bs.map V.bl) ∧ Q (.bl (bs.any id)) H) anyD := by
  intro ρ s ts vs H σv tv Q M W
  unfold anyD at W
  split at W
  · rename_i l ds
    cases e1 : boolsD ds with
    | none => rw [e1] at W; exact False.elim W
    | some bs =>
      rw [e1] at W
      obtain ⟨v, rfl, h, _⟩ := M.one
      obtain ⟨p, xs, rfl, s1, r1, _⟩ := h.lstq (ds := ds) rfl
      rw [bools_rd r1 e1] at s1
      exact ⟨p, bs, rfl, s1, fun _ => W.flat M.m rfl⟩
  · exact wfl W
theorem ok_tupF : CallOK G F (fun xs H Q => ∃ (p : Addr) (ys : List V), xs = [.ref p] ∧ (SqL G.K H p ys ∨ SqT G.K H p ys) ∧ NewT G.K H ys Q) tupF := by
  intro ρ s ts vs H σv tv Q M W
  have fin : ∀ (t : D) (ds : List D), ts = [t] → seqD t = some ds → wM G F σv tv (.ok (.tup ds) s) Q → ∃ (p : Addr) (ys : List V), vs = [.ref p] ∧ (SqL G.K H p ys ∨ SqT G.K H p ys) ∧ NewT G.K H ys (fun w H' => KD G.K H' → Q w H') := fun t ds et es W' => by
    subst et
    obtain ⟨v, rfl, h, lb⟩ := M.one
    obtain ⟨p, xs, rfl, s1, r1, sub⟩ := h.seq es
    exact ⟨p, xs, rfl, s1, out_newT W' M.m r1 fun l hl => lb l (sub l hl)⟩
  unfold tupF at W
  split at W
  · exact fin _ _ rfl rfl W
  · exact fin _ _ rfl rfl W
  · exact fin _ _ rfl rfl W
  · exact wfl W
theorem ok_listF : CallOK G F (fun xs H Q => ∃ p ys, xs = [.ref p] ∧ (SqL G.K H p ys ∨ SqT G.K H p ys) ∧ ∀ l, H l = none → Q (.ref l) (upd H l (.lst ys))) listF := by
  intro ρ s ts vs H σv tv Q M W
  have fin : ∀ (t : D) (ds : List D), ts = [t] → seqD t = some ds → wM G F σv tv (.ok (.lst s.n ds) s.nxt) Q → ∃ p ys, vs = [.ref p] ∧ (SqL G.K H p ys ∨ SqT G.K H p ys) ∧ ∀ l, H l = none → KD G.K (upd H l (.lst ys)) → Q (.ref l) (upd H l (.lst ys)) := fun t ds et es W' => by
    subst et
    obtain ⟨v, rfl, h, lb⟩ := M.one
    obtain ⟨p, xs, rfl, s1, r1, sub⟩ := h.seq es
    exact ⟨p, xs, rfl, s1, fun l hl k => out_lst W' M.m r1 (fun l hl => lb l (sub l hl)) hl k⟩
  unfold listF at W
  split at W
  · exact fin _ _ rfl rfl W
  · exact fin _ _ rfl rfl W
  · exact fin _ _ rfl rfl W
  · exact wfl W
noncomputable def isiD (T : String) : D → Option Bool
  | .non => some false
  | .bool _ => some (T == "int" || T == "bool")
  | .int _ => some (T == "int")
  | .str _ => some (T == "str")
  | .tup _ => some (T == "tuple")
  | .ro _ => some (T == "list")
  | .lst _ _ => some (T == "list")
  | _ => none
noncomputable def mIsi (T : String) (m : M D) : M D := bd m fun d => match isiD T d with | some b => rt (.bool b) | none => fl
theorem isi_rd {ρ : Nat → Addr} {H : Hp} {t : D} {v : V} {T : String} {b : Bool} (h : RD G ρ H t v) (e : isiD T t = some b) : isiV G.K H T b v := by
  cases t <;> simp only [isiD, Option.some.injEq] at e <;> try cases e
  · simp only [RD] at h; subst h; exact rfl
  · simp only [RD] at h; subst h; exact rfl
  · simp only [RD] at h; subst h; exact rfl
  · simp only [RD] at h; subst h; exact rfl
  · obtain ⟨p, xs, rfl, s1, r1⟩ := h.tupq
    exact .inl ⟨xs, s1, rfl⟩
  · obtain ⟨p, xs, rfl, s1, r1, _⟩ := h.lstq rfl
    exact .inr ⟨xs, s1, rfl⟩
  · obtain ⟨p, xs, rfl, s1, r1, _⟩ := h.lstq rfl
    exact .inr ⟨xs, s1, rfl⟩
theorem se_isi {p : Pos} {x y : Expr} {T : String} {m : M D} (hk : X.K = G.K) (hT : T = "int" ∨ T = "bool" ∨ T = "tuple" ∨ T = "list" ∨ T = "str") (hgl : Gl X "isinstance") (hm : X.mg "isinstance" = none) (ha : SE X G F x m) (hy : PE X y (tC (.ty T)))
    (he : starEach [x, y] X.env = (false, eval x X.env) :: starEach [y] X.env := by rfl) (he2 : starEach [y] X.env = (false, eval y X.env) :: starEach [] X.env := by rfl) (hpl : (backTo pos (starEach [y] X.env)).any (·.1) = false := by rfl) : SE X G F (.Call (.Name "isinstance" p) [x, y] [] pos) (mIsi T m) := by
  refine PE.imp hk (pe_callB call_isi hgl hm PyProof.Rows.Boot.«isinstance» (pa_cons ha (pa_cons hy pa_nil he2) he) (by decide) (by decide) he hpl) fun σ H Q ⟨tv, h⟩ => ⟨tv, (tM_bd h).mono fun v H1 ⟨ρ1, s1, t, M1, W⟩ => ?_⟩
  cases e : isiD T t with
  | none => simp only [e] at W; exact False.elim W
  | some b =>
    simp only [e] at W
    rw [hk]
    exact ⟨v, T, b, rfl, hT, isi_rd M1.rd1 e, fun _ => W.flat M1.m rfl⟩
end
end Mi
namespace Mi
open PySem L2
inductive RS where
  | nx (s : Stt) | rt (d : D) (s : Stt) | bk (s : Stt) | ct (s : Stt) | ex (d : D) (s : Stt) | no
noncomputable abbrev MS := Stt → RS
noncomputable def lift {α : Type} (m : M α) (f : α → MS) : MS := fun s => match m s with
  | .ok a s' => f a s'
  | .ex d s' => .ex d s'
  | .no => .no
noncomputable def seqS (m m' : MS) : MS := fun s => match m s with
  | .nx s' => m' s'
  | r => r
noncomputable def sNx : MS := fun s => .nx s
noncomputable def sBk : MS := fun s => .bk s
noncomputable def sCt : MS := fun s => .ct s
noncomputable def sExpr (m : M D) : MS := lift m fun _ => sNx
noncomputable def sRet (m : M D) : MS := lift m fun d s => .rt d s
noncomputable def sRetN : MS := fun s => .rt .non s
noncomputable def iteS (b : Bool) (m m' : MS) : MS := match b with | true => m | false => m'
noncomputable def sIf (c : M Bool) (m m' : MS) : MS := lift c fun b => iteS b m m'
inductive Tg where
  | nm (i : Nat) | tp (ts : List Tg)
mutual
noncomputable def asg : Tg → D → List (Option D) → Option (List (Option D))
  | .nm i, t, σ => some (σ.set i (some t))
  | .tp ts, .tup ds, σ => asgL ts ds σ
  | .tp _, _, _ => none
noncomputable def asgL : List Tg → List D → List (Option D) → Option (List (Option D))
  | [], [], σ => some σ
  | t :: ts, d :: ds, σ => match asg t d σ with | some σ' => asgL ts ds σ' | none => none
  | _, _, _ => none
end
noncomputable def sAsg (g : Tg) (m : M D) : MS := lift m fun d s => match asg g d s.σ with
  | some σ' => .nx { s with σ := σ' }
  | none => .no
section
variable {X : Cx} {G : Gx} {F : Fy} {e a b c : Expr} {st : Stmt} {sts rest : List Stmt} {pos : Pos}
noncomputable def wS (G : Gx) (F : Fy) (tv : List (Option V)) (r : RS) (D : Ends) : Prop := match r with
  | .nx s' => ∀ ρ' σv' H', MR G F.toFx ρ' H' σv' tv s' → D.nx σv' H'
  | .rt t s' => ∀ ρ' σv' v H', MRL G F.toFx ρ' H' σv' tv s' [t] [v] → D.rt v H'
  | .bk s' => ∀ ρ' σv' H', MR G F.toFx ρ' H' σv' tv s' → D.bk σv' H'
  | .ct s' => ∀ ρ' σv' H', MR G F.toFx ρ' H' σv' tv s' → D.ct σv' H'
  | .ex d s' => F.xw d s'
  | .no => False
noncomputable def tSv (G : Gx) (F : Fy) (m : MS) (tv : List (Option V)) (D : Ends) (σv : St) (H : Hp) : Prop := F.tv0 <:+ tv ∧ ∃ ρ s, MR G F.toFx ρ H σv tv s ∧ wS G F tv (m s) D
noncomputable def tS (G : Gx) (F : Fy) (m : MS) : TS := fun D σv H => ∃ tv, tSv G F m tv D σv H
noncomputable def SS (X : Cx) (G : Gx) (F : Fy) (st : Stmt) (m : MS) : Prop := PS X st (tS G F m)
noncomputable def SSs (X : Cx) (G : Gx) (F : Fy) (sts : List Stmt) (m : MS) : Prop := PSs X sts (tS G F m)
theorem PS.imp0 {t t' : TS} (h : PS X st t) (hi : ∀ D σ H, t' D σ H → t D σ H) : PS X st t' := fun pins s σ H D I q => h pins s σ H D I (hi D σ H q)
theorem PSs.imp0 {t t' : TS} (h : PSs X sts t) (hi : ∀ D σ H, t' D σ H → t D σ H) : PSs X sts t' := fun pins s σ H D I q => h pins s σ H D I (hi D σ H q)
theorem ss_nil : SSs X G F [] sNx := PSs.imp0 pss_nil fun D σ H ⟨tv, hs, ρ, s, M, W⟩ => W ρ σ H M
theorem ss_cons {m m' : MS} (h1 : SS X G F st m) (h2 : SSs X G F rest m') : SSs X G F (st :: rest) (seqS m m') := by
  refine PSs.imp0 (pss_cons h1 h2) fun D σ H ⟨tv, hs, ρ, s, M, W⟩ => ⟨tv, hs, ρ, s, M, ?_⟩
  unfold seqS at W
  cases e : m s with
  | nx s' => rw [e] at W; exact fun ρ' σv' H' M' => ⟨tv, hs, ρ', s', M', W⟩
  | rt d s' => rw [e] at W; exact W
  | bk s' => rw [e] at W; exact W
  | ct s' => rw [e] at W; exact W
  | ex d s' => rw [e] at W; exact W
  | no => rw [e] at W; exact W
theorem ss_one {m : MS} (h1 : SS X G F st m) : SSs X G F [st] m := pss_one h1
theorem lift_imp {m : M D} {f : D → MS} {tv : List (Option V)} {D : Ends} {σ : St} {H : Hp} (h : tSv G F (lift m f) tv D σ H) : tMv G F m σ tv H fun v H1 => ∃ ρ1 s1 t, MRL G F.toFx ρ1 H1 σ tv s1 [t] [v] ∧ wS G F tv (f t s1) D := by
  obtain ⟨hs, ρ, s, M, W⟩ := h
  refine ⟨hs, ρ, s, M, ?_⟩
  unfold lift at W
  cases e : m s with
  | ok t s1 => rw [e] at W; exact fun ρ1 v H1 M1 => ⟨ρ1, s1, t, M1, W⟩
  | ex d s1 => rw [e] at W; exact W
  | no => rw [e] at W; exact W
theorem liftB_imp {m : M Bool} {f : Bool → MS} {tv : List (Option V)} {D : Ends} {σ : St} {H : Hp} (h : tSv G F (lift m f) tv D σ H) : tBv G F m σ tv H fun b H1 => ∃ ρ1 s1, MR G F.toFx ρ1 H1 σ tv s1 ∧ wS G F tv (f b s1) D := by
  obtain ⟨hs, ρ, s, M, W⟩ := h
  refine ⟨hs, ρ, s, M, ?_⟩
  unfold lift at W
  cases e : m s with
  | ok t s1 => rw [e] at W; exact fun ρ1 H1 M1 => ⟨ρ1, s1, M1, W⟩
  | ex d s1 => rw [e] at W; exact W
  | no => rw [e] at W; exact W
theorem ss_ret {m : M D} (he : SE X G F e m) : SS X G F (.Return (some e) pos) (sRet m) :=
  PS.imp0 (ps_ret he) fun D σ H ⟨tv, h⟩ => ⟨tv, (lift_imp h).mono fun v H1 ⟨ρ1, s1, t, M1, W⟩ => W ρ1 σ v H1 M1⟩
theorem ss_if {x y : List Stmt} {mc : M Bool} {m m' : MS} (hc : SB X G F c mc) (ha : SSs X G F x m) (hb : SSs X G F y m') : SS X G F (.If c x y pos) (sIf mc m m') := by
  refine PS.imp0 (ps_if hc ha hb) fun D σ H ⟨tv, h⟩ => ⟨tv, (liftB_imp h).mono fun k H1 ⟨ρ1, s1, M1, W⟩ => ?_⟩
  cases k with
  | true => rw [if_pos rfl]; exact ⟨tv, h.1, ρ1, s1, M1, W⟩
  | false => rw [if_neg Bool.false_ne_true]; exact ⟨tv, h.1, ρ1, s1, M1, W⟩
noncomputable def tGn (G : Gx) (F : Fy) (g : Tg) : TG := fun v σv H Q => ∃ tv ρ s t, MRL G F.toFx ρ H σv tv s [t] [v] ∧ ∃ σ', asg g t s.σ = some σ' ∧ ∀ σv', MR G F.toFx ρ H σv' tv { s with σ := σ' } → Q σv' H
noncomputable def tGs (G : Gx) (F : Fy) (g : List Tg) : TGs := fun vs σv H Q => ∃ tv ρ s ts, MRL G F.toFx ρ H σv tv s ts vs ∧ ∃ σ', asgL g ts s.σ = some σ' ∧ ∀ σv', MR G F.toFx ρ H σv' tv { s with σ := σ' } → Q σv' H
noncomputable def SG (X : Cx) (G : Gx) (F : Fy) (tg : Expr) (g : Tg) : Prop := PG X tg (tGn G F g)
noncomputable def SGs (X : Cx) (G : Gx) (F : Fy) (tgs : List Expr) (g : List Tg) : Prop := PGs X tgs (tGs G F g)
theorem MRL.setS {ρ : Nat → Addr} {H : Hp} {σv tv : List (Option V)} {s : Stt} {t : D} {v : V} {ts : List D} {vs : List V} (i : Nat) (M : MRL G F.toFx ρ H σv tv s (t :: ts) (v :: vs)) : MRL G F.toFx ρ H (σv.set i (some v)) tv { s with σ := s.σ.set i (some t) } ts vs := by
  have h := M.rd
  simp only [RDs] at h
  obtain ⟨_, _, e, h1, h2⟩ := h
  cases e
  have lb1 : ∀ l ∈ labs t, l < s.n ∧ (F.A0 (ρ l) ∨ F.H0 (ρ l) = none) := fun l h => M.lb l (by simp only [labsL]; exact List.mem_append_left _ h)
  have all : ∀ l ∈ labsS { s with σ := s.σ.set i (some t) }, l < s.n ∧ (F.A0 (ρ l) ∨ F.H0 (ρ l) = none) := fun l h => by
    rcases List.mem_append.mp h with h | h
    · rcases labsO_set l h with q | q
      · exact ⟨M.m.lab l (List.mem_append_left _ q), M.m.own l (List.mem_append_left _ q)⟩
      · exact lb1 l q
    · exact ⟨M.m.lab l (List.mem_append_right _ h), M.m.own l (List.mem_append_right _ h)⟩
  exact ⟨⟨M.m.sl.set i h1, M.m.tm, M.m.inj, M.m.dom, fun l h => (all l h).1, fun l h => (all l h).2, M.m.frm, M.m.kd, M.m.frb, M.m.bas⟩, h2, fun l h => M.lb l (by simp only [labsL]; exact List.mem_append_right _ h)⟩
theorem sg_name {i : Nat} {x : Str} {p : Pos} (h : PG X (.Name x p) (gName i)) : SG X G F (.Name x p) (.nm i) := by
  intro pins s σ H v u Q I r ⟨tv, ρ, ms, t, M, σ', e, k⟩
  simp only [asg, Option.some.injEq] at e
  subst e
  exact h pins s σ H v u Q I r (k _ (M.setS i).m)
theorem sgs_nil : SGs X G F [] [] := by
  intro pins s σ H vs us Q I r ⟨tv, ρ, ms, ts, M, σ', e, k⟩
  cases ts with
  | nil =>
    simp only [asgL, Option.some.injEq] at e
    subst e
    have h := M.rd
    simp only [RDs] at h
    exact pgs_nil pins s σ H vs us Q I r ⟨h, k _ M.m⟩
  | cons d ds => simp only [asgL] at e; cases e
theorem MRL.cons_inv {ρ : Nat → Addr} {H : Hp} {σv tv : List (Option V)} {s : Stt} {t : D} {ts : List D} {vs : List V} (M : MRL G F.toFx ρ H σv tv s (t :: ts) vs) : ∃ v r, vs = v :: r ∧ MRL G F.toFx ρ H σv tv s [t] [v] ∧ RDs G ρ H ts r ∧ LB F.toFx ρ s.n (labsL ts) := by
  have h := M.rd
  simp only [RDs] at h
  obtain ⟨v, r, rfl, h1, h2⟩ := h
  exact ⟨v, r, rfl, ⟨M.m, RDs.one h1, fun l h => M.lb l (by simp only [labsL, List.append_nil] at h ⊢; exact List.mem_append_left _ h)⟩, h2, fun l h => M.lb l (by simp only [labsL]; exact List.mem_append_right _ h)⟩
theorem PGs.imp0 {es : List Expr} {t t' : TGs} (h : PGs X es t) (hi : ∀ vs σ H Q, t' vs σ H Q → t vs σ H Q) : PGs X es t' := fun pins s σ H vs us Q I r q => h pins s σ H vs us Q I r (hi vs σ H Q q)
theorem PG.imp0 {t t' : TG} (h : PG X e t) (hi : ∀ v σ H Q, t' v σ H Q → t v σ H Q) : PG X e t' := fun pins s σ H v u Q I r q => h pins s σ H v u Q I r (hi v σ H Q q)
theorem sgs_cons {es : List Expr} {g : Tg} {gs : List Tg} (h1 : SG X G F e g) (h2 : SGs X G F es gs) (hs : (assignEach (e :: es) X.env).map (·.2) = assign e X.env :: (assignEach es X.env).map (·.2) := by rfl) : SGs X G F (e :: es) (g :: gs) := by
  refine PGs.imp0 (pgs_cons h1 h2 hs) fun vs σv H Q ⟨tv, ρ, s, ts, M, σ', e, k⟩ => ?_
  cases ts with
  | nil => simp only [asgL] at e; cases e
  | cons d ds =>
    simp only [asgL] at e
    cases e1 : asg g d s.σ with
    | none => rw [e1] at e; cases e
    | some σ1 =>
      rw [e1] at e
      obtain ⟨v, r, rfl, M1, h2, lb⟩ := M.cons_inv
      exact ⟨v, r, rfl, tv, ρ, s, d, M1, σ1, e1, fun σv1 M2 => ⟨tv, ρ, { s with σ := σ1 }, ds, ⟨M2, h2, lb⟩, σ', e, k⟩⟩
theorem sg_tup {es : List Expr} {k : Nat} {gs : List Tg} (hk : X.K = G.K) (hc : X.calm = true) (h : SGs X G F es gs) (hn : (assignEach es X.env).length = gs.length := by rfl) (hst : (assignEach es X.env).findIdx? (·.1) = none := by rfl) : SG X G F (.Tuple es k pos) (.tp gs) := by
  refine PG.imp0 (pg_tup hc h hn hst) fun v σv H Q ⟨tv, ρ, s, t, M, σ', e, kk⟩ => ?_
  cases t with
  | tup ds =>
    simp only [asg] at e
    obtain ⟨a, xs, rfl, sq, r⟩ := M.rd1.tupq
    have len : ∀ {gs : List Tg} {ds : List D} {σ σ' : List (Option D)}, asgL gs ds σ = some σ' → ds.length = gs.length := by
      intro gs
      induction gs with
      | nil => intro ds σ σ' e; cases ds with
        | nil => rfl
        | cons _ _ => simp only [asgL] at e; cases e
      | cons g gs ih => intro ds σ σ' e; cases ds with
        | nil => simp only [asgL] at e; cases e
        | cons d ds =>
          simp only [asgL] at e
          cases e1 : asg g d σ with
          | none => rw [e1] at e; cases e
          | some σ1 => rw [e1] at e; rw [List.length_cons, List.length_cons, ih e]
    refine ⟨a, xs, rfl, hk ▸ sq, by rw [← r.length]; exact len e, tv, ρ, s, ds, ⟨M.m, r, fun l h => M.lb1 l (by simp only [labs]; exact h)⟩, σ', e, kk⟩
  | _ => simp only [asg] at e; cases e
theorem ss_asg {tg : Expr} {g : Tg} {m : M D} (he : SE X G F e m) (hg : SG X G F tg g) (hs : swapsWithSole [tg] e pos.line X.env = pure false := by rfl) (hw : swappedStores [tg] e X.env = pure none := by rfl)
    (h1 : (assignEach [tg] X.env).map (·.2) = [assign tg X.env] := by rfl) : SS X G F (.Assign [tg] e pos) (sAsg g m) := by
  refine PS.imp0 (ps_asg he hg hs hw h1) fun D σ H ⟨tv, h⟩ => ⟨tv, (lift_imp h).mono fun v H1 ⟨ρ1, s1, t, M1, W⟩ => ?_⟩
  cases e : asg g t s1.σ with
  | none => simp only [e] at W; exact False.elim W
  | some σ' =>
    simp only [e] at W
    exact ⟨tv, ρ1, s1, t, M1, σ', e, fun σv' M2 => W ρ1 σv' H1 M2⟩
theorem ss_set {i : Nat} {x : Str} {p : Pos} {m : M D} (h : ∀ {te : TE}, PE X e te → PS X (.Assign [.Name x p] e pos) (tAsg te (gName i))) (he : SE X G F e m) : SS X G F (.Assign [.Name x p] e pos) (sAsg (.nm i) m) := by
  refine PS.imp0 (h he) fun D σ H ⟨tv, h⟩ => ⟨tv, (lift_imp h).mono fun v H1 ⟨ρ1, s1, t, M1, W⟩ => ?_⟩
  simp only [asg] at W
  exact W ρ1 _ H1 (M1.setS i).m
end
end Mi
namespace L2
open PySem PySem.Spec PyProof.Rows
noncomputable abbrev testsOf (ifs : List Expr) (env : Env) : Sem Bool := forIn ifs true fun c r => if r = true then do let ok ← isTrue c env (eval c env); pure (ForInStep.yield ok) else pure (ForInStep.yield r)
theorem codeAny_compLoop_go2 {prog : Program} {w : World} {A : Around} {R : Result → Shared → Prop} {s : Shared} {elt target iter : Expr} {ifs : List Expr} {scope : Scope} {pos : Pos} {it acc : Value} {env : Env} (I : Nat → Shared → Prop)
    (turn : ∀ n s, I n s → wpAny (model prog w) A (pyNext it) (fun r s₁ => match r with
      | none => R (.ok .next) s₁
      | some v => wpAny (model prog w) A (letOwnedTupleGo target it v) (fun _ s₁ => wpAny (model prog w) A (assign target env v) (fun _ s₂ => wpAny (model prog w) A (testsOf ifs env) (fun ok s₃ =>
          if ok = true then wpAny (model prog w) A (eval elt env) (fun x s₃ =>
          wpAny (model prog w) A (call (.builtin "list.append") [acc, x]) (fun _ s₄ => ∃ m, m < n ∧ I m s₄) (fun _ _ => False) s₃)
          (fun _ _ => False) s₃ else ∃ m, m < n ∧ I m s₃) (fun _ _ => False) s₂) (fun _ _ => False) s₁) (fun _ _ => False) s₁) (fun _ _ => False) s)
    (n : Nat) (h : I n s) :
    codeAny (model prog w) A (.compLoop (.ListComp elt [⟨target, iter, ifs, 0⟩] scope pos) 0 it acc env) R s := by
  refine codeAny_loop rfl I (fun n s hI => ?_) n h
  show wpAny _ _ ((compTurn (.ListComp elt [⟨target, iter, ifs, 0⟩] scope pos) 0 it acc env).onRaise (fun x => do noteFrame x env; theTreesLotGoes x)) _ _ s
  refine wpAny_noted ?_
  rw [compTurn_list]
  refine wpAny_bind (wpAny_standAt (wpAny_bind (wpAny_mono (turn n s hI) (fun r s₁ h₁ => ?_) fun _ _ h' => h'.elim)))
  cases r with
  | none => exact wpAny_pure h₁
  | some v =>
    refine wpAny_bind (wpAny_mono h₁ (fun _ s₁ h₁ => ?_) fun _ _ h' => h'.elim)
    refine wpAny_bind (wpAny_mono h₁ (fun _ s₂ h₂ => wpAny_bind (wpAny_mono h₂ (fun ok s₃ h₃ => ?_) fun _ _ h' => h'.elim)) fun _ _ h' => h'.elim)
    cases ok with
    | false => exact wpAny_pure ⟨rfl, h₃⟩
    | true =>
      exact wpAny_bind (wpAny_bind (wpAny_mono h₃ (fun x s₄ h₄ => wpAny_bind (wpAny_mono h₄ (fun _ s₅ h₅ => wpAny_pure (wpAny_pure ⟨rfl, h₅⟩)) fun _ _ h' => h'.elim)) fun _ _ h' => h'.elim))
noncomputable def PTs (X : Cx) (ifs : List Expr) (t : TT) : Prop :=
  ∀ (pins : List (Addr × Obj)) (s : Shared) (σ : St) (H : Hp) (Q : Bool → Hp → Prop), Inv X pins σ H s → t σ H Q → wpAny (model X.prog X.w) X.A (testsOf ifs X.env) (TP X pins σ Q) X.xe s
theorem pts_nil {X : Cx} : PTs X [] (fun _ H Q => Q true H) := fun pins s σ H Q I h => wpAny_tests_nil ⟨H, I, h⟩
theorem pts_one {X : Cx} {c : Expr} {t : TT} (h : PT X c t) : PTs X [c] t := fun pins s σ H Q I q => wpAny_tests_one (h pins s σ H Q I q)
section
variable {X : Cx} {tg iter elt : Expr} {ifs : List Expr} {pos : Pos} {scope : Scope} {own frees : List Str} {ix : List Nat} {wi : TI} {g : TG} {tt : TT} {te : TE}
noncomputable def tComp2 (K : PySem.W.Frag) (wi : TI) (g : TG) (tt : TT) (te : TE) (k : Nat) (ix : List Nat) : TE := fun σ H Q => wi σ H fun J H1 => ∀ D, H1 D = none → (∀ a o, K.lookup a = some o → upd H1 D (.lst []) a = none) →
  ∃ W : Nat → Nat → List V → St → Hp → Prop, (∃ m, W 0 m [] (compSt k ix σ) (upd H1 D (.lst []))) ∧
    ∀ i m ys σ' H', W i m ys σ' H' → H' D = some (.lst ys) ∧ ((J.stop i H' ∧ Q (.ref D) H') ∨
      (J.go i H' ∧ ∀ x H2, J.yld i H' x H2 → g x σ' H2 fun σ2 H3 => tt σ2 H3 fun ok H3 => if ok = true then te σ2 H3 fun y H4 => H4 D = some (.lst ys) ∧ ys.length < sizeLine ∧ ∃ m', m' < m ∧ W (i + 1) m' (ys ++ [y]) σ2 (upd H4 D (.lst (ys ++ [y])))
        else ∃ m', m' < m ∧ W (i + 1) m' ys σ2 H3))
theorem pe_lcomp2 (hc : X.calm = true) (S : CompScope X.env.scope scope own frees X.N ix) (hi : PI X tg iter wi)
    (hg : ∀ cl C s₀ H₀ fp pn, PG (compCx X scope own frees cl C s₀ H₀ fp pn) tg g) (ht : ∀ cl C s₀ H₀ fp pn, PTs (compCx X scope own frees cl C s₀ H₀ fp pn) ifs tt) (he : ∀ cl C s₀ H₀ fp pn, PE (compCx X scope own frees cl C s₀ H₀ fp pn) elt te)
    (hs : ∀ x, foldedSetIterable iter X.env x = pure x := by intro _; rfl) :
    PE X (.ListComp elt [⟨tg, iter, ifs, 0⟩] scope pos) (tComp2 X.K wi g tt te own.length ix) := by
  intro pins s σ H Q I h
  have hclos : closureFor scope X.env = pure (closL X.env scope.names []) := closureFor_eq fun y hy e => I.ok.has y.1 (S.fr y hy e)
  rw [eval_ListComp]
  refine wpAny_comprehension_free (use := none) rfl hs hclos S.kind S.names (thn (hi pins s σ H _ I h) fun v s1 h1 => thn h1 fun itv s2 h2 => ?_)
  obtain ⟨it, fp, tn, J, H2, e, I2, T, st2, f2, hD⟩ := h2
  subst e
  refine wpAny_newObj_type ?_
  have I3 : Inv X pins σ (upd H2 s2.heap.objs.size (.lst [])) { s2 with heap := s2.heap.push { cls := .type "list", data := .seq ([] : List Value).toArray } } := I2.lnew (t' := s2.toks) .nil (Nat.zero_le _)
  have nD : H2 s2.heap.objs.size = none := I2.fresh
  obtain ⟨W, ⟨m0, w0⟩, turn⟩ := hD _ nD fun a o e => (I3.bs a o (I3.ok.mod.kin a o e)).2
  have fpl : ∀ b ∈ fp, b < s2.heap.objs.size := fun b z => by
    obtain ⟨o, q, _⟩ := T.obj _ _ st2 b z
    exact Heap.lt_size q
  generalize hs3 : ({ s2 with heap := s2.heap.push { cls := .type "list", data := .seq ([] : List Value).toArray } } : Shared) = s3 at I3
  have hpush : ∀ b o, s2.heap.get? b = some o → s3.heap.get? b = some o := fun b o q => by rw [← hs3]; exact Heap.get?_push_of_some _ q
  have hsz3 : s2.heap.objs.size < s3.heap.objs.size := by rw [← hs3]; show _ < (s2.heap.push _).objs.size; rw [Heap.size_push]; exact Nat.lt_succ_self _
  have f3 : ∀ b ∈ fp, FpOk X pins (upd H2 s2.heap.objs.size (.lst [])) b := fun b z => ⟨by rw [upd_ne (Nat.ne_of_lt (fpl b z))]; exact (f2 b z).1, (f2 b z).2⟩
  have st3 : tn 0 s3.heap := T.keep _ _ _ st2 fun b _ o q => hpush b o q
  generalize hDd : s2.heap.objs.size = D at *
  generalize hH3 : upd H2 D (.lst []) = H3 at *
  have goal : wpAny (model X.prog X.w) X.A (newFunctionEnv scope X.env.globals (closL X.env scope.names []) [] X.env.qual none .none (some X.env)) (fun cenv s₄ =>
      codeAny (model X.prog X.w) X.A (.compStart (.ListComp elt [⟨tg, iter, ifs, 0⟩] scope pos) 0 (.ref it) (.ref D) { cenv with scope := relabel scope X.env }) (compPost (model X.prog X.w) X.A X.xe none (EP X pins σ Q) (.ref D) cenv.locals) s₄) X.xe s3 := by
    refine wpAny_newFunctionEnv S.nocell (by intro y hy; simp at hy) (fun h1 hns hsb => ?_) S.kind
    have hns : h1.Ns s3.heap.objs.size (fun _ => none) := hns
    have keep4 : ∀ b o, s3.heap.get? b = some o → h1.get? b = some o := fun b o q => hsb.extBut b o (Nat.ne_of_lt (Heap.lt_size q)) (Heap.get?_push_of_some _ q)
    have fpl3 : ∀ b ∈ fp, b < s3.heap.objs.size := fun b z => Nat.lt_trans (fpl b z) hsz3
    generalize hs4 : ({ s3 with heap := h1, toks := s3.toks + ([] : List (Str × Value)).length } : Shared) = s4
    have I4 : Inv (compCx X scope own frees (closL X.env scope.names []) s3.heap.objs.size s3 H3 fp (X.pn ++ pins)) [] (compSt own.length ix σ) H3 s4 :=
      comp_start S I3 f3 fpl3 (by rw [← hs4]) (by rw [← hs4]) (fun b o q => by rw [← hs4]; exact keep4 b o q) (by rw [← hs4]; exact hns)
    have st4 : tn 0 s4.heap := T.keep _ _ _ st3 fun b _ o q => by rw [← hs4]; exact keep4 b o q
    generalize hXc : compCx X scope own frees (closL X.env scope.names []) s3.heap.objs.size s3 H3 fp (X.pn ++ pins) = Y at I4
    have eP : Y.prog = X.prog := by rw [← hXc]; rfl
    have eW : Y.w = X.w := by rw [← hXc]; rfl
    have eK : Y.K = X.K := by rw [← hXc]; rfl
    have eA : Y.A = X.A := by rw [← hXc]; rfl
    have eC : Y.calm = true := by rw [← hXc]; exact hc
    have eE : Y.env = compEnvC scope (closL X.env scope.names []) s3.heap.objs.size X.env := by rw [← hXc]; rfl
    have eX : Y.xe = fun _ _ => False := by rw [← hXc]; rfl
    have eF : ∀ {H' : Hp}, (∀ b ∈ fp, H' b = none) → ∀ b ∈ fp, FpOk Y [] H' b := fun {H'} hn b hb => by
      rw [← hXc]
      obtain ⟨g1, g2, g3, g4, g5, g6⟩ := f3 b hb
      refine ⟨hn b hb, Nat.ne_of_lt (fpl3 b hb), fun q => ?_, .inl hb, fun x c e => ?_, fun p hp => ?_⟩
      · rcases List.mem_cons.mp (I3.stkSub b q) with r | r
        · exact g2 r
        · exact g3 r
      · rcases closL_of _ _ e with q | q
        · exact nomatch q
        · exact g5 x c q.1
      · have hp : p ∈ (X.pn ++ pins) ++ [] := hp
        rw [List.append_nil] at hp
        exact g6 p hp
    have gY : PG Y tg g := by rw [← hXc]; exact hg _ _ _ _ _ _
    have tY : PE Y elt te := by rw [← hXc]; exact he _ _ _ _ _ _
    have sY : PTs Y ifs tt := by rw [← hXc]; exact ht _ _ _ _ _ _
    have loop : codeAny (model X.prog X.w) X.A (.compLoop (.ListComp elt [⟨tg, iter, ifs, 0⟩] scope pos) 0 (.ref it) (.ref D) (compEnvC scope (closL X.env scope.names []) s3.heap.objs.size X.env))
        (compPost (model X.prog X.w) X.A X.xe none (EP X pins σ Q) (.ref D) s3.heap.objs.size) s4 := by
      refine codeAny_compLoop_go2 (fun n s' => ∃ i ys σ' H', Inv Y [] σ' H' s' ∧ tn i s'.heap ∧ (∀ b ∈ fp, H' b = none) ∧ W i n ys σ' H') ?_ m0 ⟨0, [], _, _, I4, st4, fun b hb => (f3 b hb).1, w0⟩
      rintro n s5 ⟨i, ys, σ5, H5, I5, st5, fr5, w5⟩
      obtain ⟨hD5, alt⟩ := turn i n ys σ5 H5 w5
      rcases alt with ⟨stop, qn⟩ | ⟨go, step⟩
      · have d := T.done Y eP eW eK eC i [] s5 σ5 H5 (fun _ _ => False) I5 (eF fr5) st5 stop
        rw [eA] at d
        refine thn d fun r s6 ⟨hr, I6⟩ => ?_
        subst hr
        subst hXc
        obtain ⟨m6, n6, _⟩ := I6.loc
        exact ⟨m6, n6, fun h'' hs'' => ⟨.ref D, H5, comp_end I3 f3 (Nat.le_refl _) I6 hs'', rfl, qn⟩⟩
      · have d := T.item Y eP eW eK eC i [] s5 σ5 H5 (fun _ _ => False) I5 (eF fr5) st5 go
        rw [eA] at d
        refine thn d fun r s6 ⟨u, hr, h6⟩ => ?_
        subst hr
        refine thn h6 fun _ s7 ⟨x, H7, I7, r7, y7, st7, fr7⟩ => ?_
        have I7' := I7.pinned (eF fr7) (T.obj _ _ st7)
        have e1 := gY _ s7 σ5 H7 x u _ I7' r7 (step x H7 y7)
        rw [eP, eW, eA, eE, eX] at e1
        refine thn e1 fun _ s8 ⟨σ8, H8, I8, q8⟩ => ?_
        have e1' := sY _ s8 σ8 H8 _ I8 q8
        rw [eP, eW, eA, eE, eX] at e1'
        refine thn e1' fun ok s8 ⟨H8, I8, q8⟩ => ?_
        cases ok with
        | false =>
          rw [if_neg Bool.false_ne_true] at q8 ⊢
          obtain ⟨m', hm', w9⟩ := q8
          refine ⟨m', hm', i + 1, _, σ8, _, I8.unpinned, T.keep _ _ _ st7 fun b hb o e => ?_, fun b hb => ?_, w9⟩
          · exact (I8.pin (b, o) (List.mem_append_right _ (List.mem_append_right _ (mem_pinsAt hb e)))).1
          · obtain ⟨o, e, d⟩ := T.obj _ _ st7 b hb
            exact (I8.pin (b, o) (List.mem_append_right _ (List.mem_append_right _ (mem_pinsAt hb e)))).2.1
        | true =>
        rw [if_pos rfl] at q8 ⊢
        have e2 := tY _ s8 σ8 H8 _ I8 q8
        rw [eP, eW, eA, eE, eX] at e2
        refine thn e2 fun yv s9 ⟨y, H9, I9, r9, hD9, hz9, m', hm', w9⟩ => ?_
        have e3 := mt_append (X := Y) _ s9 σ8 H9 (.ref D) [y] (.ref D) [yv] (fun v H' => v = .non ∧ H' = upd H9 D (.lst (ys ++ [y]))) I9 rfl (.cons r9 .nil) ⟨D, ys, y, rfl, rfl, hD9, hz9, rfl, rfl⟩
        rw [eP, eW, eA, eX] at e3
        refine thn e3 fun _ s10 ⟨v10, H10, I10, r10, _, e10⟩ => ?_
        subst e10
        refine ⟨m', hm', i + 1, _, σ8, _, I10.unpinned, T.keep _ _ _ st7 fun b hb o e => ?_, fun b hb => ?_, w9⟩
        · exact (I10.pin (b, o) (List.mem_append_right _ (List.mem_append_right _ (mem_pinsAt hb e)))).1
        · obtain ⟨o, e, d⟩ := T.obj _ _ st7 b hb
          exact (I10.pin (b, o) (List.mem_append_right _ (List.mem_append_right _ (mem_pinsAt hb e)))).2.1
    exact codeAny_compStart_list loop (T.self _ 0 _ _ _ st4 loop)
  exact goal
theorem ps_lcompN {y : Str} {py spos : Pos} {i : Nat} (hN : X.N.Nodup) (hy : X.N[i]? = some y) (hx : Loc X.env.scope y) (hfn : X.fn y = true ∨ X.env.scope.names.lookup y = some .local) (hsw : swapsWith (.ListComp elt [⟨tg, iter, ifs, 0⟩] scope pos) (some (.Name y py)) spos.line X.env = pure true) (hc : X.calm = true) (S : CompScope X.env.scope scope own frees X.N ix) (hi : PI X tg iter wi)
    (hg : ∀ cl C s₀ H₀ fp pn, PG (compCx X scope own frees cl C s₀ H₀ fp pn) tg g) (ht : ∀ cl C s₀ H₀ fp pn, PTs (compCx X scope own frees cl C s₀ H₀ fp pn) ifs tt) (he : ∀ cl C s₀ H₀ fp pn, PE (compCx X scope own frees cl C s₀ H₀ fp pn) elt te)
    (hs : ∀ x, foldedSetIterable iter X.env x = pure x := by intro _; rfl) :
    PS X (.Assign [.Name y py] (.ListComp elt [⟨tg, iter, ifs, 0⟩] scope pos) spos) (fun Dd σ H => tComp2 X.K wi g tt te own.length ix σ H fun v H' => Dd.nx (σ.set i (some v)) H') := by
  intro pins s σ H Dd I h
  have hclos : closureFor scope X.env = pure (closL X.env scope.names []) := closureFor_eq fun y hy e => I.ok.has y.1 (S.fr y hy e)
  rw [exec_Assign_Name_used _ _ _ _ hsw]
  refine wpAny_bind (wpAny_standAt (wpAny_bind ?_))
  show wpAny _ X.A (do let _ ← comprehension (.ListComp elt [⟨tg, iter, ifs, 0⟩] scope pos) scope X.env _ (newList []) false (eval iter X.env) (some (assign (.Name y py) X.env))) _ _ s
  refine wpAny_bind (wpAny_mono (wpAny_comprehension_free (use := some (assign (.Name y py) X.env)) (Q := fun _ s' => SP X pins Dd .next s') rfl hs hclos S.kind S.names (thn (hi pins s σ H _ I h) fun v s1 h1 => thn h1 fun itv s2 h2 => ?_)) (fun _ s' hq => wpAny_pure (wpAny_pure hq)) fun _ _ e => e)
  obtain ⟨it, fp, tn, J, H2, e, I2, T, st2, f2, hD⟩ := h2
  subst e
  refine wpAny_newObj_type ?_
  have I3 : Inv X pins σ (upd H2 s2.heap.objs.size (.lst [])) { s2 with heap := s2.heap.push { cls := .type "list", data := .seq ([] : List Value).toArray } } := I2.lnew (t' := s2.toks) .nil (Nat.zero_le _)
  have nD : H2 s2.heap.objs.size = none := I2.fresh
  obtain ⟨W, ⟨m0, w0⟩, turn⟩ := hD _ nD fun a o e => (I3.bs a o (I3.ok.mod.kin a o e)).2
  have fpl : ∀ b ∈ fp, b < s2.heap.objs.size := fun b z => by
    obtain ⟨o, q, _⟩ := T.obj _ _ st2 b z
    exact Heap.lt_size q
  generalize hs3 : ({ s2 with heap := s2.heap.push { cls := .type "list", data := .seq ([] : List Value).toArray } } : Shared) = s3 at I3
  have hpush : ∀ b o, s2.heap.get? b = some o → s3.heap.get? b = some o := fun b o q => by rw [← hs3]; exact Heap.get?_push_of_some _ q
  have hsz3 : s2.heap.objs.size < s3.heap.objs.size := by rw [← hs3]; show _ < (s2.heap.push _).objs.size; rw [Heap.size_push]; exact Nat.lt_succ_self _
  have f3 : ∀ b ∈ fp, FpOk X pins (upd H2 s2.heap.objs.size (.lst [])) b := fun b z => ⟨by rw [upd_ne (Nat.ne_of_lt (fpl b z))]; exact (f2 b z).1, (f2 b z).2⟩
  have st3 : tn 0 s3.heap := T.keep _ _ _ st2 fun b _ o q => hpush b o q
  generalize hDd : s2.heap.objs.size = D at *
  generalize hH3 : upd H2 D (.lst []) = H3 at *
  have goal : wpAny (model X.prog X.w) X.A (newFunctionEnv scope X.env.globals (closL X.env scope.names []) [] X.env.qual none .none (some X.env)) (fun cenv s₄ =>
      codeAny (model X.prog X.w) X.A (.compStart (.ListComp elt [⟨tg, iter, ifs, 0⟩] scope pos) 0 (.ref it) (.ref D) { cenv with scope := relabel scope X.env }) (compPost (model X.prog X.w) X.A X.xe (some (assign (.Name y py) X.env)) (fun _ s' => SP X pins Dd .next s') (.ref D) cenv.locals) s₄) X.xe s3 := by
    refine wpAny_newFunctionEnv S.nocell (by intro y hy; simp at hy) (fun h1 hns hsb => ?_) S.kind
    have hns : h1.Ns s3.heap.objs.size (fun _ => none) := hns
    have keep4 : ∀ b o, s3.heap.get? b = some o → h1.get? b = some o := fun b o q => hsb.extBut b o (Nat.ne_of_lt (Heap.lt_size q)) (Heap.get?_push_of_some _ q)
    have fpl3 : ∀ b ∈ fp, b < s3.heap.objs.size := fun b z => Nat.lt_trans (fpl b z) hsz3
    generalize hs4 : ({ s3 with heap := h1, toks := s3.toks + ([] : List (Str × Value)).length } : Shared) = s4
    have I4 : Inv (compCx X scope own frees (closL X.env scope.names []) s3.heap.objs.size s3 H3 fp (X.pn ++ pins)) [] (compSt own.length ix σ) H3 s4 :=
      comp_start S I3 f3 fpl3 (by rw [← hs4]) (by rw [← hs4]) (fun b o q => by rw [← hs4]; exact keep4 b o q) (by rw [← hs4]; exact hns)
    have st4 : tn 0 s4.heap := T.keep _ _ _ st3 fun b _ o q => by rw [← hs4]; exact keep4 b o q
    generalize hXc : compCx X scope own frees (closL X.env scope.names []) s3.heap.objs.size s3 H3 fp (X.pn ++ pins) = Y at I4
    have eP : Y.prog = X.prog := by rw [← hXc]; rfl
    have eW : Y.w = X.w := by rw [← hXc]; rfl
    have eK : Y.K = X.K := by rw [← hXc]; rfl
    have eA : Y.A = X.A := by rw [← hXc]; rfl
    have eC : Y.calm = true := by rw [← hXc]; exact hc
    have eE : Y.env = compEnvC scope (closL X.env scope.names []) s3.heap.objs.size X.env := by rw [← hXc]; rfl
    have eX : Y.xe = fun _ _ => False := by rw [← hXc]; rfl
    have eF : ∀ {H' : Hp}, (∀ b ∈ fp, H' b = none) → ∀ b ∈ fp, FpOk Y [] H' b := fun {H'} hn b hb => by
      rw [← hXc]
      obtain ⟨g1, g2, g3, g4, g5, g6⟩ := f3 b hb
      refine ⟨hn b hb, Nat.ne_of_lt (fpl3 b hb), fun q => ?_, .inl hb, fun x c e => ?_, fun p hp => ?_⟩
      · rcases List.mem_cons.mp (I3.stkSub b q) with r | r
        · exact g2 r
        · exact g3 r
      · rcases closL_of _ _ e with q | q
        · exact nomatch q
        · exact g5 x c q.1
      · have hp : p ∈ (X.pn ++ pins) ++ [] := hp
        rw [List.append_nil] at hp
        exact g6 p hp
    have gY : PG Y tg g := by rw [← hXc]; exact hg _ _ _ _ _ _
    have tY : PE Y elt te := by rw [← hXc]; exact he _ _ _ _ _ _
    have sY : PTs Y ifs tt := by rw [← hXc]; exact ht _ _ _ _ _ _
    have loop : codeAny (model X.prog X.w) X.A (.compLoop (.ListComp elt [⟨tg, iter, ifs, 0⟩] scope pos) 0 (.ref it) (.ref D) (compEnvC scope (closL X.env scope.names []) s3.heap.objs.size X.env))
        (compPost (model X.prog X.w) X.A X.xe (some (assign (.Name y py) X.env)) (fun _ s' => SP X pins Dd .next s') (.ref D) s3.heap.objs.size) s4 := by
      refine codeAny_compLoop_go2 (fun n s' => ∃ i ys σ' H', Inv Y [] σ' H' s' ∧ tn i s'.heap ∧ (∀ b ∈ fp, H' b = none) ∧ W i n ys σ' H') ?_ m0 ⟨0, [], _, _, I4, st4, fun b hb => (f3 b hb).1, w0⟩
      rintro n s5 ⟨i, ys, σ5, H5, I5, st5, fr5, w5⟩
      obtain ⟨hD5, alt⟩ := turn i n ys σ5 H5 w5
      rcases alt with ⟨stop, qn⟩ | ⟨go, step⟩
      · have d := T.done Y eP eW eK eC i [] s5 σ5 H5 (fun _ _ => False) I5 (eF fr5) st5 stop
        rw [eA] at d
        refine thn d fun r s6 ⟨hr, I6⟩ => ?_
        subst hr
        subst hXc
        obtain ⟨m6, n6, _⟩ := I6.loc
        have n6 : s6.heap.Ns s3.heap.objs.size m6 := n6
        have I7 : Inv X pins σ H5 s6 := comp_end (h' := s6.heap) I3 f3 (Nat.le_refl _) I6 (Heap.SameBut.refl _ _)
        have fC : FpOk X pins H5 s3.heap.objs.size := I3.fpOk (Nat.le_refl _) I6.free
        obtain ⟨oC, eC, dC⟩ : ∃ o, s6.heap.get? s3.heap.objs.size = some o ∧ ∀ v, o.data ≠ .cell v := by
          obtain ⟨o, es, ep, e1, e2, e3⟩ := n6
          exact ⟨o, e1, fun v z => by simp_all⟩
        have I8 := I7.pinned (fp := [s3.heap.objs.size]) (fun b hb => by
          have e : b = s3.heap.objs.size := by simpa using hb
          rw [e]; exact fC) (fun b hb => by
          have e : b = s3.heap.objs.size := by simpa using hb
          rw [e]; exact ⟨oC, eC, dC⟩)
        show wpAny _ _ (assign (.Name y py) X.env (.ref D)) _ _ s6
        refine wpAny_assign_Name (store_ok (v := .ref D) I8 hN hy hx rfl (fun s7 I9 => ?_) hfn)
        have e7 : s7.heap.get? s3.heap.objs.size = some oC := (I9.pin (s3.heap.objs.size, oC) (List.mem_append_right _ (List.mem_append_right _ (mem_pinsAt (by simp) eC)))).1
        refine ⟨m6, n6.at' fun o e => by rw [eC] at e; cases e; exact e7, fun h3 hs3 => ⟨_, H5, ?_, qn⟩⟩
        exact I9.unpinned.turned (t' := s7.toks) (fun b o hb e => (hs3.2 b hb).trans e) fC.1 fC.2.1 fC.2.2.2.1 fC.2.2.2.2.1 fC.2.2.2.2.2
      · have d := T.item Y eP eW eK eC i [] s5 σ5 H5 (fun _ _ => False) I5 (eF fr5) st5 go
        rw [eA] at d
        refine thn d fun r s6 ⟨u, hr, h6⟩ => ?_
        subst hr
        refine thn h6 fun _ s7 ⟨x, H7, I7, r7, y7, st7, fr7⟩ => ?_
        have I7' := I7.pinned (eF fr7) (T.obj _ _ st7)
        have e1 := gY _ s7 σ5 H7 x u _ I7' r7 (step x H7 y7)
        rw [eP, eW, eA, eE, eX] at e1
        refine thn e1 fun _ s8 ⟨σ8, H8, I8, q8⟩ => ?_
        have e1' := sY _ s8 σ8 H8 _ I8 q8
        rw [eP, eW, eA, eE, eX] at e1'
        refine thn e1' fun ok s8 ⟨H8, I8, q8⟩ => ?_
        cases ok with
        | false =>
          rw [if_neg Bool.false_ne_true] at q8 ⊢
          obtain ⟨m', hm', w9⟩ := q8
          refine ⟨m', hm', i + 1, _, σ8, _, I8.unpinned, T.keep _ _ _ st7 fun b hb o e => ?_, fun b hb => ?_, w9⟩
          · exact (I8.pin (b, o) (List.mem_append_right _ (List.mem_append_right _ (mem_pinsAt hb e)))).1
          · obtain ⟨o, e, d⟩ := T.obj _ _ st7 b hb
            exact (I8.pin (b, o) (List.mem_append_right _ (List.mem_append_right _ (mem_pinsAt hb e)))).2.1
        | true =>
        rw [if_pos rfl] at q8 ⊢
        have e2 := tY _ s8 σ8 H8 _ I8 q8
        rw [eP, eW, eA, eE, eX] at e2
        refine thn e2 fun yv s9 ⟨y, H9, I9, r9, hD9, hz9, m', hm', w9⟩ => ?_
        have e3 := mt_append (X := Y) _ s9 σ8 H9 (.ref D) [y] (.ref D) [yv] (fun v H' => v = .non ∧ H' = upd H9 D (.lst (ys ++ [y]))) I9 rfl (.cons r9 .nil) ⟨D, ys, y, rfl, rfl, hD9, hz9, rfl, rfl⟩
        rw [eP, eW, eA, eX] at e3
        refine thn e3 fun _ s10 ⟨v10, H10, I10, r10, _, e10⟩ => ?_
        subst e10
        refine ⟨m', hm', i + 1, _, σ8, _, I10.unpinned, T.keep _ _ _ st7 fun b hb o e => ?_, fun b hb => ?_, w9⟩
        · exact (I10.pin (b, o) (List.mem_append_right _ (List.mem_append_right _ (mem_pinsAt hb e)))).1
        · obtain ⟨o, e, d⟩ := T.obj _ _ st7 b hb
          exact (I10.pin (b, o) (List.mem_append_right _ (List.mem_append_right _ (mem_pinsAt hb e)))).2.1
    exact codeAny_compStart_list loop (T.self _ 0 _ _ _ st4 loop)
  exact goal
end
end L2
namespace L2
open PySem PySem.Spec PyProof.Rows
structure CompScopeC (osc sc : Scope) (own frees N : List Str) (ix : List Nat) : Prop where
  kind : sc.kind = .function
  names : ∀ y ∈ sc.names, y.2 = .local → sc.names.lookup y.1 = some .local
  fr : ∀ y ∈ sc.names, y.2 = .free → osc.names.lookup y.1 = some .cell ∨ osc.names.lookup y.1 = some .free
  nd : (own ++ frees).Nodup
  frl : ∀ x ∈ frees, sc.names.lookup x = some .free
  ixs : ix.map (fun i => N[i]?) = frees.map some
  frc : ∀ y ∈ sc.names, y.2 = .cell → y.1 ∉ frees
  owf : ∀ y ∈ sc.names, y.2 = .free → y.1 ∉ own
section
variable {X : Cx} {tg iter elt : Expr} {ifs : List Expr} {pos : Pos} {scope : Scope} {own frees : List Str} {ix : List Nat} {wi : TI} {g : TG} {tt : TT} {te : TE}
end
end L2
namespace L2
open PySem PySem.Spec PyProof.Rows
theorem Inv.turnedL {X : Cx} {pins : List (Addr × Obj)} {σ : List (Option V)} {H : Hp} {s : Shared} {h' : Heap} {t' : Nat} {fp : List Addr} (I : Inv X pins σ H s) (k : ∀ b o, b ∉ fp → s.heap.get? b = some o → h'.get? b = some o) (hf : ∀ b ∈ fp, FpOk X pins H b) : Inv X pins σ H { s with heap := h', toks := t' } := by
  have nit : ∀ b u, H b = some u → b ∉ fp := fun b u e z => by rw [(hf b z).1] at e; cases e
  refine I.step (g' := s.gens) (d' := s.drawn) (ch := fp) (fun b hb => ?_) (fun b o _ _ hc e _ => k b o hc e) (fun b o _ _ hc e _ => ⟨o.slots, k b o hc e⟩) (fun _ _ _ _ n => n)
    (fun b o hc e => ⟨o, k b o hc e⟩) (fun _ _ e => e) (fun _ _ _ e => e) (fun b ps e => ⟨#[], by rw [e]; simp⟩) (fun m hm => ?_) (fun b u e => ?_) I.bare
  · obtain ⟨f0, f1, f2, f3, f4, f5⟩ := hf b hb
    exact ⟨f3, f1, f4, f5⟩
  · obtain ⟨o, es, ep, ho, r⟩ := hm
    exact ⟨o, es, ep, k _ o (fun z => (hf _ z).2.1 rfl) ho, r⟩
  · refine (I.hok b u e).stay (fun c v hc q => k c v ?_ q) (fun _ q => q) fun _ _ q => q
    rcases hc with z | z
    · rw [z]; exact nit b u e
    · exact nit c _ z
noncomputable def Ite (K : PySem.W.Frag) (a : Addr) : It :=
  ⟨fun i H => ∃ xs x, SqL K H a xs ∧ xs[i]? = some x, fun i H v H' => ∃ p x, H p = none ∧ v = .ref p ∧ H' = upd H p (.tup [.int i, x]) ∧ (∀ xs, SqL K H a xs → xs[i]? = some x) ∧ ∀ b o, K.lookup b = some o → H' b = none, fun i H => ∃ xs, SqL K H a xs ∧ xs.length ≤ i⟩
theorem turn_enum {P : Program} {w : World} {K : PySem.W.Frag} {elts : List Expr} {x1 : Nat} {tpos : Pos} (a e it : Addr) (hne : e ≠ it) : Turn P w K (.Tuple elts x1 tpos) (Ite K a) [e, it] e (fun i h => ∃ old, IsEnum h e it i old ∧ h.IsListIter it a i) where
  mem := by simp
  obj := fun i h st b hb => by
    obtain ⟨old, h1, h2⟩ := st
    have hb : b = e ∨ b = it := by simpa using hb
    rcases hb with rfl | rfl
    · exact ⟨_, h1, fun v z => by
        have z' : Data.fields _ = Data.cell v := z
        cases z'⟩
    · obtain ⟨o, e, c, d⟩ := h2
      exact ⟨o, e, fun v z => by rw [d] at z; cases z⟩
  keep := fun i h h' st k => by
    obtain ⟨old, h1, h2⟩ := st
    exact ⟨old, k e (by simp) _ h1, h2.at fun o q => k it (by simp) o q⟩
  item := by
    intro X hP hw hK hc i pins s σ H E I hf st hg
    subst hP hw hK
    obtain ⟨old, st1, st2⟩ := st
    obtain ⟨xs, x, hq, hx⟩ := hg
    obtain ⟨its, rv, p, hz⟩ := I.list hq
    obtain ⟨u, hu, ru⟩ := rv.get hx
    refine wpAny_pyNext_enum_item st1 st2 p.isList (x := u) (by simpa using hu) hne fun h1 heo hit ht hsz hk => ?_
    refine ⟨_, rfl, wpAny_letOwnedTupleGo_enum heo fun h2 he2 hs2 => ?_⟩
    have hs2 : Heap.SameBut e h1 h2 := hs2
    have hel : e < s.heap.objs.size := Heap.lt_size st1
    have ht2 : h2.get? s.heap.objs.size = some { cls := .type "tuple", data := .seq #[.int i s.toks, u] } := (hs2.2 _ (Nat.ne_of_gt hel)).trans ht
    have fr : ∀ b ∈ [e, it], b ≠ s.heap.objs.size := fun b hb => by
      have hb : b = e ∨ b = it := by simpa using hb
      rcases hb with rfl | rfl
      · exact Nat.ne_of_lt hel
      · obtain ⟨o, q, _⟩ := st2
        exact Nat.ne_of_lt (Heap.lt_size q)
    have I1 : Inv X pins σ (upd H s.heap.objs.size (.tup [.int i, x])) { s with heap := s.heap.push { cls := .type "tuple", data := .seq #[.int i s.toks, u] }, toks := s.toks } := I.laid (t' := s.toks) (o := .tup [.int i, x]) (fun b ob q => Heap.get?_push_of_some _ q) (Nat.le_refl _) ⟨by show 2 ≤ sizeLine; decide, [.int i s.toks, u], .cons ⟨_, rfl⟩ (.cons ru .nil), IsTup.new _ _⟩
    have f1 : ∀ b ∈ [e, it], FpOk X pins (upd H s.heap.objs.size (.tup [.int i, x])) b := fun b hb => ⟨by rw [upd_ne (fr b hb)]; exact (hf b hb).1, (hf b hb).2⟩
    have I2 := I1.turnedL (h' := h2) (t' := s.toks + 1) (fun b o hb q => by
      have hb : b ≠ e ∧ b ≠ it := by simpa using hb
      rcases Heap.get?_push_cases (show (s.heap.push { cls := .type "tuple", data := .seq #[.int i s.toks, u] }).get? b = some o from q) with ⟨rfl, rfl⟩ | q'
      · exact ht2
      · exact (hs2.2 b hb.1).trans (hk b o hb.1 hb.2 q')) f1
    refine ⟨.ref s.heap.objs.size, _, I2, rfl, ⟨_, x, I.hok.fresh (Nat.le_refl _), rfl, rfl, fun ys hy => by rw [I.list_inj hy hq]; exact hx, fun b o q => (I2.bs b o (I2.ok.mod.kin b o q)).2⟩, ⟨u, ?_, ?_⟩, fun b hb => (f1 b hb).1⟩
    · have : ((i + 1 : Nat) : Int) = (i : Int) + 1 := by push_cast; rfl
      rw [this]; exact he2
    · obtain ⟨o, q, r⟩ := hit
      exact ⟨o, (hs2.2 it (Ne.symm hne)).trans q, r⟩
  done := by
    intro X hP hw hK hc i pins s σ H E I hf st hg
    subst hP hw hK
    obtain ⟨old, st1, st2⟩ := st
    obtain ⟨xs, hq, hx⟩ := hg
    obtain ⟨its, rv, p, hz⟩ := I.list hq
    have hl := rv.length
    exact wpAny_pyNext_enum_end (I.ok.hd hc) st1 st2 p.isList (by simp; omega) fun h' eb => ⟨rfl, I.turnedL (t' := s.toks) (fun b o hb q => eb b o (fun z => hb (by simp [z])) q) hf⟩
  self := fun A i s Q E st h => by
    obtain ⟨old, st1, _⟩ := st
    exact wpAny_pyIter_enum st1 h
section
variable {X : Cx}
end
end L2
namespace L2
open PySem PySem.Spec PyProof.Rows
section
variable {X : Cx}
end
end L2
namespace L2
open PySem PySem.Spec PyProof.Rows
section
variable {prog : Program} {w : World} {A : Around} {E : Value → Shared → Prop} {s : Shared}
theorem nextOf_tuple_item {it t : Addr} {i : Nat} {items} {x : Value} {Q : Value → Shared → Prop} (hit : s.heap.IsTupleIter it t i)
    (hl : s.heap.IsTuple t items) (hx : items[i]? = some x)
    (hQ : ∀ h', h'.IsTupleIter it t (i + 1) → Heap.SameBut it s.heap h' → Q x { s with heap := h' }) :
    wpAny (model prog w) A (Builtin.SmallTypes.nextOf (.ref it)) Q E s := by
  obtain ⟨o, ho, hc, hd⟩ := id hit
  obtain ⟨ol, hol, _, nl, hdl⟩ := hl
  unfold Builtin.SmallTypes.nextOf
  refine wpAny_bind (wpAny_callSpecial?_slot (name := Str.ofString "__next__") hit.typeIs F.slot_tuple_iterator_next
    (wpAny_call_entry F.slot_tuple_iterator_next hit.typeIs F.entry_tuple_iterator_next ?_ (F.args_tuple_iterator_next_1 _)))
  show wpAny _ _ (field (.ref it) 0 >>= _) _ _ s
  refine wpAny_bind (wpAny_field ho hd (x := .ref t) rfl ?_)
  show wpAny _ _ (if (Value.ref t == Value.none) = true then _ else _) _ _ s
  rw [if_neg (show ¬ ((Value.ref t == Value.none) = true) from Bool.false_ne_true)]
  show wpAny _ _ (field (.ref it) 1 >>= _) _ _ s
  refine wpAny_bind (wpAny_field ho hd (x := .int i 0) rfl ?_)
  show wpAny _ _ (seqItems? (.ref t) >>= _) _ _ s
  refine wpAny_bind (wpAny_seqItems hol hdl ?_)
  simp only [Int.toNat_natCast, hx]
  refine wpAny_bind (wpAny_setField ho hd (by simp) (wpAny_pure ⟨x, rfl, wpAny_pure (hQ _ ?_ (Heap.SameBut.update ..))⟩))
  exact ⟨_, Heap.get?_update_self _ ho (Obj.isFreed_of_fields (Obj.data_mapFields hd _)), (Obj.cls_mapFields ..).trans hc, by
    rw [Obj.data_mapFields hd]; simp [rawInt]⟩
theorem nextOf_tuple_end {it t : Addr} {i : Nat} {items} {Q : Value → Shared → Prop} (hh : A.handled = none)
    (hit : s.heap.IsTupleIter it t i) (hl : s.heap.IsTuple t items) (hx : items[i]? = none)
    (hE : ∀ h' e, Heap.ExtBut it s.heap h' → (∃ o, h'.get? e = some o ∧ o.cls = .type "StopIteration") → E (.ref e) { s with heap := h' }) :
    wpAny (model prog w) A (Builtin.SmallTypes.nextOf (.ref it)) Q E s := by
  obtain ⟨o, ho, hc, hd⟩ := id hit
  obtain ⟨ol, hol, _, nl, hdl⟩ := hl
  unfold Builtin.SmallTypes.nextOf
  refine wpAny_bind (wpAny_callSpecial?_slot (name := Str.ofString "__next__") hit.typeIs F.slot_tuple_iterator_next
    (wpAny_call_entry F.slot_tuple_iterator_next hit.typeIs F.entry_tuple_iterator_next ?_ (F.args_tuple_iterator_next_1 _)))
  show wpAny _ _ (field (.ref it) 0 >>= _) _ _ s
  refine wpAny_bind (wpAny_field ho hd (x := .ref t) rfl ?_)
  show wpAny _ _ (if (Value.ref t == Value.none) = true then _ else _) _ _ s
  rw [if_neg (show ¬ ((Value.ref t == Value.none) = true) from Bool.false_ne_true)]
  show wpAny _ _ (field (.ref it) 1 >>= _) _ _ s
  refine wpAny_bind (wpAny_field ho hd (x := .int i 0) rfl ?_)
  show wpAny _ _ (seqItems? (.ref t) >>= _) _ _ s
  refine wpAny_bind (wpAny_seqItems hol hdl ?_)
  simp only [Int.toNat_natCast, hx]
  refine wpAny_bind (wpAny_rule (wpAny_bind (wpAny_setField ho hd (by simp) ?_)))
  show wpAny _ _ (newExc (.type "StopIteration") [] >>= _) _ _ _
  refine wpAny_bind ?_
  simp only [newExc, newTuple]
  refine wpAny_bind (wpAny_newObj_type ?_ (by size_fits))
  refine wpAny_bind (m := firstArgMember _ _) (wpAny_of_eq (a := Value.none) (by first | rfl | (simp only [firstArgMember]; rfl)) ?_)
  refine wpAny_newObj_type ?_ (by size_fits)
  simp only [raiseNew]
  refine wpAny_bind (wpAny_handled ?_)
  first | rw [show A.in1.handled = none from hh] | rw [hh]
  refine wpAny_bind (wpAny_pure (wpAny_throw ?_))
  exact hE _ _ (((Heap.SameBut.update ..).extBut.push _).push _) ⟨_, Heap.get?_push_size _ rfl, rfl⟩
end
theorem draws_tuple {prog : Program} {w : World} {A : Around} (hh : A.handled = none) (it l : Addr) (hne : l ≠ it) (items : Array Value) :
    Draws prog w A it [it, l] items.size (fun i v => items[i]? = some v) (fun i h => h.IsTupleIter it l i ∧ h.IsTuple l items) where
  live := fun _ _ st => let ⟨o, ho, _⟩ := st.1; ⟨o, ho⟩
  frame := fun _ _ _ st hk => ⟨st.1.at fun o e => hk it (by simp) o e, let ⟨o, ho, r⟩ := st.2; ⟨o, hk l (by simp) o ho, r⟩⟩
  item := fun i s Q E hi st hQ => by
    refine nextOf_tuple_item st.1 st.2 (x := items[i]) (by simp [hi]) fun h' hit' hs' => ?_
    exact hQ _ h' s.toks (by simp [hi]) ⟨hit', st.2.extBut hs'.extBut hne⟩ hs'
  done := fun s Q E st hE => nextOf_tuple_end hh st.1 st.2 (by simp) hE
theorem meets_enumerate_newT (l : Addr) (items : Array Value) (n : Nat) (dct : Option Addr) (sl : Array (Option Value)) :
    Meets (Builtin.«enumerate.__new__» ⟨[.type "enumerate", .ref l], []⟩) (fun _ R s => s.heap.get? l = some { cls := .type "tuple", dict := dct, data := .seq items n, slots := sl } ∧
      R (.ok (.ret (.ref (s.heap.push { cls := .type "tuple_iterator", data := .fields #[.ref l, .int 0 0] }).objs.size)))
        { s with heap := (s.heap.push { cls := .type "tuple_iterator", data := .fields #[.ref l, .int 0 0] }).push { cls := .type "enumerate", data := .fields #[.none, .bool false, .ref s.heap.objs.size, rawInt 0, .none, .none] } }) :=
  .of_wp fun prog w A R s h => by
    obtain ⟨hp, g, d, tk, os⟩ := s; obtain ⟨hl, h⟩ := h
    have hsub := sub_enumerate
    have hL : Heap.IsTuple (Shared.heap ⟨hp, g, d, tk, os⟩) l items := ⟨_, hl, rfl, n, rfl⟩
    wp_walk using AutoSeq1.wpAny_loadPart' hl
    refine wpAny_stack_any fun st => wpAny_pure ?_
    split
    · rename_i c _ _ _ _ _
      cases (c == Value.type "enumerate")
      · wp_walk using AutoSeq1.wpAny_loadPart' hl, wpAny_pyIter_tuple hL
        exact ⟨_, rfl, h⟩
      · wp_walk using AutoSeq1.wpAny_loadPart' hl, wpAny_pyIter_tuple hL
        exact ⟨_, rfl, h⟩
    · wp_walk using AutoSeq1.wpAny_loadPart' hl, wpAny_pyIter_tuple hL
      exact ⟨_, rfl, h⟩
theorem call_enumerate_tuple {prog : Program} {w : World} {A : Around} {E : Value → Shared → Prop} {s : Shared} {l : Addr} {items : Array Value} {Q : Value → Shared → Prop} (hL : s.heap.IsTuple l items)
    (h : ∀ h', IsEnum h' (s.heap.objs.size + 1) s.heap.objs.size 0 .none → h'.IsTupleIter s.heap.objs.size l 0 → h'.objs.size = s.heap.objs.size + 2 →
      (∀ b o, s.heap.get? b = some o → h'.get? b = some o) → Q (.ref (s.heap.objs.size + 1)) { s with heap := h' }) :
    wpAny (model prog w) A (call (.type "enumerate") [.ref l]) Q E s := by
  obtain ⟨⟨c, dct, dt, sl⟩, hl, hc, n, hd⟩ := hL
  replace hc : c = .type "tuple" := hc
  replace hd : dt = .seq items n := hd
  subst hc hd
  refine callType_new F.called_enumerate (by decide) (F.typeCall_enumerate_1 _) (F.newCall_enumerate_1 _) (fun obj => F.args_object_init_2 obj _) F.entry_enumerate_new
    (meets_enumerate_newT l items n dct sl) ⟨hl, ?_⟩
  have hz : (s.heap.push { cls := .type "tuple_iterator", data := .fields #[.ref l, .int 0 0] }).objs.size = s.heap.objs.size + 1 := Heap.size_push ..
  show _ ∧ _
  rw [hz]
  have he : IsEnum ((s.heap.push { cls := .type "tuple_iterator", data := .fields #[.ref l, .int 0 0] }).push
      { cls := .type "enumerate", data := .fields #[.none, .bool false, .ref s.heap.objs.size, rawInt 0, .none, .none] }) (s.heap.objs.size + 1) s.heap.objs.size 0 .none := by
    have := Heap.get?_push_size (s.heap.push { cls := .type "tuple_iterator", data := .fields #[.ref l, .int 0 0] })
      (o := { cls := .type "enumerate", data := .fields #[.none, .bool false, .ref s.heap.objs.size, rawInt 0, .none, .none] }) rfl
    rw [hz] at this; exact this
  refine ⟨⟨_, he, rfl⟩, h _ he ⟨_, Heap.get?_push_of_some _ (Heap.get?_push_size _ rfl), rfl, rfl⟩ (by rw [Heap.size_push, hz]) fun b o x => Heap.get?_push_of_some _ (Heap.get?_push_of_some _ x)⟩
noncomputable def Itet (K : PySem.W.Frag) (a : Addr) : It :=
  ⟨fun i H => ∃ xs x, SqT K H a xs ∧ xs[i]? = some x, fun i H v H' => ∃ p x, H p = none ∧ v = .ref p ∧ H' = upd H p (.tup [.int i, x]) ∧ (∀ xs, SqT K H a xs → xs[i]? = some x) ∧ ∀ b o, K.lookup b = some o → H' b = none, fun i H => ∃ xs, SqT K H a xs ∧ xs.length ≤ i⟩
theorem turn_enumT {P : Program} {w : World} {K : PySem.W.Frag} {elts : List Expr} {x1 : Nat} {tpos : Pos} (a e it : Addr) (hne : e ≠ it) : Turn P w K (.Tuple elts x1 tpos) (Itet K a) [e, it] e (fun i h => ∃ old, IsEnum h e it i old ∧ h.IsTupleIter it a i) where
  mem := by simp
  obj := fun i h st b hb => by
    obtain ⟨old, h1, h2⟩ := st
    have hb : b = e ∨ b = it := by simpa using hb
    rcases hb with rfl | rfl
    · exact ⟨_, h1, fun v z => by
        have z' : Data.fields _ = Data.cell v := z
        cases z'⟩
    · obtain ⟨o, e, c, d⟩ := h2
      exact ⟨o, e, fun v z => by rw [d] at z; cases z⟩
  keep := fun i h h' st k => by
    obtain ⟨old, h1, h2⟩ := st
    exact ⟨old, k e (by simp) _ h1, h2.at fun o q => k it (by simp) o q⟩
  item := by
    intro X hP hw hK hc i pins s σ H E I hf st hg
    subst hP hw hK
    obtain ⟨old, st1, st2⟩ := st
    obtain ⟨xs, x, hq, hx⟩ := hg
    obtain ⟨its, rv, p, hz⟩ := I.tuple hq
    obtain ⟨u, hu, ru⟩ := rv.get hx
    have p : s.heap.IsTuple a its.toArray := p
    have nai : a ≠ it := fun z => by
      obtain ⟨o, q, c, _⟩ := id p
      obtain ⟨o', q', c', _⟩ := id st2
      rw [z, q'] at q; cases q
      rw [c] at c'; exact absurd c' (by decide)
    have nea : e ∉ [it, a] := fun z => by
      have z : e = it ∨ e = a := by simpa using z
      rcases z with z | z
      · exact hne z
      · obtain ⟨o, q, c, _⟩ := id p
        rw [← z, st1] at q; cases q
        have c : Value.type "enumerate" = Value.type "tuple" := c
        exact absurd c (by decide)
    have hlt : i < its.toArray.size := by
      have := (List.getElem?_eq_some_iff.mp hu).1
      simpa using this
    refine wpAny_pyNext_enum_itemD (draws_tuple (A := X.A.in1) (I.ok.hd hc) it a nai its.toArray) st1 ⟨st2, p⟩ hlt hne nea fun u' h1 tk hP heo hst ht hsz hk => ?_
    have eu : u' = u := by
      have hu' : its[i]? = some u := hu
      have hP' : its.toArray[i]? = some u' := hP
      rw [List.getElem?_toArray, hu'] at hP'
      exact (Option.some.inj hP').symm
    subst eu
    refine ⟨_, rfl, wpAny_letOwnedTupleGo_enum heo fun h2 he2 hs2 => ?_⟩
    have hs2 : Heap.SameBut e h1 h2 := hs2
    have hel : e < s.heap.objs.size := Heap.lt_size st1
    have ht2 : h2.get? s.heap.objs.size = some { cls := .type "tuple", data := .seq #[.int i tk, u'] } := (hs2.2 _ (Nat.ne_of_gt hel)).trans ht
    have fr : ∀ b ∈ [e, it], b ≠ s.heap.objs.size := fun b hb => by
      have hb : b = e ∨ b = it := by simpa using hb
      rcases hb with rfl | rfl
      · exact Nat.ne_of_lt hel
      · obtain ⟨o, q, _⟩ := st2
        exact Nat.ne_of_lt (Heap.lt_size q)
    have I1 : Inv X pins σ (upd H s.heap.objs.size (.tup [.int i, x])) { s with heap := s.heap.push { cls := .type "tuple", data := .seq #[.int i tk, u'] }, toks := s.toks } := I.laid (t' := s.toks) (o := .tup [.int i, x]) (fun b ob q => Heap.get?_push_of_some _ q) (Nat.le_refl _) ⟨by show 2 ≤ sizeLine; decide, [.int i tk, u'], .cons ⟨_, rfl⟩ (.cons ru .nil), IsTup.new _ _⟩
    have f1 : ∀ b ∈ [e, it], FpOk X pins (upd H s.heap.objs.size (.tup [.int i, x])) b := fun b hb => ⟨by rw [upd_ne (fr b hb)]; exact (hf b hb).1, (hf b hb).2⟩
    have I2 := I1.turnedL (h' := h2) (t' := tk + 1) (fun b o hb q => by
      have hb : b ≠ e ∧ b ≠ it := by simpa using hb
      rcases Heap.get?_push_cases (show (s.heap.push { cls := .type "tuple", data := .seq #[.int i tk, u'] }).get? b = some o from q) with ⟨rfl, rfl⟩ | q'
      · exact ht2
      · exact (hs2.2 b hb.1).trans (hk b o hb.1 hb.2 q')) f1
    refine ⟨.ref s.heap.objs.size, _, I2, rfl, ⟨_, x, I.hok.fresh (Nat.le_refl _), rfl, rfl, fun ys hy => by rw [I.tuple_inj hy hq]; exact hx, fun b o q => (I2.bs b o (I2.ok.mod.kin b o q)).2⟩, ⟨u', ?_, ?_⟩, fun b hb => (f1 b hb).1⟩
    · have : ((i + 1 : Nat) : Int) = (i : Int) + 1 := by push_cast; rfl
      rw [this]; exact he2
    · obtain ⟨o, q, r⟩ := hst.1
      exact ⟨o, (hs2.2 it (Ne.symm hne)).trans q, r⟩
  done := by
    intro X hP hw hK hc i pins s σ H E I hf st hg
    subst hP hw hK
    obtain ⟨old, st1, st2⟩ := st
    obtain ⟨xs, hq, hx⟩ := hg
    obtain ⟨its, rv, p, hz⟩ := I.tuple hq
    have p : s.heap.IsTuple a its.toArray := p
    have hl := rv.length
    have hT : s.TypeIs (.ref e) "enumerate" := ⟨_, st1, rfl⟩
    unfold pyNext
    refine wpAny_bind (wpAny_attempt (wpAny_callSpecial?_slot (name := Str.ofString "__next__") hT F.slot_enumerate_next
      (wpAny_call_entry F.slot_enumerate_next hT F.entry_enumerate_next ?_ (F.args_enumerate_next_1 _))))
    show wpAny _ _ (field (.ref e) 2 >>= _) _ _ _
    refine wpAny_bind (wpAny_field st1 rfl (x := .ref it) rfl ?_)
    refine wpAny_bind (nextOf_tuple_end (A := X.A.in1) (I.ok.hd hc) st2 p (by simp; omega) fun h' x he' hx' => ?_)
    obtain ⟨o, ho, hcc⟩ := hx'
    refine wpAny_bind (wpAny_isInstance (T := "StopIteration") (b := true) ⟨o, ho, hcc⟩ isSubtype_stop ?_)
    exact wpAny_pure ⟨rfl, I.turnedL (t' := s.toks) (fun b o hb q => he' b o (fun z => hb (by simp [z])) q) hf⟩
  self := fun A i s Q E st h => by
    obtain ⟨old, st1, _⟩ := st
    exact wpAny_pyIter_enum st1 h
section
variable {X : Cx}
noncomputable def iEnm2 (K : PySem.W.Frag) (ta : TA) : TI := fun σ H R => ta σ H fun vs H1 => ∃ a, vs = [.ref a] ∧ (((∃ xs, SqL K H1 a xs) ∧ R (Ite K a) H1) ∨ ((∃ xs, SqT K H1 a xs) ∧ R (Itet K a) H1))
theorem pi_enum2 {a : Expr} {ta : TA} {p pos tpos : Pos} {elts : List Expr} {x1 : Nat} (hg : Gl X "enumerate") (hm : X.mg "enumerate" = none) (ha : PA X [a] ta) (hs : starEach [a] X.env = [(false, eval a X.env)] := by rfl) : PI X (.Tuple elts x1 tpos) (.Call (.Name "enumerate" p) [a] [] pos) (iEnm2 X.K ta) := by
  intro pins s σ H R I h
  refine Call_ (ld_blt I hg hm PyProof.Rows.Boot.«enumerate» (PyProof.Rows.callWith_type1 (thn (ha pos pins s σ H _ I h) fun us s1 ⟨vs, H1, I1, r1, q1⟩ => ?_) hs rfl))
  obtain ⟨l, e, q⟩ := q1
  subst e
  cases r1 with
  | cons r rr =>
    cases rr
    cases r
    rcases q with ⟨⟨xs, hq⟩, q⟩ | ⟨⟨xs, hq⟩, q⟩
    · obtain ⟨its, rv, p, hz⟩ := I1.list hq
      refine call_enumerate_list p.isList fun h' he hit hsz hk => ?_
      refine wpAny_pyIter_enum he ?_
      have I2 : Inv X pins σ H1 { s1 with heap := h' } := I1.kept (t' := s1.toks) hk
      refine ⟨s1.heap.objs.size + 1, [s1.heap.objs.size + 1, s1.heap.objs.size], _, _, H1, rfl, I2, turn_enum l _ _ (by show ¬ (s1.heap.objs.size + 1 = s1.heap.objs.size); omega), ⟨_, he, hit⟩, fun b hb => ?_, q⟩
      have hb : b = s1.heap.objs.size + 1 ∨ b = s1.heap.objs.size := by simpa using hb
      rcases hb with rfl | rfl
      · exact I1.fpOk (Nat.le_succ _) (I1.hok.fresh (Nat.le_succ _))
      · exact I1.fpOk (Nat.le_refl _) (I1.hok.fresh (Nat.le_refl _))
    · obtain ⟨its, rv, p, hz⟩ := I1.tuple hq
      have p : s1.heap.IsTuple l its.toArray := p
      refine call_enumerate_tuple p fun h' he hit hsz hk => ?_
      refine wpAny_pyIter_enum he ?_
      have I2 : Inv X pins σ H1 { s1 with heap := h' } := I1.kept (t' := s1.toks) hk
      refine ⟨s1.heap.objs.size + 1, [s1.heap.objs.size + 1, s1.heap.objs.size], _, _, H1, rfl, I2, turn_enumT l _ _ (by show ¬ (s1.heap.objs.size + 1 = s1.heap.objs.size); omega), ⟨_, he, hit⟩, fun b hb => ?_, q⟩
      have hb : b = s1.heap.objs.size + 1 ∨ b = s1.heap.objs.size := by simpa using hb
      rcases hb with rfl | rfl
      · exact I1.fpOk (Nat.le_succ _) (I1.hok.fresh (Nat.le_succ _))
      · exact I1.fpOk (Nat.le_refl _) (I1.hok.fresh (Nat.le_refl _))
end
end L2
namespace L2
open PySem PySem.Spec PyProof.Rows
theorem tuple_mul0 (l : Addr) (n : Nat) (dd : Option Addr) (sl : Array (Option Value)) (x : Int) (u : Tok) (hc0 : ¬(decide (x < -(2 ^ 63)) || decide (x ≥ 2 ^ 63)) = true) :
    Meets (Builtin.«tuple.__mul__» ⟨[.ref l, .int x u], []⟩) (fun _ R s => s.heap.get? l = some { cls := .type "tuple", dict := dd, data := .seq #[] n, slots := sl } ∧ R (.ok (.ret (Value.ref l))) s) :=
  .of_wp fun prog w A R s h => by
    obtain ⟨hp, g, d, tk, os⟩ := s; obtain ⟨hl, h⟩ := h
    have f1 := AutoSeq1.idx_int; have f2 := AutoSeq1.sub_tuple_tuple
    wp_walk using AutoSeq1.wpAny_loadPart' hl
    rw [if_neg hc0]
    wp_walk using AutoSeq1.wpAny_loadPart' hl
    exact ⟨_, rfl, h⟩
section
variable {X : Cx} {a b : Expr} {rest : List Expr} {pos : Pos} {ta tb : TE}
noncomputable def rRep0 (K : PySem.W.Frag) : R2 := fun x y H Q => ∃ a k, x = .ref a ∧ y = .int k ∧ SqT K H a [] ∧ -(2 ^ 63) ≤ k ∧ k < 2 ^ 63 ∧ Q (.ref a) H
theorem op_rep0 : OpR X (binaryOp .Mult) (rRep0 X.K) := by
  intro pins s σ H x y v u Q I rx ry h
  obtain ⟨a, k, rfl, rfl, ha, h1, h2, q⟩ := h
  cases rx
  obtain ⟨t, rfl⟩ := ry
  obtain ⟨its, r, p1, _⟩ := I.tuple ha
  obtain ⟨⟨cls, dd, data, sl⟩, e, hc, n, hd⟩ := id p1
  simp only at hc hd
  subst hc hd
  have hlen : its.length = ([] : List V).length := r.length.symm
  have hne : its = [] := List.eq_nil_of_length_eq_zero (by simpa using hlen)
  subst hne
  refine wpAny_binaryOp_repeat_ref (T := "tuple") (U := "int") (by decide) ⟨_, e, rfl⟩ (fun s' => typeIs_int s' k t) noFill_tuple_mul F.fills_int_mul F.slot_int_rmul repeat_tuple F.slot_int_index.lookup
    (call_meets F.slot_int_rmul (typeIs_int s k t) F.entry_int_rmul (F.args_int_rmul_2 _ _) (int_rmul_tuple k t a #[] n dd sl)
      ⟨e, rfl, ⟨_, e, rfl⟩, call_meets F.slot_tuple_mul ⟨_, e, rfl⟩ F.entry_tuple_mul (F.args_tuple_mul_2 _ _) (tuple_mul0 a n dd sl k t (by simp; omega)) ⟨e, ?_⟩⟩)
  exact ⟨.ref a, H, I, rfl, q⟩
noncomputable def tOrX (K : PySem.W.Frag) (ta tb : TE) : TE := fun σ H Q => ta σ H fun x H1 => ∃ k, TruV K x H1 k ∧ if k = true then Q x H1 else tb σ H1 Q
theorem pe_orX (ha : PE X a ta) (hb : PE X (.BoolOp .Or (b :: rest) pos) tb) : PE X (.BoolOp .Or (a :: b :: rest) pos) (tOrX X.K ta tb) := by
  intro pins s σ H Q I h
  refine BoolOp_or (thn (ha pins s σ H _ I h) fun v s1 ⟨x, H1, I1, r1, q1⟩ => ?_)
  obtain ⟨k, e, q1⟩ := q1
  refine thn (tru_ok pins s1 σ H1 x v (fun c H2 => c = k ∧ H2 = H1) I1 r1 ⟨k, e, rfl, rfl⟩) fun c s2 ⟨H2, I2, hc⟩ => ?_
  obtain ⟨rfl, rfl⟩ := hc
  cases c with
  | false => exact hb pins s2 σ H2 Q I2 q1
  | true => exact ⟨x, H2, I2, r1, q1⟩
noncomputable def rStr (K : PySem.W.Frag) (xs : List V) (H : Hp) (Q : VK) : Prop := ∃ p d, xs = [.ref p] ∧ Dp K H d (.ref p) ∧ d.hasDict = false ∧ d.showable = true ∧ d.depth ≤ 60 ∧ d.shown.length ≤ sizeLine ∧ Q (.str d.shown) H
theorem call_strD (hg : X.A.guards = some []) (hu : X.A.units + 64 < cLine) : CallR X (.type "str") (rStr X.K) := by
  intro pins s σ H xs us Q I r h
  obtain ⟨p, d, rfl, hd, h1, h2, h3, h4, q⟩ := h
  obtain ⟨u, rfl, r1⟩ := vals1 r
  cases r1
  obtain ⟨as, ra⟩ := hd.reads I _ _ _ rfl
  exact str_of_reads ra h2 (fun e => by rw [h1] at e; cases e) hg (by omega) (fun _ _ h => h) (fun h' u tk k => ⟨.str d.shown, H, I.kept k, ⟨_, rfl⟩, q⟩) h4
theorem op_eqS : OpR X (compareOp .Eq) (fun x y H Q => ∃ i j, x = .str i ∧ y = .str j ∧ Q (.bl (i == j)) H) := by
  intro pins s σ H x y v u Q I rx ry h
  obtain ⟨i, j, rfl, rfl, q⟩ := h
  exact op_eq pins s σ H _ _ v u Q I rx ry ⟨rfl, by rw [dec_str]; exact q⟩
theorem op_addB : OpR X (binaryOp .Add) (fun x y H Q => ∃ k j, x = .bl k ∧ y = .int j ∧ Q (.int ((if k then 1 else 0) + j)) H) := by
  intro pins s σ H x y v u Q I rx ry h
  obtain ⟨k, j, rfl, rfl, q⟩ := h
  cases rx
  obtain ⟨t, rfl⟩ := ry
  exact PySem.IntBool.add_bool_int ⟨.int ((if k then 1 else 0) + j), H, I.tok _, ⟨_, rfl⟩, q⟩
end
end L2
namespace Mi
open PySem L2
structure ItK where
  k : Nat
  at' : Nat → List (Option D) → Option (Option D)
  len : List (Option D) → Nat
noncomputable def lstAt (i : Nat) : List (Option D) → Option (Option D)
  | some c :: _ => (lstD c).map fun ds => ds[i]?
  | _ => none
noncomputable def tupAt (i : Nat) : List (Option D) → Option (Option D)
  | some (.tup ds) :: _ => some ds[i]?
  | _ => none
noncomputable def seqLen : List (Option D) → Nat
  | some (.tup ds) :: _ => ds.length
  | some (.lst _ ds) :: _ => ds.length
  | some (.ro ds) :: _ => ds.length
  | _ => 0
noncomputable def kLst : ItK := ⟨1, lstAt, seqLen⟩
noncomputable def kTup : ItK := ⟨1, tupAt, seqLen⟩
noncomputable def kRng (lo : Int) (n : Nat) : ItK := ⟨0, fun i _ => some (if i < n then some (.int (lo + i)) else none), fun _ => n⟩
noncomputable def Stt.popn (s : Stt) (k : Nat) : Stt := { s with tm := s.tm.drop k }
section
variable {X : Cx} {G : Gx} {F : Fy} {e a b c tg iter : Expr} {pos : Pos}
theorem MR.popn {F : Fx} {ρ : Nat → Addr} {H : Hp} {σv tvs tv : List (Option V)} {s : Stt} (M : MR G F ρ H σv (tvs ++ tv) s) : MR G F ρ H σv tv (s.popn tvs.length) := by
  have sub : ∀ l ∈ labsS (s.popn tvs.length), l ∈ labsS s := fun l h => by
    rcases List.mem_append.mp h with h | h
    · exact List.mem_append_left _ h
    · refine List.mem_append_right _ ?_
      have e := labsO_append (s.tm.take tvs.length) (s.tm.drop tvs.length)
      rw [List.take_append_drop] at e
      rw [e]
      exact List.mem_append_right _ h
  exact ⟨M.sl, (Sl.split tvs M.tm).2, M.inj, M.dom, fun l h => M.lab l (sub l h), fun l h => M.own l (sub l h), M.frm, M.kd, M.frb, M.bas⟩
noncomputable def ItOK (G : Gx) (J : It) (K : ItK) (tvs : List (Option V)) : Prop := ∀ (F : Fx) ρ H σv tvp tv s i, MR G F ρ H σv (tvp ++ (tvs ++ tv)) s → match K.at' i (s.tm.drop tvp.length) with
  | none => True
  | some none => J.stop i H
  | some (some d) => J.go i H ∧ ∀ x H', J.yld i H x H' → MRL G F ρ H' σv (tvp ++ (tvs ++ tv)) s [d] [x]
noncomputable def tI (G : Gx) (F : Fy) (m : M ItK) : TI := fun σv H R => ∃ tv, F.tv0 <:+ tv ∧ ∃ ρ s, MR G F.toFx ρ H σv tv s ∧ match m s with
  | .ok K s' => ∀ ρ' H' tvs J, tvs.length = K.k → MR G F.toFx ρ' H' σv (tvs ++ tv) s' → ItOK G J K tvs → R J H'
  | .ex d s' => F.xw d s'
  | .no => False
noncomputable def SI (X : Cx) (G : Gx) (F : Fy) (tg iter : Expr) (m : M ItK) : Prop := PI X tg iter (tI G F m)
theorem PI.imp0 {w w' : TI} (h : PI X tg iter w) (hi : ∀ σ H R, w' σ H R → w σ H R) : PI X tg iter w' := fun pins s σ H R I q => h pins s σ H R I (hi σ H R q)
noncomputable def iSeq (K : PySem.W.Frag) (tl : TE) : TI := fun σ H R => tl σ H fun x H1 => ∃ a, x = .ref a ∧ (((∃ xs, SqL K H1 a xs) ∧ R (Itl K a) H1) ∨ ((∃ xs, SqT K H1 a xs) ∧ R (Itt K a) H1))
theorem pi_seq {l : Expr} {tl : TE} (hl : PE X l tl) : PI X tg l (iSeq X.K tl) := by
  intro pins s σ H R I h
  refine thn (hl pins s σ H _ I h) fun v s1 ⟨x, H1, I1, r1, q1⟩ => ?_
  obtain ⟨a, e, q | q⟩ := q1
  · subst e
    cases r1
    obtain ⟨⟨xs, hq⟩, q⟩ := q
    obtain ⟨its, rv, p, hz⟩ := I1.list hq
    refine wpAny_pyIter_list p.isList ?_
    refine ⟨s1.heap.objs.size, [s1.heap.objs.size], _, _, H1, rfl, I1.kept (t' := s1.toks) fun b o e => Heap.get?_push_of_some _ e, turn_list a _, ⟨_, Heap.get?_push_size _ rfl, rfl, rfl⟩, fun b hb => ?_, q⟩
    have e : b = s1.heap.objs.size := by simpa using hb
    subst e
    exact I1.fpOk (Nat.le_refl _) (I1.hok.fresh (Nat.le_refl _))
  · subst e
    cases r1
    obtain ⟨⟨xs, hq⟩, q⟩ := q
    obtain ⟨its, rv, p, hz⟩ := I1.tuple hq
    refine wpAny_pyIter_tuple (show s1.heap.IsTuple a its.toArray from p) ?_
    refine ⟨s1.heap.objs.size, [s1.heap.objs.size], _, _, H1, rfl, I1.kept (t' := s1.toks) fun b o e => Heap.get?_push_of_some _ e, turn_tuple a _, ⟨_, Heap.get?_push_size _ rfl, rfl, rfl⟩, fun b hb => ?_, q⟩
    have e : b = s1.heap.objs.size := by simpa using hb
    subst e
    exact I1.fpOk (Nat.le_refl _) (I1.hok.fresh (Nat.le_refl _))
noncomputable def mSeqI (m : M D) : M ItK := bd m fun d s => match d with
  | .tup _ => .ok kTup (s.psh d)
  | .lst _ _ => .ok kLst (s.psh d)
  | .ro _ => .ok kLst (s.psh d)
  | _ => .no
theorem SqT.two {K : PySem.W.Frag} {H : Hp} {a : Addr} {xs ys : List V} (k : KD K H) (h : SqT K H a xs) (h' : SqT K H a ys) : xs = ys := by
  rcases h with (h | ⟨o, h⟩) | ⟨o, its, n, h, _, hd, _, r⟩ <;> rcases h' with (h' | ⟨o', h'⟩) | ⟨o', its', n', h', _, hd', _, r'⟩
  · rw [h] at h'; cases h'; rfl
  · rw [h] at h'; cases h'
  · rw [k _ _ h'] at h; cases h
  · rw [h] at h'; cases h'
  · rw [h] at h'; cases h'; rfl
  · rw [k _ _ h'] at h; cases h
  · rw [k _ _ h] at h'; cases h'
  · rw [k _ _ h] at h'; cases h'
  · rw [h] at h'; cases h'; rw [hd] at hd'; cases hd'; exact r.inj r'
theorem SqL.two {K : PySem.W.Frag} {H : Hp} {a : Addr} {xs ys : List V} (k : KD K H) (h : SqL K H a xs) (h' : SqL K H a ys) : xs = ys := by
  rcases h with (h | ⟨o, h⟩) | ⟨o, its, n, h, _, _, hd, _, r⟩ <;> rcases h' with (h' | ⟨o', h'⟩) | ⟨o', its', n', h', _, _, hd', _, r'⟩
  · rw [h] at h'; cases h'; rfl
  · rw [h] at h'; cases h'
  · rw [k _ _ h'] at h; cases h
  · rw [h] at h'; cases h'
  · rw [h] at h'; cases h'; rfl
  · rw [k _ _ h'] at h; cases h
  · rw [k _ _ h] at h'; cases h'
  · rw [k _ _ h] at h'; cases h'
  · rw [h] at h'; cases h'; rw [hd] at hd'; cases hd'; exact r.inj r'
theorem MR.head {F : Fx} {ρ : Nat → Addr} {H : Hp} {σv tv : List (Option V)} {s : Stt} {v : V} {c : D} {r : List (Option D)} (M : MR G F ρ H σv (some v :: tv) s) (e : s.tm = some c :: r) : RD G ρ H c v ∧ LB F ρ s.n (labs c) := by
  obtain ⟨σ, tm, n⟩ := s
  have e : tm = some c :: r := e
  subst e
  exact ⟨MR.top (s := ⟨σ, r, n⟩) M, MR.topl (s := ⟨σ, r, n⟩) M⟩
theorem itok_lst {a : Addr} : ItOK G (Itl G.K a) kLst [some (.ref a)] := by
  intro F ρ H σv tvp tv s i M
  dsimp only [kLst]
  cases e : s.tm.drop tvp.length with
  | nil => trivial
  | cons o r =>
    cases o with
    | none => trivial
    | some c =>
      simp only [lstAt]
      obtain ⟨h, lb⟩ := MR.head (s := s.popn tvp.length) M.popn e
      cases e1 : lstD c with
      | none => trivial
      | some ds =>
        simp only [Option.map_some]
        obtain ⟨a', xs, ea, sq, rr, sub⟩ := h.lstq e1
        cases ea
        cases e2 : ds[i]? with
        | none =>
          refine ⟨xs, sq, ?_⟩
          rw [← rr.length]
          exact List.getElem?_eq_none_iff.mp e2
        | some d =>
          obtain ⟨x, ex, rx⟩ := rr.get i d e2
          refine ⟨⟨xs, x, sq, ex⟩, ?_⟩
          rintro x' H' ⟨rfl, hx⟩
          rw [hx xs sq] at ex
          cases ex
          exact ⟨M, RDs.one rx, fun l hl => lb l (sub l (labsL_mem (List.mem_of_getElem? e2) l (by simpa only [labsL, List.append_nil] using hl)))⟩
theorem itok_tup {a : Addr} : ItOK G (Itt G.K a) kTup [some (.ref a)] := by
  intro F ρ H σv tvp tv s i M
  dsimp only [kTup]
  cases e : s.tm.drop tvp.length with
  | nil => trivial
  | cons o r =>
    cases o with
    | none => trivial
    | some c =>
      obtain ⟨h, lb⟩ := MR.head (s := s.popn tvp.length) M.popn e
      cases c with
      | tup ds =>
        simp only [tupAt]
        obtain ⟨a', xs, ea, sq, rr⟩ := h.tupq
        cases ea
        cases e2 : ds[i]? with
        | none =>
          refine ⟨xs, sq, ?_⟩
          rw [← rr.length]
          exact List.getElem?_eq_none_iff.mp e2
        | some d =>
          obtain ⟨x, ex, rx⟩ := rr.get i d e2
          refine ⟨⟨xs, x, sq, ex⟩, ?_⟩
          rintro x' H' ⟨rfl, hx⟩
          rw [hx xs sq] at ex
          cases ex
          exact ⟨M, RDs.one rx, fun l hl => lb l (by simp only [labs]; exact labsL_mem (List.mem_of_getElem? e2) l (by simpa only [labsL, List.append_nil] using hl))⟩
      | _ => trivial
theorem si_seq {m : M D} (hk : X.K = G.K) (h : SE X G F e m) : SI X G F tg e (mSeqI m) := by
  refine PI.imp0 (pi_seq h) fun σ H R ⟨tv, hs, ρ, s, M, W⟩ => ⟨tv, hs, ρ, s, M, ?_⟩
  unfold mSeqI bd at W
  cases e : m s with
  | ex d s1 => rw [e] at W; exact W
  | no => rw [e] at W; exact W
  | ok t s1 =>
    rw [e] at W
    intro ρ1 v H1 M1
    rw [hk]
    cases t with
    | tup ds =>
      obtain ⟨a, xs, rfl, sq, r⟩ := M1.rd1.tupq
      exact ⟨a, rfl, .inr ⟨⟨xs, sq⟩, W ρ1 H1 [some (.ref a)] _ rfl M1.push itok_tup⟩⟩
    | lst n ds =>
      obtain ⟨a, xs, rfl, sq, r, _⟩ := M1.rd1.lstq (ds := ds) rfl
      exact ⟨a, rfl, .inl ⟨⟨xs, sq⟩, W ρ1 H1 [some (.ref a)] _ rfl M1.push itok_lst⟩⟩
    | ro ds =>
      obtain ⟨a, xs, rfl, sq, r, _⟩ := M1.rd1.lstq (ds := ds) rfl
      exact ⟨a, rfl, .inl ⟨⟨xs, sq⟩, W ρ1 H1 [some (.ref a)] _ rfl M1.push itok_lst⟩⟩
    | _ => exact False.elim W
noncomputable def rng1 (ts : List D) : M ItK := match ts with
  | [.int j] => if -(2 ^ 62) ≤ j ∧ j < 2 ^ 62 then rt (kRng 0 j.toNat) else fl
  | _ => fl
noncomputable def rng2 (ts : List D) : M ItK := match ts with
  | [.int i, .int j] => if -(2 ^ 62) ≤ i ∧ i < 2 ^ 62 ∧ -(2 ^ 62) ≤ j ∧ j < 2 ^ 62 then rt (kRng i (j - i).toNat) else fl
  | _ => fl
noncomputable def mRng1 (ms : List (M D)) : M ItK := bd (mArgs ms) rng1
noncomputable def mRng2 (ms : List (M D)) : M ItK := bd (mArgs ms) rng2
theorem itok_rng {lo : Int} {n : Nat} : ItOK G (Itr lo n) (kRng lo n) [] := by
  intro F ρ H σv tvp tv s i M
  simp only [kRng]
  by_cases h : i < n
  · rw [if_pos h]
    refine ⟨h, ?_⟩
    rintro x H' ⟨rfl, rfl⟩
    exact ⟨M, RDs.one (by simp only [RD]), fun l hl => by simp [labsL, labs] at hl⟩
  · rw [if_neg h]
    exact Nat.not_lt.mp h
theorem si_rng1 {p : Pos} {ms : List (M D)} (hg : Gl X "range") (hm : X.mg "range" = none) (ha : SA X G F [a] (mArgs ms)) (hs : starEach [a] X.env = [(false, eval a X.env)] := by rfl) : SI X G F tg (.Call (.Name "range" p) [a] [] pos) (mRng1 ms) := by
  refine PI.imp0 (pi_range1 hg hm ha hs) fun σ H R ⟨tv, hs, ρ, s, M, W⟩ => ⟨tv, hs, ρ, s, M, ?_⟩
  unfold mRng1 bd at W
  cases e : mArgs ms s with
  | ex d s1 => rw [e] at W; exact W
  | no => rw [e] at W; exact W
  | ok ts s1 =>
    rw [e] at W
    intro ρ1 vs H1 M1
    unfold rng1 at W
    dsimp only at W
    split at W
    · rename_i ts' j K s' hh
      split at hh
      · split at hh
        · rename_i j' hc
          cases hh
          obtain ⟨v, rfl, h, _⟩ := M1.one
          simp only [RD] at h
          subst h
          exact ⟨j', rfl, hc.1, hc.2, W ρ1 H1 [] _ rfl M1.m itok_rng⟩
        · cases hh
      · cases hh
    · rename_i hh
      split at hh
      · split at hh <;> cases hh
      · cases hh
    · exact False.elim W
theorem si_rng2 {p : Pos} {ms : List (M D)} (hg : Gl X "range") (hm : X.mg "range" = none) (ha : SA X G F [a, b] (mArgs ms)) (hs : starEach [a, b] X.env = [(false, eval a X.env), (false, eval b X.env)] := by rfl) (hs2 : starEach [b] X.env = [(false, eval b X.env)] := by rfl) : SI X G F tg (.Call (.Name "range" p) [a, b] [] pos) (mRng2 ms) := by
  refine PI.imp0 (pi_range2 hg hm ha hs hs2) fun σ H R ⟨tv, hs, ρ, s, M, W⟩ => ⟨tv, hs, ρ, s, M, ?_⟩
  unfold mRng2 bd at W
  cases e : mArgs ms s with
  | ex d s1 => rw [e] at W; exact W
  | no => rw [e] at W; exact W
  | ok ts s1 =>
    rw [e] at W
    intro ρ1 vs H1 M1
    unfold rng2 at W
    dsimp only at W
    split at W
    · rename_i ts' j K s' hh
      split at hh
      · split at hh
        · rename_i i' j' hc
          cases hh
          obtain ⟨v, u, rfl, h, h'⟩ := M1.two
          simp only [RD] at h h'
          subst h h'
          exact ⟨i', j', rfl, hc, W ρ1 H1 [] _ rfl M1.m itok_rng⟩
        · cases hh
      · cases hh
    · rename_i hh
      split at hh
      · split at hh <;> cases hh
      · cases hh
    · exact False.elim W
noncomputable def forGo (K : ItK) (g : Tg) (b : MS) : Nat → Nat → MS
  | f, i => fun s => match K.at' i s.tm with
    | none => .no
    | some none => .nx (s.popn K.k)
    | some (some d) => match f with
      | 0 => .no
      | f + 1 => match asg g d s.σ with
        | none => .no
        | some σ' => match b { s with σ := σ' } with
          | .nx s' => forGo K g b f (i + 1) s'
          | .ct s' => forGo K g b f (i + 1) s'
          | .bk s' => .nx (s'.popn K.k)
          | .rt t s' => .rt t (s'.popn K.k)
          | .ex d s' => .ex d s'
          | .no => .no
noncomputable def sFor (mi : M ItK) (g : Tg) (b : MS) : MS := lift mi fun K s => forGo K g b (K.len s.tm) 0 s
theorem MRL.popn {ρ : Nat → Addr} {H : Hp} {σv tvs tv : List (Option V)} {s : Stt} {ts : List D} {vs : List V} (M : MRL G F.toFx ρ H σv (tvs ++ tv) s ts vs) : MRL G F.toFx ρ H σv tv (s.popn tvs.length) ts vs := ⟨M.m.popn, M.rd, M.lb⟩
theorem suf2 {tvs tv : List (Option V)} (h : F.tv0 <:+ tv) : F.tv0 <:+ tvs ++ tv := h.trans (List.suffix_append _ _)
theorem liftI_imp {m : M ItK} {f : ItK → MS} {tv : List (Option V)} {D : Ends} {σ : St} {H : Hp} {R : It → Hp → Prop} (h : tSv G F (lift m f) tv D σ H)
    (k : ∀ K ρ' H' tvs J s', tvs.length = K.k → MR G F.toFx ρ' H' σ (tvs ++ tv) s' → ItOK G J K tvs → wS G F tv (f K s') D → R J H') : tI G F m σ H R := by
  obtain ⟨hs, ρ, s, M, W⟩ := h
  refine ⟨tv, hs, ρ, s, M, ?_⟩
  unfold lift at W
  cases e : m s with
  | ok K s1 => rw [e] at W; exact fun ρ' H' tvs J hl M' hok => k K ρ' H' tvs J s1 hl M' hok W
  | ex d s1 => rw [e] at W; exact W
  | no => rw [e] at W; exact W
theorem ss_for {body : List Stmt} {mi : M ItK} {g : Tg} {mb : MS} (hp : PassesOwn (model X.prog X.w) X.A X.env X.xe) (hc : X.calm = true) (hi : SI X G F tg iter mi) (hg : SG X G F tg g) (hb : SSs X G F body mb) (hst : ∀ x, foldedSetIterable iter X.env x = pure x := by intro _; rfl) : SS X G F (.For tg iter body [] pos) (sFor mi g mb) := by
  refine PS.imp0 (ps_for hp hc hi hg hb hst) fun D σ H ⟨tv, h⟩ => liftI_imp h fun K ρ' H' tvs J s' hl M' hok W => ?_
  have hs := h.1
  refine ⟨fun i m σ H => ∃ ρ s, MR G F.toFx ρ H σ (tvs ++ tv) s ∧ wS G F tv (forGo K g mb m i s) D, ⟨_, ρ', s', M', W⟩, ?_⟩
  rintro i m σ H ⟨ρ, s, M, W⟩
  have ok := hok F.toFx ρ H σ [] tv s i M
  simp only [List.length_nil, List.drop_zero, List.nil_append] at ok
  unfold forGo at W
  cases e : K.at' i s.tm with
  | none => simp only [e] at W; exact False.elim W
  | some o =>
    cases o with
    | none =>
      simp only [e] at W ok
      refine .inl ⟨ok, W ρ σ H ?_⟩
      rw [← hl]
      exact M.popn
    | some d =>
      simp only [e] at W ok
      cases m with
      | zero => exact False.elim W
      | succ f =>
        dsimp only at W
        cases e2 : asg g d s.σ with
        | none => simp only [e2] at W; exact False.elim W
        | some σ' =>
          simp only [e2] at W
          refine .inr ⟨ok.1, fun σ H => ∃ ρ s, MR G F.toFx ρ H σ (tvs ++ tv) s ∧ wS G F tv (forGo K g mb f (i + 1) s) D, fun σ' H' q => ⟨f, Nat.lt_succ_self _, q⟩, fun x H2 y => ?_⟩
          refine ⟨tvs ++ tv, ρ, s, d, ok.2 x H2 y, σ', e2, fun σv' M2 => ⟨tvs ++ tv, suf2 hs, ρ, _, M2, ?_⟩⟩
          cases e3 : mb { s with σ := σ' } with
          | nx s2 => simp only [e3] at W; exact fun ρ3 σ3 H3 M3 => ⟨ρ3, s2, M3, W⟩
          | ct s2 => simp only [e3] at W; exact fun ρ3 σ3 H3 M3 => ⟨ρ3, s2, M3, W⟩
          | bk s2 => simp only [e3] at W; exact fun ρ3 σ3 H3 M3 => W ρ3 σ3 H3 (by rw [← hl]; exact M3.popn)
          | rt t s2 => simp only [e3] at W; exact fun ρ3 σ3 v H3 M3 => W ρ3 σ3 v H3 (by rw [← hl]; exact M3.popn)
          | ex d s2 => simp only [e3] at W; exact W
          | no => simp only [e3] at W; exact W
end
end Mi
namespace Mi
open PySem L2
noncomputable def allSome : List (Option D) → Option (List D)
  | [] => some []
  | some d :: r => (allSome r).map (d :: ·)
  | none :: _ => none
noncomputable def compGo (K : ItK) (g : Tg) (mt : M Bool) (me : M D) (ol : Nat) : Nat → Nat → Nat → M D
  | f, i, k => fun s => match K.at' i (s.tm.drop (k + ol)) with
    | none => .no
    | some none => match allSome (s.tm.take k).reverse with
      | some ds => .ok (.lst s.n ds) { σ := (s.tm.drop k).take ol, tm := s.tm.drop (k + ol + K.k), n := s.n + 1 }
      | none => .no
    | some (some d) => match f with
      | 0 => .no
      | f + 1 => match asg g d s.σ with
        | none => .no
        | some σ' => match mt { s with σ := σ' } with
          | .ok false s1 => compGo K g mt me ol f (i + 1) k s1
          | .ok true s1 => if k < sizeLine then match me s1 with
              | .ok y s2 => compGo K g mt me ol f (i + 1) (k + 1) (s2.psh y)
              | _ => .no
            else .no
          | _ => .no
noncomputable def compIn (own : Nat) (ix : List Nat) (s : Stt) : Stt := { σ := List.replicate own none ++ ix.map (fun i => (s.σ[i]?).getD none), tm := s.σ ++ s.tm, n := s.n }
noncomputable def mComp (mi : M ItK) (g : Tg) (mt : M Bool) (me : M D) (own : Nat) (ix : List Nat) : M D := bd mi fun K s => compGo K g mt me s.σ.length (K.len s.tm) 0 0 (compIn own ix s)
section
variable {X : Cx} {G : Gx} {F : Fy} {e a b c tg iter elt : Expr} {pos : Pos}
noncomputable def Fy.prot (F : Fy) (D : Addr) (ys : List V) (h : F.H0 D = none) : Fy where
  A0 := F.A0
  H0 := upd F.H0 D (.lst ys)
  Z := fun a => a = D ∨ F.Z a
  zA := fun a z => by
    rcases z with rfl | z
    · exact ⟨⟨_, upd_same⟩, fun q => by obtain ⟨o, e⟩ := F.aH _ q; rw [h] at e; cases e⟩
    · obtain ⟨⟨o, e⟩, n⟩ := F.zA a z
      exact ⟨⟨o, by rw [upd_ne (ne_of_none e h)]; exact e⟩, n⟩
  aH := fun a q => by
    obtain ⟨o, e⟩ := F.aH a q
    exact ⟨o, by rw [upd_ne (ne_of_none e h)]; exact e⟩
  n0 := F.n0
  ρ0 := F.ρ0
  tv0 := []
  xw := fun _ _ => False
theorem Sl.none_map {ρ : Nat → Addr} {H : Hp} : ∀ k : Nat, Sl G ρ H (List.replicate k none) (List.replicate k none)
  | 0 => by simp [Sl]
  | k + 1 => by simp only [List.replicate_succ, Sl]; exact ⟨_, _, rfl, Sl.none_map k⟩
theorem Sl.pick {ρ : Nat → Addr} {H : Hp} {σ : List (Option D)} {σv : List (Option V)} (h : Sl G ρ H σ σv) : ∀ ix : List Nat, Sl G ρ H (ix.map fun i => (σ[i]?).getD none) (ix.map fun i => (σv[i]?).getD none)
  | [] => by simp [Sl]
  | i :: ix => by
    simp only [List.map_cons]
    cases e : σ[i]? with
    | none => simp only [Option.getD_none, Sl]; exact ⟨_, _, rfl, Sl.pick h ix⟩
    | some o =>
      cases o with
      | none => simp only [Option.getD_some, Sl]; exact ⟨_, _, rfl, Sl.pick h ix⟩
      | some d =>
        obtain ⟨v, e1, r⟩ := h.get i d e
        simp only [Option.getD_some, Sl, e1]
        exact ⟨_, _, rfl, r, Sl.pick h ix⟩
theorem labs_pick {σ : List (Option D)} {l : Nat} : ∀ {ix : List Nat}, l ∈ labsO (ix.map fun i => (σ[i]?).getD none) → l ∈ labsO σ
  | [], h => by simp [labsO] at h
  | i :: ix, h => by
    simp only [List.map_cons] at h
    cases e : σ[i]? with
    | none => rw [e] at h; simp only [Option.getD_none, labsO] at h; exact labs_pick h
    | some o =>
      rw [e] at h
      cases o with
      | none => simp only [Option.getD_some, labsO] at h; exact labs_pick h
      | some d =>
        simp only [Option.getD_some, labsO] at h
        rcases List.mem_append.mp h with h | h
        · exact labsO_get e l h
        · exact labs_pick h
theorem labs_none {l : Nat} : ∀ k : Nat, ¬ l ∈ labsO (List.replicate k (none : Option D))
  | 0, h => by simp [labsO] at h
  | k + 1, h => by simp only [List.replicate_succ, labsO] at h; exact labs_none k h
theorem MR.enter {ρ : Nat → Addr} {H : Hp} {σv tv : List (Option V)} {s : Stt} {D : Addr} (M : MR G F.toFx ρ H σv tv s) (hD : H D = none) (k : KD G.K (upd H D (.lst []))) (own : Nat) (ix : List Nat) :
    MR G (F.prot D [] (M.fresh0 hD)).toFx ρ (upd H D (.lst [])) (compSt own ix σv) (σv ++ tv) (compIn own ix s) := by
  have sm := Same.new (.lst []) hD
  have M1 := M.same sm k
  have nD : ∀ l, l < s.n → ρ l ≠ D := fun l hl e => by
    obtain ⟨o, q⟩ := M.dom l hl
    rw [e, hD] at q; cases q
  have sub : ∀ l ∈ labsS (compIn own ix s), l ∈ labsS s := fun l h => by
    rcases List.mem_append.mp h with h | h
    · have h : l ∈ labsO (List.replicate own none ++ ix.map (fun i => (s.σ[i]?).getD none)) := h
      rw [labsO_append] at h
      rcases List.mem_append.mp h with h | h
      · exact absurd h (labs_none own)
      · exact List.mem_append_left _ (labs_pick h)
    · have h : l ∈ labsO (s.σ ++ s.tm) := h
      rw [labsO_append] at h
      exact h
  refine ⟨?_, M1.sl.append M1.tm, M1.inj, M1.dom, fun l h => M.lab l (sub l h), fun l h => ?_, fun a o e => ?_, k, fun l hl z => ?_, M.bas⟩
  · exact (Sl.none_map own).append (M1.sl.pick ix)
  · rcases M.own l (sub l h) with q | q
    · exact .inl q
    · refine .inr ?_
      show upd F.H0 D (.lst []) (ρ l) = none
      rw [upd_ne (nD l (M.lab l (sub l h)))]; exact q
  · have e : upd F.H0 D (.lst []) a = some o := e
    by_cases ha : a = D
    · subst ha
      rw [upd_same] at e; cases e
      exact ⟨⟨_, upd_same⟩, fun _ => upd_same⟩
    · rw [upd_ne ha] at e
      exact M1.frm a o e
  · rcases z with z | z
    · exact nD l hl z
    · exact M.frb l hl z
theorem MR.turnD {ρ : Nat → Addr} {H : Hp} {σv tv : List (Option V)} {s : Stt} {D : Addr} {ys ys' : List V} {hf : F.H0 D = none} (M : MR G (F.prot D ys hf).toFx ρ H σv tv s) :
    H D = some (.lst ys) ∧ MR G (F.prot D ys' hf).toFx ρ (upd H D (.lst ys')) σv tv s := by
  have hD : H D = some (.lst ys) := (M.frm D (.lst ys) upd_same).2 ((F.prot D ys hf).zA D (.inl rfl)).2
  have nD : ∀ l, l < s.n → ρ l ≠ D := fun l hl e => M.frb l hl (.inl e)
  have st : Stays H (upd H D (.lst ys')) := ⟨fun b xs e => by rw [upd_ne (ne_of e hD (by intro z; cases z))]; exact e, fun b o u e => by rw [upd_ne (ne_of e hD (by intro z; cases z))]; exact e⟩
  refine ⟨hD, ⟨Sl.stay st M.sl fun l hl => ⟨rfl, fun o e => ?_⟩, Sl.stay st M.tm fun l hl => ⟨rfl, fun o e => ?_⟩, M.inj, fun l hl => ?_, M.lab, fun l h => ?_, fun a o e => ?_, fun a o e => ?_, fun l hl => M.frb l hl, M.bas⟩⟩
  · rw [upd_ne (nD l (M.lab l (List.mem_append_left _ hl)))]; exact e
  · rw [upd_ne (nD l (M.lab l (List.mem_append_right _ hl)))]; exact e
  · rw [upd_ne (nD l hl)]; exact M.dom l hl
  · rcases M.own l h with q | q
    · exact .inl q
    · refine .inr ?_
      have q : upd F.H0 D (.lst ys) (ρ l) = none := q
      show upd F.H0 D (.lst ys') (ρ l) = none
      rw [upd_ne (nD l (M.lab l h))] at q ⊢; exact q
  · have e : upd F.H0 D (.lst ys') a = some o := e
    by_cases ha : a = D
    · subst ha
      rw [upd_same] at e; cases e
      exact ⟨⟨_, upd_same⟩, fun _ => upd_same⟩
    · rw [upd_ne ha] at e ⊢
      exact M.frm a o (by show upd F.H0 D (.lst ys) a = some o; rw [upd_ne ha]; exact e)
  · by_cases ha : a = D
    · subst ha
      rw [M.kd a o e] at hD; cases hD
    · rw [upd_ne ha]; exact M.kd a o e
theorem Sl.all {ρ : Nat → Addr} {H : Hp} : ∀ {tm : List (Option D)} {ys : List V} {ds : List D}, Sl G ρ H tm (ys.map some) → allSome tm = some ds → RDs G ρ H ds ys ∧ labsL ds = labsO tm
  | [], ys, ds, h, e => by
    simp only [Sl] at h
    simp only [allSome, Option.some.injEq] at e
    subst e
    have : ys = [] := by simpa using h
    subst this
    simp [RDs, labsL, labsO]
  | none :: r, ys, ds, h, e => by simp only [allSome] at e; cases e
  | some d :: r, ys, ds, h, e => by
    simp only [Sl] at h
    obtain ⟨v, q, e1, h1, h2⟩ := h
    cases ys with
    | nil => cases e1
    | cons y ys =>
      simp only [List.map_cons, List.cons.injEq, Option.some.injEq] at e1
      obtain ⟨rfl, rfl⟩ := e1
      simp only [allSome] at e
      cases e2 : allSome r with
      | none => rw [e2] at e; cases e
      | some es =>
        rw [e2] at e
        cases e
        obtain ⟨r1, r2⟩ := Sl.all h2 e2
        refine ⟨?_, by simp only [labsL, labsO, r2]⟩
        simp only [RDs]
        exact ⟨_, _, rfl, h1, r1⟩
theorem Sl.reverse {ρ : Nat → Addr} {H : Hp} : ∀ {tm : List (Option D)} {ys : List (Option V)}, Sl G ρ H tm ys → Sl G ρ H tm.reverse ys.reverse
  | [], ys, h => by simp only [Sl] at h; subst h; simp [Sl]
  | none :: r, ys, h => by
    simp only [Sl] at h
    obtain ⟨o, q, rfl, h⟩ := h
    rw [List.reverse_cons, List.reverse_cons]
    exact (Sl.reverse h).append (by simp only [Sl]; exact ⟨_, _, rfl, rfl⟩)
  | some d :: r, ys, h => by
    simp only [Sl] at h
    obtain ⟨o, q, rfl, h1, h⟩ := h
    rw [List.reverse_cons, List.reverse_cons]
    exact (Sl.reverse h).append (by simp only [Sl]; exact ⟨_, _, rfl, h1, rfl⟩)
theorem labsO_rev {l : Nat} : ∀ {tm : List (Option D)}, l ∈ labsO tm.reverse ↔ l ∈ labsO tm
  | [] => by simp
  | none :: r => by
    rw [List.reverse_cons, labsO_append]
    simp only [labsO, List.append_nil]
    exact labsO_rev
  | some d :: r => by
    rw [List.reverse_cons, labsO_append]
    simp only [labsO, List.append_nil, List.mem_append]
    rw [labsO_rev]
    exact Or.comm
theorem MR.leave {ρ : Nat → Addr} {H : Hp} {σi σv tvs tv : List (Option V)} {s : Stt} {A1 : Addr} {ys : List V} {hf : F.H0 A1 = none} {ds : List D} {kk : Nat}
    (M : MR G (F.prot A1 ys hf).toFx ρ H σi ((ys.reverse.map some) ++ (σv ++ (tvs ++ tv))) s) (hk : tvs.length = kk) (ol : Nat) (ho : σv.length = ol) (e : allSome (s.tm.take ys.length).reverse = some ds) :
    MRL G F.toFx (ext ρ s.n A1) H σv tv { σ := (s.tm.drop ys.length).take ol, tm := s.tm.drop (ys.length + ol + kk), n := s.n + 1 } [.lst s.n ds] [.ref A1] := by
  subst hk ho
  have hD := (MR.turnD (ys' := ys) M).1
  have nD : ∀ l, l < s.n → ρ l ≠ A1 := fun l hl e => M.frb l hl (.inl e)
  have t0 := Sl.split (ys.reverse.map some) M.tm
  simp only [List.length_map, List.length_reverse] at t0
  obtain ⟨t1, t2⟩ := t0
  obtain ⟨t3, t4⟩ := Sl.split σv t2
  obtain ⟨_, t6⟩ := Sl.split tvs t4
  rw [List.drop_drop] at t4
  rw [List.drop_drop, List.drop_drop] at t6
  have t6' : Sl G ρ H (s.tm.drop (ys.length + σv.length + tvs.length)) tv := by rw [Nat.add_assoc]; exact t6
  have t1' := t1.reverse
  rw [← List.map_reverse, List.reverse_reverse] at t1'
  obtain ⟨r1, r2⟩ := Sl.all t1' e
  have lt : ∀ l, l ∈ labsO (s.tm.take ys.length) → l ∈ labsS s := fun l h => List.mem_append_right _ (by
    have e := labsO_append (s.tm.take ys.length) (s.tm.drop ys.length)
    rw [List.take_append_drop] at e
    rw [e]; exact List.mem_append_left _ h)
  have ld : ∀ l k, l ∈ labsO (s.tm.drop k) → l ∈ labsS s := fun l k h => List.mem_append_right _ (by
    have e := labsO_append (s.tm.take k) (s.tm.drop k)
    rw [List.take_append_drop] at e
    rw [e]; exact List.mem_append_right _ h)
  have ldt : ∀ l k j, l ∈ labsO ((s.tm.drop k).take j) → l ∈ labsS s := fun l k j h => ld l k (by
    have e := labsO_append ((s.tm.drop k).take j) ((s.tm.drop k).drop j)
    rw [List.take_append_drop] at e
    rw [e]; exact List.mem_append_left _ h)
  have own : ∀ l ∈ labsS s, F.A0 (ρ l) ∨ F.H0 (ρ l) = none := fun l h => by
    rcases M.own l h with q | q
    · exact .inl q
    · refine .inr ?_
      have q : upd F.H0 A1 (.lst ys) (ρ l) = none := q
      rw [upd_ne (nD l (M.lab l h))] at q; exact q
  have st := Stays.refl H
  have stay : ∀ l, l < s.n → ext ρ s.n A1 l = ρ l ∧ ∀ o, H (ρ l) = some o → H (ρ l) = some o := fun l hl => ⟨ext_old hl, fun o e => e⟩
  have all : ∀ l ∈ labsS { σ := (s.tm.drop ys.length).take σv.length, tm := s.tm.drop (ys.length + σv.length + tvs.length), n := s.n + 1 }, l ∈ labsS s := fun l h => by
    rcases List.mem_append.mp h with h | h
    · exact ldt l _ _ h
    · exact ld l _ h
  have dsl : ∀ l ∈ labsL ds, l ∈ labsS s := fun l h => lt l (by rw [r2] at h; exact labsO_rev.mp h)
  refine ⟨⟨Sl.stay st t3 fun l hl => stay l (M.lab l (ldt l _ _ hl)), Sl.stay st t6' fun l hl => stay l (M.lab l (ld l _ hl)), fun i j hi hj eq => ?_, fun l hl => ?_, fun l h => Nat.lt_succ_of_lt (M.lab l (all l h)), fun l h => ?_, fun a o e => ?_, M.kd, fun l hl z => ?_, ⟨Nat.le_succ_of_le M.bas.1, fun l hl => by rw [ext_old (Nat.lt_of_lt_of_le hl M.bas.1)]; exact M.bas.2 l hl⟩⟩, ?_, fun l h => ?_⟩
  · have hi : i < s.n + 1 := hi
    have hj : j < s.n + 1 := hj
    by_cases h1 : i = s.n
    · by_cases h2 : j = s.n
      · omega
      · rw [h1, ext_new, ext_old (by omega)] at eq
        exact absurd eq.symm (nD j (by omega))
    · by_cases h2 : j = s.n
      · rw [h2, ext_new, ext_old (by omega)] at eq
        exact absurd eq (nD i (by omega))
      · rw [ext_old (by omega), ext_old (by omega)] at eq
        exact M.inj i j (by omega) (by omega) eq
  · have hl : l < s.n + 1 := hl
    by_cases h1 : l = s.n
    · subst h1; rw [ext_new]; exact ⟨_, hD⟩
    · rw [ext_old (by omega)]; exact M.dom l (by omega)
  · rw [ext_old (M.lab l (all l h))]; exact own l (all l h)
  · exact M.frm a o (by show upd F.H0 A1 (.lst ys) a = some o; rw [upd_ne (ne_of_none e hf)]; exact e)
  · have hl : l < s.n + 1 := hl
    by_cases h1 : l = s.n
    · subst h1; rw [ext_new] at z
      obtain ⟨⟨o, e⟩, _⟩ := F.zA A1 z
      rw [hf] at e; cases e
    · rw [ext_old (by omega)] at z
      exact M.frb l (by omega) (.inr z)
  · refine RDs.one ?_
    simp only [RD]
    rw [ext_new]
    exact ⟨rfl, ys, hD, RDs.stay st ds ys r1 fun l hl => stay l (M.lab l (dsl l hl))⟩
  · simp only [labsL, labs, List.append_nil] at h
    rcases List.mem_cons.mp h with q | q
    · rw [q, ext_new]; exact ⟨Nat.lt_succ_self _, .inr hf⟩
    · have q2 := dsl l q
      exact ⟨Nat.lt_succ_of_lt (M.lab l q2), by rw [ext_old (M.lab l q2)]; exact own l q2⟩
noncomputable def tMx (G : Gx) (m : M D) : TE := fun σ H Q => ∃ F : Fy, tM G F m σ H Q
noncomputable def tBx (G : Gx) (m : M Bool) : TT := fun σ H Q => ∃ F : Fy, tMB G F m σ H Q
noncomputable def tGx (G : Gx) (g : Tg) : TG := fun v σ H Q => ∃ F : Fy, tGn G F g v σ H Q
noncomputable def STs (X : Cx) (G : Gx) (F : Fy) (ifs : List Expr) (m : M Bool) : Prop := PTs X ifs (tMB G F m)
theorem sts_nil : STs X G F [] (rt true) := fun pins s σ H Q I ⟨tv, hs, ρ, ms, M, W⟩ => pts_nil pins s σ H Q I (W ρ H M)
theorem sts_one {m : M Bool} (h : SB X G F c m) : STs X G F [c] m := pts_one h
theorem comp_imp {K : PySem.W.Frag} {k : Nat} {ix : List Nat} {mi : M ItK} {g : Tg} {mt : M Bool} {me : M D} {σ : St} {H : Hp} {Q : VK} (hk : K = G.K) (h : tM G F (mComp mi g mt me k ix) σ H Q) : tComp2 K (tI G F mi) (tGx G g) (tBx G mt) (tMx G me) k ix σ H Q := by
  obtain ⟨tv, hsf, ρ, s, M, W⟩ := h
  refine ⟨tv, hsf, ρ, s, M, ?_⟩
  unfold mComp bd at W
  cases em : mi s with
  | ex d s1 => rw [em] at W; exact W
  | no => rw [em] at W; exact W
  | ok K s1 =>
    rw [em] at W
    intro ρ1 H1 tvs J hl M1 hok A1 hA1 kd
    subst hk
    have kd : KD G.K (upd H1 A1 (.lst [])) := kd
    have hf := M1.fresh0 hA1
    refine ⟨fun i m ys σ' H' => ∃ ρ s, MR G (F.prot A1 ys hf).toFx ρ H' σ' ((ys.reverse.map some) ++ (σ ++ (tvs ++ tv))) s ∧ wM G F σ tv (compGo K g mt me s1.σ.length m i ys.length s) Q, ⟨_, ρ1, _, M1.enter hA1 kd k ix, W⟩, ?_⟩
    rintro i m ys σ' H' ⟨ρ2, s2, M2, W2⟩
    have hD := (MR.turnD (ys' := ys) M2).1
    refine ⟨hD, ?_⟩
    have ol : s1.σ.length = σ.length := M1.sl.length
    have ok := hok (F.prot A1 ys hf).toFx ρ2 H' σ' ((ys.reverse.map some) ++ σ) tv s2 i (by rw [List.append_assoc]; exact M2)
    simp only [List.length_append, List.length_map, List.length_reverse, ← ol, List.append_assoc] at ok
    unfold compGo at W2
    cases e : K.at' i (s2.tm.drop (ys.length + s1.σ.length)) with
    | none => simp only [e] at W2; exact False.elim W2
    | some o =>
      rw [e] at ok
      cases o with
      | none =>
        simp only [e] at W2 ok
        refine .inl ⟨ok, ?_⟩
        cases ea : allSome (s2.tm.take ys.length).reverse with
        | none => simp only [ea] at W2; exact False.elim W2
        | some ds =>
          simp only [ea] at W2
          exact W2 _ _ _ (MR.leave M2 hl _ ol.symm ea)
      | some d =>
        simp only [e] at W2 ok
        cases m with
        | zero => exact False.elim W2
        | succ f =>
          dsimp only at W2
          cases e2 : asg g d s2.σ with
          | none => simp only [e2] at W2; exact False.elim W2
          | some σ3 =>
            simp only [e2] at W2
            refine .inr ⟨ok.1, fun x H2 y => ?_⟩
            have hx := ok.2 x H2 y
            refine ⟨F.prot A1 ys hf, _, ρ2, s2, d, hx, σ3, e2, fun σv' M3 => ⟨F.prot A1 ys hf, _, List.nil_suffix, ρ2, _, M3, ?_⟩⟩
            cases e3 : mt { s2 with σ := σ3 } with
            | ex d s4 => simp only [e3] at W2; exact False.elim W2
            | no => simp only [e3] at W2; exact False.elim W2
            | ok b s4 =>
              intro ρ4 H4 M4
              cases b with
              | false =>
                simp only [e3] at W2
                rw [if_neg Bool.false_ne_true]
                exact ⟨f, Nat.lt_succ_self _, ρ4, s4, M4, W2⟩
              | true =>
                simp only [e3] at W2
                rw [if_pos rfl]
                by_cases hz : ys.length < sizeLine
                · rw [if_pos hz] at W2
                  refine ⟨F.prot A1 ys hf, _, List.nil_suffix, ρ4, s4, M4, ?_⟩
                  cases e5 : me s4 with
                  | ex d s5 => simp only [e5] at W2; exact False.elim W2
                  | no => simp only [e5] at W2; exact False.elim W2
                  | ok y s5 =>
                    simp only [e5] at W2
                    intro ρ5 v H5 M5
                    obtain ⟨hD5, M6⟩ := MR.turnD (ys' := ys ++ [v]) M5.push
                    refine ⟨hD5, hz, f, Nat.lt_succ_self _, ρ5, s5.psh y, ?_, ?_⟩
                    · rw [List.reverse_append, List.reverse_cons, List.reverse_nil, List.nil_append, List.map_append]
                      exact M6
                    · rw [List.length_append]; exact W2
                · rw [if_neg hz] at W2; exact False.elim W2
theorem se_comp {scope : Scope} {own frees : List Str} {ix : List Nat} {ifs : List Expr} {mi : M ItK} {g : Tg} {mt : M Bool} {me : M D} (hk : X.K = G.K) (hc : X.calm = true) (S : CompScope X.env.scope scope own frees X.N ix) (hi : SI X G F tg iter mi)
    (hg : ∀ (F : Fy) cl C s₀ H₀ fp pn, SG (compCx X scope own frees cl C s₀ H₀ fp pn) G F tg g) (ht : ∀ (F : Fy) cl C s₀ H₀ fp pn, STs (compCx X scope own frees cl C s₀ H₀ fp pn) G F ifs mt) (he : ∀ (F : Fy) cl C s₀ H₀ fp pn, SE (compCx X scope own frees cl C s₀ H₀ fp pn) G F elt me)
    (hs : ∀ x, foldedSetIterable iter X.env x = pure x := by intro _; rfl) : SE X G F (.ListComp elt [⟨tg, iter, ifs, 0⟩] scope pos) (mComp mi g mt me own.length ix) :=
  PE.imp0 (pe_lcomp2 (g := tGx G g) (tt := tBx G mt) (te := tMx G me) hc S hi (fun cl C s₀ H₀ fp pn pins s σ H v u Q I r ⟨F', q⟩ => hg F' cl C s₀ H₀ fp pn pins s σ H v u Q I r q)
    (fun cl C s₀ H₀ fp pn pins s σ H Q I ⟨F', q⟩ => ht F' cl C s₀ H₀ fp pn pins s σ H Q I q) (fun cl C s₀ H₀ fp pn pins s σ H Q I ⟨F', q⟩ => he F' cl C s₀ H₀ fp pn pins s σ H Q I q) hs) fun σ H Q h => comp_imp hk h
theorem ss_comp {y : Str} {py spos : Pos} {i : Nat} {scope : Scope} {own frees : List Str} {ix : List Nat} {ifs : List Expr} {mi : M ItK} {g : Tg} {mt : M Bool} {me : M D} (hk : X.K = G.K) (hN : X.N.Nodup) (hy : X.N[i]? = some y) (hx : Loc X.env.scope y) (hfn : X.fn y = true ∨ X.env.scope.names.lookup y = some .local) (hsw : swapsWith (.ListComp elt [⟨tg, iter, ifs, 0⟩] scope pos) (some (.Name y py)) spos.line X.env = pure true)
    (hc : X.calm = true) (S : CompScope X.env.scope scope own frees X.N ix) (hi : SI X G F tg iter mi)
    (hg : ∀ (F : Fy) cl C s₀ H₀ fp pn, SG (compCx X scope own frees cl C s₀ H₀ fp pn) G F tg g) (ht : ∀ (F : Fy) cl C s₀ H₀ fp pn, STs (compCx X scope own frees cl C s₀ H₀ fp pn) G F ifs mt) (he : ∀ (F : Fy) cl C s₀ H₀ fp pn, SE (compCx X scope own frees cl C s₀ H₀ fp pn) G F elt me)
    (hs : ∀ x, foldedSetIterable iter X.env x = pure x := by intro _; rfl) : SS X G F (.Assign [.Name y py] (.ListComp elt [⟨tg, iter, ifs, 0⟩] scope pos) spos) (sAsg (.nm i) (mComp mi g mt me own.length ix)) := by
  refine PS.imp0 (ps_lcompN (i := i) (g := tGx G g) (tt := tBx G mt) (te := tMx G me) hN hy hx hfn hsw hc S hi (fun cl C s₀ H₀ fp pn pins s σ H v u Q I r ⟨F', q⟩ => hg F' cl C s₀ H₀ fp pn pins s σ H v u Q I r q)
    (fun cl C s₀ H₀ fp pn pins s σ H Q I ⟨F', q⟩ => ht F' cl C s₀ H₀ fp pn pins s σ H Q I q) (fun cl C s₀ H₀ fp pn pins s σ H Q I ⟨F', q⟩ => he F' cl C s₀ H₀ fp pn pins s σ H Q I q) hs) fun Dd σ H ⟨tv, h⟩ => ?_
  refine comp_imp hk ⟨tv, (lift_imp h).mono fun v H1 ⟨ρ1, s1, t, M1, W⟩ => ?_⟩
  simp only [asg] at W
  exact W ρ1 _ H1 (M1.setS i).m
end
end Mi
namespace Mi
open PySem L2
mutual
noncomputable def findT (l : Nat) : D → Option D
  | .tup ds => findL l ds
  | .ro ds => findL l ds
  | .lst k ds => if k = l then some (.lst k ds) else findL l ds
  | .dct k ks vs => if k = l then some (.dct k ks vs) else findL l vs
  | .obj k c ns vs => if k = l then some (.obj k c ns vs) else findL l vs
  | .non => none | .bool _ => none | .int _ => none | .str _ => none
noncomputable def findL (l : Nat) : List D → Option D
  | [] => none
  | d :: ds => match findT l d with
    | some x => some x
    | none => findL l ds
end
section
variable {G : Gx} {ρ : Nat → Addr} {H : Hp}
mutual
theorem findT_rd (l : Nat) : ∀ (t : D) (v : V) (d : D), RD G ρ H t v → findT l t = some d → RD G ρ H d (.ref (ρ l)) ∧ ∀ k ∈ labs d, k ∈ labs t
  | .non, v, d, h, e => by simp only [findT] at e; cases e
  | .bool b, v, d, h, e => by simp only [findT] at e; cases e
  | .int b, v, d, h, e => by simp only [findT] at e; cases e
  | .str b, v, d, h, e => by simp only [findT] at e; cases e
  | .tup ds, v, d, h, e => by
    simp only [findT, RD, labs] at h e ⊢
    obtain ⟨a, xs, _, _, r⟩ := h
    exact findL_rd l ds xs d r e
  | .ro ds, v, d, h, e => by
    simp only [findT, RD, labs] at h e ⊢
    obtain ⟨a, xs, _, _, r⟩ := h
    exact findL_rd l ds xs d r e
  | .lst k ds, v, d, h, e => by
    simp only [findT] at e
    by_cases hk : k = l
    · rw [if_pos hk] at e; cases e
      subst hk
      have h' := h
      simp only [RD] at h'
      obtain ⟨rfl, _⟩ := h'
      exact ⟨h, fun _ q => q⟩
    · rw [if_neg hk] at e
      simp only [RD] at h
      obtain ⟨_, xs, _, r⟩ := h
      obtain ⟨q1, q2⟩ := findL_rd l ds xs d r e
      exact ⟨q1, fun j hj => by simp only [labs]; exact List.mem_cons_of_mem _ (q2 j hj)⟩
  | .dct k ks vs, v, d, h, e => by
    simp only [findT] at e
    by_cases hk : k = l
    · rw [if_pos hk] at e; cases e
      subst hk
      have h' := h
      simp only [RD] at h'
      obtain ⟨rfl, _⟩ := h'
      exact ⟨h, fun _ q => q⟩
    · rw [if_neg hk] at e
      simp only [RD] at h
      obtain ⟨_, ⟨kvs, _, _, r⟩ | ⟨kvs, _, _, r⟩⟩ := h
      · obtain ⟨q1, q2⟩ := findL_rd l vs _ d r e
        exact ⟨q1, fun j hj => by simp only [labs]; exact List.mem_cons_of_mem _ (List.mem_append_right _ (q2 j hj))⟩
      · obtain ⟨q1, q2⟩ := findL_rd l vs _ d r e
        exact ⟨q1, fun j hj => by simp only [labs]; exact List.mem_cons_of_mem _ (List.mem_append_right _ (q2 j hj))⟩
  | .obj k c ns vs, v, d, h, e => by
    simp only [findT] at e
    by_cases hk : k = l
    · rw [if_pos hk] at e; cases e
      subst hk
      have h' := h
      simp only [RD] at h'
      obtain ⟨rfl, _⟩ := h'
      exact ⟨h, fun _ q => q⟩
    · rw [if_neg hk] at e
      simp only [RD] at h
      obtain ⟨_, C, dx, fs, _, _, _, r⟩ := h
      obtain ⟨q1, q2⟩ := findL_rd l vs _ d r e
      exact ⟨q1, fun j hj => by simp only [labs]; exact List.mem_cons_of_mem _ (q2 j hj)⟩
theorem findL_rd (l : Nat) : ∀ (t : List D) (v : List V) (d : D), RDs G ρ H t v → findL l t = some d → RD G ρ H d (.ref (ρ l)) ∧ ∀ k ∈ labs d, k ∈ labsL t
  | [], v, d, h, e => by simp only [findL] at e; cases e
  | t :: ts, v, d, h, e => by
    simp only [findL, RDs, labsL] at h e ⊢
    obtain ⟨x, r, _, h1, h2⟩ := h
    cases e1 : findT l t with
    | some y =>
      rw [e1] at e; cases e
      obtain ⟨q1, q2⟩ := findT_rd l t x _ h1 e1
      exact ⟨q1, fun j hj => List.mem_append_left _ (q2 j hj)⟩
    | none =>
      rw [e1] at e
      obtain ⟨q1, q2⟩ := findL_rd l ts r d h2 e
      exact ⟨q1, fun j hj => List.mem_append_right _ (q2 j hj)⟩
end
theorem roL_two {K : PySem.W.Frag} {a : Addr} {xs ys : List V} (k : KD K H) (h : RoL K H a xs) (h' : RoL K H a ys) : xs = ys := SqL.two k h.sq h'.sq
noncomputable def kindAt (K : PySem.W.Frag) (H : Hp) (a : Addr) : Nat → Prop
  | 0 => ∃ xs, SqT K H a xs
  | 1 => ∃ xs, RoL K H a xs
  | 2 => ∃ xs, H a = some (.lst xs)
  | 3 => (∃ kvs, H a = some (.dK kvs)) ∨ ∃ kvs, H a = some (.dT kvs)
  | _ => ∃ C dx fs, H a = some (.ins C dx fs)
theorem kind_one {K : PySem.W.Frag} {a : Addr} (k : KD K H) : ∀ {i j : Nat}, kindAt K H a i → kindAt K H a j → i ≤ 4 → j ≤ 4 → i = j := by
  have kt : ∀ {o}, H a = some o → K.lookup a = none := fun {o} e => by
    cases q : K.lookup a with
    | none => rfl
    | some u => rw [k _ _ q] at e; cases e
  intro i j hi hj li lj
  have T : ∀ {xs : List V}, SqT K H a xs → (∃ o, H a = some o ∧ ((∃ xs, o = .tup xs) ∨ ∃ u xs, o = .frz u (.tup xs))) ∨ (H a = none ∧ ∃ o, K.lookup a = some o ∧ o.cls = .type "tuple") := fun {xs} h => by
    rcases h with (h | ⟨o, h⟩) | ⟨o, its, n, h, hc, _⟩
    · exact .inl ⟨_, h, .inl ⟨_, rfl⟩⟩
    · exact .inl ⟨_, h, .inr ⟨_, _, rfl⟩⟩
    · exact .inr ⟨k _ _ h, o, h, hc⟩
  have R : ∀ {xs : List V}, RoL K H a xs → (∃ u xs, H a = some (.frz u (.lst xs))) ∨ (H a = none ∧ ∃ o, K.lookup a = some o ∧ o.cls = .type "list") := fun {xs} h => by
    rcases h with ⟨o, h⟩ | ⟨o, its, n, h, hc, _⟩
    · exact .inl ⟨_, _, h⟩
    · exact .inr ⟨k _ _ h, o, h, hc⟩
  have tl : ¬ ((.type "tuple" : Value) = .type "list") := by intro h; injection h with h; exact absurd h (by decide)
  match i, j, hi, hj, li, lj with
  | 0, 0, _, _, _, _ => rfl
  | 1, 1, _, _, _, _ => rfl
  | 2, 2, _, _, _, _ => rfl
  | 3, 3, _, _, _, _ => rfl
  | 4, 4, _, _, _, _ => rfl
  | 0, 1, ⟨_, h⟩, ⟨_, h'⟩, _, _ =>
    rcases T h with ⟨o, e, q⟩ | ⟨e, o, l, c⟩ <;> rcases R h' with ⟨u, xs, e'⟩ | ⟨e', o', l', c'⟩
    · rw [e] at e'; cases e'; rcases q with ⟨_, q⟩ | ⟨_, _, q⟩ <;> cases q
    · rw [e] at e'; cases e'
    · rw [e] at e'; cases e'
    · rw [l] at l'; cases l'; rw [c] at c'; exact absurd c' tl
  | 1, 0, ⟨_, h'⟩, ⟨_, h⟩, _, _ =>
    rcases T h with ⟨o, e, q⟩ | ⟨e, o, l, c⟩ <;> rcases R h' with ⟨u, xs, e'⟩ | ⟨e', o', l', c'⟩
    · rw [e] at e'; cases e'; rcases q with ⟨_, q⟩ | ⟨_, _, q⟩ <;> cases q
    · rw [e] at e'; cases e'
    · rw [e] at e'; cases e'
    · rw [l] at l'; cases l'; rw [c] at c'; exact absurd c' tl
  | 0, 2, ⟨_, h⟩, ⟨_, e'⟩, _, _ =>
    rcases T h with ⟨o, e, q⟩ | ⟨e, o, l, c⟩
    · rw [e] at e'; cases e'; rcases q with ⟨_, q⟩ | ⟨_, _, q⟩ <;> cases q
    · rw [e] at e'; cases e'
  | 2, 0, ⟨_, e'⟩, ⟨_, h⟩, _, _ =>
    rcases T h with ⟨o, e, q⟩ | ⟨e, o, l, c⟩
    · rw [e] at e'; cases e'; rcases q with ⟨_, q⟩ | ⟨_, _, q⟩ <;> cases q
    · rw [e] at e'; cases e'
  | 0, 3, ⟨_, h⟩, h', _, _ =>
    rcases T h with ⟨o, e, q⟩ | ⟨e, o, l, c⟩ <;> rcases h' with ⟨_, e'⟩ | ⟨_, e'⟩
    · rw [e] at e'; cases e'; rcases q with ⟨_, q⟩ | ⟨_, _, q⟩ <;> cases q
    · rw [e] at e'; cases e'; rcases q with ⟨_, q⟩ | ⟨_, _, q⟩ <;> cases q
    · rw [e] at e'; cases e'
    · rw [e] at e'; cases e'
  | 3, 0, h', ⟨_, h⟩, _, _ =>
    rcases T h with ⟨o, e, q⟩ | ⟨e, o, l, c⟩ <;> rcases h' with ⟨_, e'⟩ | ⟨_, e'⟩
    · rw [e] at e'; cases e'; rcases q with ⟨_, q⟩ | ⟨_, _, q⟩ <;> cases q
    · rw [e] at e'; cases e'; rcases q with ⟨_, q⟩ | ⟨_, _, q⟩ <;> cases q
    · rw [e] at e'; cases e'
    · rw [e] at e'; cases e'
  | 0, 4, ⟨_, h⟩, ⟨_, _, _, e'⟩, _, _ =>
    rcases T h with ⟨o, e, q⟩ | ⟨e, o, l, c⟩
    · rw [e] at e'; cases e'; rcases q with ⟨_, q⟩ | ⟨_, _, q⟩ <;> cases q
    · rw [e] at e'; cases e'
  | 4, 0, ⟨_, _, _, e'⟩, ⟨_, h⟩, _, _ =>
    rcases T h with ⟨o, e, q⟩ | ⟨e, o, l, c⟩
    · rw [e] at e'; cases e'; rcases q with ⟨_, q⟩ | ⟨_, _, q⟩ <;> cases q
    · rw [e] at e'; cases e'
  | 1, 2, ⟨_, h⟩, ⟨_, e'⟩, _, _ =>
    rcases R h with ⟨u, xs, e⟩ | ⟨e, _⟩ <;> (rw [e] at e'; cases e')
  | 2, 1, ⟨_, e'⟩, ⟨_, h⟩, _, _ =>
    rcases R h with ⟨u, xs, e⟩ | ⟨e, _⟩ <;> (rw [e] at e'; cases e')
  | 1, 3, ⟨_, h⟩, h', _, _ =>
    rcases R h with ⟨u, xs, e⟩ | ⟨e, _⟩ <;> rcases h' with ⟨_, e'⟩ | ⟨_, e'⟩ <;> (rw [e] at e'; cases e')
  | 3, 1, h', ⟨_, h⟩, _, _ =>
    rcases R h with ⟨u, xs, e⟩ | ⟨e, _⟩ <;> rcases h' with ⟨_, e'⟩ | ⟨_, e'⟩ <;> (rw [e] at e'; cases e')
  | 1, 4, ⟨_, h⟩, ⟨_, _, _, e'⟩, _, _ =>
    rcases R h with ⟨u, xs, e⟩ | ⟨e, _⟩ <;> (rw [e] at e'; cases e')
  | 4, 1, ⟨_, _, _, e'⟩, ⟨_, h⟩, _, _ =>
    rcases R h with ⟨u, xs, e⟩ | ⟨e, _⟩ <;> (rw [e] at e'; cases e')
  | 2, 3, ⟨_, e⟩, h', _, _ => rcases h' with ⟨_, e'⟩ | ⟨_, e'⟩ <;> (rw [e] at e'; cases e')
  | 3, 2, h', ⟨_, e⟩, _, _ => rcases h' with ⟨_, e'⟩ | ⟨_, e'⟩ <;> (rw [e] at e'; cases e')
  | 2, 4, ⟨_, e⟩, ⟨_, _, _, e'⟩, _, _ => rw [e] at e'; cases e'
  | 4, 2, ⟨_, _, _, e'⟩, ⟨_, e⟩, _, _ => rw [e] at e'; cases e'
  | 3, 4, h', ⟨_, _, _, e⟩, _, _ => rcases h' with ⟨_, e'⟩ | ⟨_, e'⟩ <;> (rw [e] at e'; cases e')
  | 4, 3, ⟨_, _, _, e⟩, h', _, _ => rcases h' with ⟨_, e'⟩ | ⟨_, e'⟩ <;> (rw [e] at e'; cases e')
  | n + 5, _, _, _, li, _ => omega
  | _, n + 5, _, _, _, lj => omega
theorem RD.kind {K : PySem.W.Frag} {t : D} {a : Addr} (hK : G.K = K) (h : RD G ρ H t (.ref a)) : ∃ i, i ≤ 4 ∧ kindAt K H a i ∧ (match t with | .tup _ => i = 0 | .ro _ => i = 1 | .lst _ _ => i = 2 | .dct _ _ _ => i = 3 | .obj _ _ _ _ => i = 4 | _ => False) := by
  subst hK
  cases t <;> simp only [RD] at h
  · cases h
  · cases h
  · cases h
  · cases h
  · obtain ⟨a', xs, e, s, r⟩ := h; cases e; exact ⟨0, by omega, ⟨xs, s⟩, rfl⟩
  · obtain ⟨a', xs, e, s, r⟩ := h; cases e; exact ⟨1, by omega, ⟨xs, s⟩, rfl⟩
  · obtain ⟨e, xs, s, r⟩ := h; cases e; exact ⟨2, by omega, ⟨xs, s⟩, rfl⟩
  · obtain ⟨e, ⟨kvs, s, _⟩ | ⟨kvs, s, _⟩⟩ := h
    · cases e; exact ⟨3, by omega, .inl ⟨kvs, s⟩, rfl⟩
    · cases e; exact ⟨3, by omega, .inr ⟨kvs, s⟩, rfl⟩
  · obtain ⟨e, C, dx, fs, _, s, _⟩ := h; cases e; exact ⟨4, by omega, ⟨C, dx, fs, s⟩, rfl⟩
section
variable (k : KD G.K H) {n : Nat} (inj : ∀ i j, i < n → j < n → ρ i = ρ j → i = j)
include k inj
mutual
theorem RD.uniq : ∀ (t t' : D) (v : V), RD G ρ H t v → RD G ρ H t' v → (∀ l ∈ labs t, l < n) → (∀ l ∈ labs t', l < n) → t = t'
  | .non, t', v, h, h', _, _ => by
    simp only [RD] at h; subst h
    cases t' <;> simp only [RD] at h' <;> first | rfl | (cases h'; done) | (obtain ⟨e, _⟩ := h'; cases e; done) | (obtain ⟨_, _, e, _⟩ := h'; cases e; done)
  | .bool b, t', v, h, h', _, _ => by
    simp only [RD] at h; subst h
    cases t' <;> simp only [RD] at h' <;> first | (cases h'; rfl) | (cases h'; done) | (obtain ⟨e, _⟩ := h'; cases e; done) | (obtain ⟨_, _, e, _⟩ := h'; cases e; done)
  | .int b, t', v, h, h', _, _ => by
    simp only [RD] at h; subst h
    cases t' <;> simp only [RD] at h' <;> first | (cases h'; rfl) | (cases h'; done) | (obtain ⟨e, _⟩ := h'; cases e; done) | (obtain ⟨_, _, e, _⟩ := h'; cases e; done)
  | .str b, t', v, h, h', _, _ => by
    simp only [RD] at h; subst h
    cases t' <;> simp only [RD] at h' <;> first | (cases h'; rfl) | (cases h'; done) | (obtain ⟨e, _⟩ := h'; cases e; done) | (obtain ⟨_, _, e, _⟩ := h'; cases e; done)
  | .tup ds, t', v, h, h', lb, lb' => by
    obtain ⟨a, xs, rfl, s, r⟩ := h.tupq
    obtain ⟨i, li, ki, mi⟩ := RD.kind rfl h'
    cases kind_one k (i := 0) ⟨xs, s⟩ ki (by omega) li
    cases t' with
    | tup es =>
      obtain ⟨a', ys, e, s', r'⟩ := h'.tupq
      cases e
      cases SqT.two k s s'
      rw [RDs.uniq ds es xs r r' (fun l hl => lb l (by simp only [labs]; exact hl)) fun l hl => lb' l (by simp only [labs]; exact hl)]
    | _ => simp at mi
  | .ro ds, t', v, h, h', lb, lb' => by
    have h0 := h
    simp only [RD] at h0
    obtain ⟨a, xs, rfl, s, r⟩ := h0
    obtain ⟨i, li, ki, mi⟩ := RD.kind rfl h'
    cases kind_one k (i := 1) ⟨xs, s⟩ ki (by omega) li
    cases t' with
    | ro es =>
      simp only [RD] at h'
      obtain ⟨a', ys, e, s', r'⟩ := h'
      cases e
      cases roL_two k s s'
      rw [RDs.uniq ds es xs r r' (fun l hl => lb l (by simp only [labs]; exact hl)) fun l hl => lb' l (by simp only [labs]; exact hl)]
    | _ => simp at mi
  | .lst l ds, t', v, h, h', lb, lb' => by
    have h0 := h
    simp only [RD] at h0
    obtain ⟨rfl, xs, s, r⟩ := h0
    obtain ⟨i, li, ki, mi⟩ := RD.kind rfl h'
    cases kind_one k (i := 2) ⟨xs, s⟩ ki (by omega) li
    cases t' with
    | lst l' es =>
      simp only [RD] at h'
      obtain ⟨e, ys, s', r'⟩ := h'
      have e : ρ l = ρ l' := V.ref.inj e
      cases inj l l' (lb l (by simp only [labs]; exact List.mem_cons_self ..)) (lb' l' (by simp only [labs]; exact List.mem_cons_self ..)) e
      rw [s] at s'; cases s'
      rw [RDs.uniq ds es xs r r' (fun l hl => lb l (by simp only [labs]; exact List.mem_cons_of_mem _ hl)) fun l hl => lb' l (by simp only [labs]; exact List.mem_cons_of_mem _ hl)]
    | _ => simp at mi
  | .dct l ks vs, t', v, h, h', lb, lb' => by
    have h0 := h
    simp only [RD] at h0
    obtain ⟨rfl, q⟩ := h0
    obtain ⟨i, li, ki, mi⟩ := RD.kind rfl h'
    cases kind_one k (i := 3) (by rcases q with ⟨kvs, s, _⟩ | ⟨kvs, s, _⟩; exact .inl ⟨_, s⟩; exact .inr ⟨_, s⟩) ki (by omega) li
    cases t' with
    | dct l' ks' vs' =>
      simp only [RD] at h'
      obtain ⟨e, q'⟩ := h'
      have e : ρ l = ρ l' := V.ref.inj e
      cases inj l l' (lb l (by simp only [labs]; exact List.mem_cons_self ..)) (lb' l' (by simp only [labs]; exact List.mem_cons_self ..)) e
      have b1 : ∀ j ∈ labsL vs, j < n := fun j hj => lb j (by simp only [labs]; exact List.mem_cons_of_mem _ (List.mem_append_right _ hj))
      have b2 : ∀ j ∈ labsL vs', j < n := fun j hj => lb' j (by simp only [labs]; exact List.mem_cons_of_mem _ (List.mem_append_right _ hj))
      rcases q with ⟨kvs, s, s2, r⟩ | ⟨kvs, s, s2, r⟩ <;> rcases q' with ⟨kvs', s', s2', r'⟩ | ⟨kvs', s', s2', r'⟩
      · rw [s] at s'; cases s'
        rw [s2, s2', RDs.uniq vs vs' _ r r' b1 b2]
      · rw [s] at s'; cases s'
      · rw [s] at s'; cases s'
      · rw [s] at s'; cases s'
        rw [s2, s2', RDs.uniq vs vs' _ r r' b1 b2]
    | _ => simp at mi
  | .obj l c ns vs, t', v, h, h', lb, lb' => by
    have h0 := h
    simp only [RD] at h0
    obtain ⟨rfl, C, dx, fs, hC, s, s2, r⟩ := h0
    obtain ⟨i, li, ki, mi⟩ := RD.kind rfl h'
    cases kind_one k (i := 4) ⟨_, _, _, s⟩ ki (by omega) li
    cases t' with
    | obj l' c' ns' vs' =>
      simp only [RD] at h'
      obtain ⟨e, C', dx', fs', hC', s', s2', r'⟩ := h'
      have e : ρ l = ρ l' := V.ref.inj e
      cases inj l l' (lb l (by simp only [labs]; exact List.mem_cons_self ..)) (lb' l' (by simp only [labs]; exact List.mem_cons_self ..)) e
      rw [s] at s'; cases s'
      rw [s2, s2', G.ci c c' C hC hC', RDs.uniq vs vs' _ r r' (fun j hj => lb j (by simp only [labs]; exact List.mem_cons_of_mem _ hj)) fun j hj => lb' j (by simp only [labs]; exact List.mem_cons_of_mem _ hj)]
    | _ => simp at mi
theorem RDs.uniq : ∀ (t t' : List D) (v : List V), RDs G ρ H t v → RDs G ρ H t' v → (∀ l ∈ labsL t, l < n) → (∀ l ∈ labsL t', l < n) → t = t'
  | [], t', v, h, h', _, _ => by
    simp only [RDs] at h; subst h
    cases t' with
    | nil => rfl
    | cons d ds => simp only [RDs] at h'; obtain ⟨_, _, e, _⟩ := h'; cases e
  | d :: ds, t', v, h, h', lb, lb' => by
    simp only [RDs] at h
    obtain ⟨x, q, rfl, h1, h2⟩ := h
    cases t' with
    | nil => simp only [RDs] at h'; cases h'
    | cons d' ds' =>
      simp only [RDs] at h'
      obtain ⟨_, _, e, h1', h2'⟩ := h'
      cases e
      rw [RD.uniq d d' x h1 h1' (fun l hl => lb l (by simp only [labsL]; exact List.mem_append_left _ hl)) fun l hl => lb' l (by simp only [labsL]; exact List.mem_append_left _ hl),
        RDs.uniq ds ds' q h2 h2' (fun l hl => lb l (by simp only [labsL]; exact List.mem_append_right _ hl)) fun l hl => lb' l (by simp only [labsL]; exact List.mem_append_right _ hl)]
end
end
end
end Mi
namespace Mi
open PySem L2 PySem.Spec PyProof.Rows
inductive RF where
  | ok (t : D) (ts : List D) (n : Nat) | ex (d : D) (ts : List D) (n : Nat) | no
noncomputable abbrev FM := List D → Nat → RF
structure CallP (G : Gx) (ρ : Nat → Addr) (n : Nat) (ts : List D) (vs : List V) (H : Hp) (ρ' : Nat → Addr) (n' : Nat) (ts' : List D) (H' : Hp) : Prop where
  old : ∀ l, l < n → ρ' l = ρ l
  le : n ≤ n'
  inj : ∀ i j, i < n' → j < n' → ρ' i = ρ' j → i = j
  dom : ∀ l, l < n' → ∃ o, H' (ρ' l) = some o
  rd : RDs G ρ' H' ts' vs
  lb : ∀ l ∈ labsL ts', l < n' ∧ (l < n → l ∈ labsL ts)
  fr : ∀ a o, H a = some o → (∃ o', H' a = some o') ∧ ((∀ l ∈ labsL ts, a ≠ ρ l) → H' a = some o)
  new : ∀ l, n ≤ l → l < n' → H (ρ' l) = none
  kd : KD G.K H'
section
variable {G : Gx} {ρ ρ' : Nat → Addr} {H H' : Hp}
mutual
theorem lab_mut : ∀ (t : D) (v : V), RD G ρ H t v → ∀ l ∈ labs t, ∃ o, H (ρ l) = some o ∧ (∀ xs, o ≠ .tup xs) ∧ ∀ u w, o ≠ .frz u w
  | .non, v, h, l, hl => by simp only [labs] at hl; cases hl
  | .bool b, v, h, l, hl => by simp only [labs] at hl; cases hl
  | .int b, v, h, l, hl => by simp only [labs] at hl; cases hl
  | .str b, v, h, l, hl => by simp only [labs] at hl; cases hl
  | .tup ds, v, h, l, hl => by
    simp only [labs, RD] at h hl
    obtain ⟨a, xs, _, _, r⟩ := h
    exact labL_mut ds xs r l hl
  | .ro ds, v, h, l, hl => by
    simp only [labs, RD] at h hl
    obtain ⟨a, xs, _, _, r⟩ := h
    exact labL_mut ds xs r l hl
  | .lst k ds, v, h, l, hl => by
    simp only [labs, RD] at h hl
    obtain ⟨_, xs, s, r⟩ := h
    rcases List.mem_cons.mp hl with rfl | hl
    · exact ⟨_, s, (fun _ q => nomatch q), (fun _ _ q => nomatch q)⟩
    · exact labL_mut ds xs r l hl
  | .dct k ks vs, v, h, l, hl => by
    simp only [labs, RD] at h hl
    obtain ⟨_, ⟨kvs, s, s2, r⟩ | ⟨kvs, s, s2, r⟩⟩ := h
    · rcases List.mem_cons.mp hl with rfl | hl
      · exact ⟨_, s, (fun _ q => nomatch q), (fun _ _ q => nomatch q)⟩
      · rcases List.mem_append.mp hl with hl | hl
        · rw [s2] at hl
          obtain ⟨d, hd, hl⟩ := of_labsL hl
          obtain ⟨p, _, rfl⟩ := List.mem_map.mp hd
          obtain ⟨kk, _⟩ := p
          cases kk <;> simp only [keyD, labs] at hl <;> cases hl
        · exact labL_mut vs _ r l hl
    · rcases List.mem_cons.mp hl with rfl | hl
      · exact ⟨_, s, (fun _ q => nomatch q), (fun _ _ q => nomatch q)⟩
      · rcases List.mem_append.mp hl with hl | hl
        · rw [s2] at hl
          obtain ⟨d, hd, hl⟩ := of_labsL hl
          obtain ⟨p, _, rfl⟩ := List.mem_map.mp hd
          simp only [dkD, labs] at hl
          obtain ⟨d, hd, hl⟩ := of_labsL hl
          obtain ⟨kk, _, rfl⟩ := List.mem_map.mp hd
          cases kk <;> simp only [keyD, labs] at hl <;> cases hl
        · exact labL_mut vs _ r l hl
  | .obj k c ns vs, v, h, l, hl => by
    simp only [labs, RD] at h hl
    obtain ⟨_, C, dx, fs, _, s, _, r⟩ := h
    rcases List.mem_cons.mp hl with rfl | hl
    · exact ⟨_, s, (fun _ q => nomatch q), (fun _ _ q => nomatch q)⟩
    · exact labL_mut vs _ r l hl
theorem labL_mut : ∀ (t : List D) (v : List V), RDs G ρ H t v → ∀ l ∈ labsL t, ∃ o, H (ρ l) = some o ∧ (∀ xs, o ≠ .tup xs) ∧ ∀ u w, o ≠ .frz u w
  | [], v, h, l, hl => by simp only [labsL] at hl; cases hl
  | d :: ds, v, h, l, hl => by
    simp only [labsL, RDs] at h hl
    obtain ⟨x, r, _, h1, h2⟩ := h
    rcases List.mem_append.mp hl with hl | hl
    · exact lab_mut d x h1 l hl
    · exact labL_mut ds r h2 l hl
end
theorem keys_nolab {kvs : List (Key × V)} {l : Nat} (hl : l ∈ labsL (kvs.map fun p => keyD p.1)) : False := by
  obtain ⟨d, hd, hl⟩ := of_labsL hl
  obtain ⟨p, _, rfl⟩ := List.mem_map.mp hd
  obtain ⟨kk, _⟩ := p
  cases kk <;> simp only [keyD, labs] at hl <;> cases hl
theorem keysT_nolab {kvs : List (List Key × V)} {l : Nat} (hl : l ∈ labsL (kvs.map fun p => dkD p.1)) : False := by
  obtain ⟨d, hd, hl⟩ := of_labsL hl
  obtain ⟨p, _, rfl⟩ := List.mem_map.mp hd
  simp only [dkD, labs] at hl
  obtain ⟨d, hd, hl⟩ := of_labsL hl
  obtain ⟨kk, _, rfl⟩ := List.mem_map.mp hd
  cases kk <;> simp only [keyD, labs] at hl <;> cases hl
mutual
theorem findT_some (l : Nat) : ∀ (t : D) (v : V), RD G ρ H t v → l ∈ labs t → (findT l t).isSome = true
  | .non, v, h, hl => by simp only [labs] at hl; cases hl
  | .bool b, v, h, hl => by simp only [labs] at hl; cases hl
  | .int b, v, h, hl => by simp only [labs] at hl; cases hl
  | .str b, v, h, hl => by simp only [labs] at hl; cases hl
  | .tup ds, v, h, hl => by
    simp only [labs, RD, findT] at h hl ⊢
    obtain ⟨a, xs, _, _, r⟩ := h
    exact findL_some l ds xs r hl
  | .ro ds, v, h, hl => by
    simp only [labs, RD, findT] at h hl ⊢
    obtain ⟨a, xs, _, _, r⟩ := h
    exact findL_some l ds xs r hl
  | .lst k ds, v, h, hl => by
    simp only [labs, RD, findT] at h hl ⊢
    obtain ⟨_, xs, s, r⟩ := h
    by_cases e : k = l
    · rw [if_pos e]; rfl
    · rw [if_neg e]
      rcases List.mem_cons.mp hl with q | q
      · exact absurd q.symm e
      · exact findL_some l ds xs r q
  | .dct k ks vs, v, h, hl => by
    simp only [labs, RD, findT] at h hl ⊢
    obtain ⟨_, ⟨kvs, s, s2, r⟩ | ⟨kvs, s, s2, r⟩⟩ := h
    · by_cases e : k = l
      · rw [if_pos e]; rfl
      · rw [if_neg e]
        rcases List.mem_cons.mp hl with q | q
        · exact absurd q.symm e
        · rcases List.mem_append.mp q with q | q
          · rw [s2] at q; exact (keys_nolab q).elim
          · exact findL_some l vs _ r q
    · by_cases e : k = l
      · rw [if_pos e]; rfl
      · rw [if_neg e]
        rcases List.mem_cons.mp hl with q | q
        · exact absurd q.symm e
        · rcases List.mem_append.mp q with q | q
          · rw [s2] at q; exact (keysT_nolab q).elim
          · exact findL_some l vs _ r q
  | .obj k c ns vs, v, h, hl => by
    simp only [labs, RD, findT] at h hl ⊢
    obtain ⟨_, C, dx, fs, _, s, _, r⟩ := h
    by_cases e : k = l
    · rw [if_pos e]; rfl
    · rw [if_neg e]
      rcases List.mem_cons.mp hl with q | q
      · exact absurd q.symm e
      · exact findL_some l vs _ r q
theorem findL_some (l : Nat) : ∀ (t : List D) (v : List V), RDs G ρ H t v → l ∈ labsL t → (findL l t).isSome = true
  | [], v, h, hl => by simp only [labsL] at hl; cases hl
  | d :: ds, v, h, hl => by
    simp only [labsL, RDs, findL] at h hl ⊢
    obtain ⟨x, r, _, h1, h2⟩ := h
    cases e : findT l d with
    | some y => rfl
    | none =>
      rcases List.mem_append.mp hl with q | q
      · have := findT_some l d x h1 q
        rw [e] at this; cases this
      · exact findL_some l ds r h2 q
end
theorem CallP.stays {n n' : Nat} {ts ts' : List D} {vs : List V} (P : CallP G ρ n ts vs H ρ' n' ts' H') (r : RDs G ρ H ts vs) : Stays H H' := by
  refine ⟨fun b xs e => (P.fr b _ e).2 fun l hl z => ?_, fun b o u e => (P.fr b _ e).2 fun l hl z => ?_⟩
  · obtain ⟨o, q, q1, _⟩ := labL_mut ts vs r l hl
    rw [← z, e] at q; cases q; exact q1 _ rfl
  · obtain ⟨o, q, _, q1⟩ := labL_mut ts vs r l hl
    rw [← z, e] at q; cases q; exact q1 _ _ rfl
section
variable (k : KD G.K H) {n : Nat} (inj : ∀ i j, i < n → j < n → ρ i = ρ j → i = j) {ts : List D} {vs : List V} (r : RDs G ρ H ts vs) (lb : ∀ l ∈ labsL ts, l < n)
include k inj r lb
mutual
theorem rp_find_id : ∀ (t : D) (v : V), RD G ρ H t v → (∀ l ∈ labs t, l < n) → rp (fun l => findL l ts) t = t
  | .non, v, h, hl => rfl
  | .bool b, v, h, hl => rfl
  | .int b, v, h, hl => rfl
  | .str b, v, h, hl => rfl
  | .tup ds, v, h, hl => by
    simp only [labs, RD, rp] at h hl ⊢
    obtain ⟨a, xs, _, _, r1⟩ := h
    rw [rpL_find_id ds xs r1 hl]
  | .ro ds, v, h, hl => by
    simp only [labs, RD, rp] at h hl ⊢
    obtain ⟨a, xs, _, _, r1⟩ := h
    rw [rpL_find_id ds xs r1 hl]
  | .lst l ds, v, h, hl => by
    simp only [rp]
    cases e : findL l ts with
    | some d =>
      dsimp only
      obtain ⟨q1, q2⟩ := findL_rd l ts vs d r e
      have h' := h
      simp only [RD] at h'
      obtain ⟨rfl, _⟩ := h'
      exact RD.uniq k inj _ _ _ q1 h (fun j hj => lb j (q2 j hj)) hl
    | none =>
      dsimp only
      simp only [labs, RD] at h hl
      obtain ⟨_, xs, s, r1⟩ := h
      rw [rpL_find_id ds xs r1 fun j hj => hl j (List.mem_cons_of_mem _ hj)]
  | .dct l ks vs', v, h, hl => by
    simp only [rp]
    cases e : findL l ts with
    | some d =>
      dsimp only
      obtain ⟨q1, q2⟩ := findL_rd l ts vs d r e
      have h' := h
      simp only [RD] at h'
      obtain ⟨rfl, _⟩ := h'
      exact RD.uniq k inj _ _ _ q1 h (fun j hj => lb j (q2 j hj)) hl
    | none =>
      dsimp only
      simp only [labs, RD] at h hl
      obtain ⟨_, ⟨kvs, s, s2, r1⟩ | ⟨kvs, s, s2, r1⟩⟩ := h
      · rw [rpL_find_id vs' _ r1 fun j hj => hl j (List.mem_cons_of_mem _ (List.mem_append_right _ hj))]
      · rw [rpL_find_id vs' _ r1 fun j hj => hl j (List.mem_cons_of_mem _ (List.mem_append_right _ hj))]
  | .obj l c ns vs', v, h, hl => by
    simp only [rp]
    cases e : findL l ts with
    | some d =>
      dsimp only
      obtain ⟨q1, q2⟩ := findL_rd l ts vs d r e
      have h' := h
      simp only [RD] at h'
      obtain ⟨rfl, _⟩ := h'
      exact RD.uniq k inj _ _ _ q1 h (fun j hj => lb j (q2 j hj)) hl
    | none =>
      dsimp only
      simp only [labs, RD] at h hl
      obtain ⟨_, C, dx, fs, _, s, _, r1⟩ := h
      rw [rpL_find_id vs' _ r1 fun j hj => hl j (List.mem_cons_of_mem _ hj)]
theorem rpL_find_id : ∀ (t : List D) (v : List V), RDs G ρ H t v → (∀ l ∈ labsL t, l < n) → rpL (fun l => findL l ts) t = t
  | [], v, h, hl => rfl
  | d :: ds, v, h, hl => by
    simp only [labsL, RDs, rpL] at h hl ⊢
    obtain ⟨x, q, _, h1, h2⟩ := h
    rw [rp_find_id d x h1 fun j hj => hl j (List.mem_append_left _ hj), rpL_find_id ds q h2 fun j hj => hl j (List.mem_append_right _ hj)]
end
theorem rpO_find_id : ∀ (t : List (Option D)) (v : List (Option V)), Sl G ρ H t v → (∀ l ∈ labsO t, l < n) → rpO (fun l => findL l ts) t = t
  | [], v, h, hl => rfl
  | none :: r', v, h, hl => by
    simp only [labsO, Sl, rpO] at h hl ⊢
    obtain ⟨o, q, _, h⟩ := h
    rw [rpO_find_id r' q h hl]
  | some d :: ds, v, h, hl => by
    simp only [labsO, Sl, rpO] at h hl ⊢
    obtain ⟨x, q, _, h1, h2⟩ := h
    rw [rp_find_id k inj r lb d x h1 fun j hj => hl j (List.mem_append_left _ hj), rpO_find_id ds q h2 fun j hj => hl j (List.mem_append_right _ hj)]
end
variable {F : Fy} {σv tv : List (Option V)} {s : Stt} {np : Nat}
theorem MR.call {ts ts' : List D} {vs : List V} {n' : Nat} (M : MR G F.toFx ρ H σv tv s) (r : RDs G ρ H ts vs) (lb : LB F.toFx ρ s.n (labsL ts)) (P : CallP G ρ s.n ts vs H ρ' n' ts' H')
    (hc : ∀ l ∈ labsS s, l ∈ labsL ts → (findL l ts').isSome = true) : MR G F.toFx ρ' H' σv tv { σ := rpO (fun l => findL l ts') s.σ, tm := rpO (fun l => findL l ts') s.tm, n := n' } := by
  have st := P.stays r
  have step : ∀ l ∈ labsS s, ρ' l = ρ l ∧ (match findL l ts' with | some d => RD G ρ' H' d (.ref (ρ l)) | none => ∀ o, H (ρ l) = some o → H' (ρ l) = some o) := fun l hl => by
    have ol := P.old l (M.lab l hl)
    refine ⟨ol, ?_⟩
    cases e : findL l ts' with
    | some d =>
      have q := (findL_rd l ts' vs d P.rd e).1
      rw [ol] at q; exact q
    | none =>
      intro o e1
      refine (P.fr _ _ e1).2 fun j hj z => ?_
      have : l = j := M.inj l j (M.lab l hl) (lb j hj).1 z
      subst this
      have := hc l hl hj
      rw [e] at this; cases this
  have hn : ∀ l, l < n' → l < s.n ∨ H (ρ' l) = none := fun l hl => by
    by_cases h : l < s.n
    · exact .inl h
    · exact .inr (P.new l (Nat.not_lt.mp h) hl)
  have hlab : ∀ (xs : List (Option D)), (∀ l ∈ labsO xs, l ∈ labsS s) → ∀ l ∈ labsO (rpO (fun l => findL l ts') xs), l < n' ∧ (l < s.n → l ∈ labsS s ∨ l ∈ labsL ts) := fun xs hx l h => by
    rcases labsO_rp l xs h with q | ⟨k, d, q1, q2, q3⟩
    · exact ⟨Nat.lt_of_lt_of_le (M.lab l (hx l q)) P.le, fun _ => .inl (hx l q)⟩
    · obtain ⟨b1, b2⟩ := P.lb l ((findL_rd k ts' vs d P.rd q2).2 l q3)
      exact ⟨b1, fun z => .inr (b2 z)⟩
  have all : ∀ l ∈ labsS { σ := rpO (fun l => findL l ts') s.σ, tm := rpO (fun l => findL l ts') s.tm, n := n' }, l < n' ∧ (l < s.n → l ∈ labsS s ∨ l ∈ labsL ts) := fun l h => by
    rcases List.mem_append.mp h with h | h
    · exact hlab s.σ (fun l q => List.mem_append_left _ q) l h
    · exact hlab s.tm (fun l q => List.mem_append_right _ q) l h
  refine ⟨Sl.rp st M.sl fun l hl => step l (List.mem_append_left _ hl), Sl.rp st M.tm fun l hl => step l (List.mem_append_right _ hl), P.inj, P.dom, fun l h => (all l h).1, fun l h => ?_, fun a o e => ?_, P.kd, fun l hl z => ?_, ⟨Nat.le_trans M.bas.1 P.le, fun l hl => ?_⟩⟩
  · rcases hn l (all l h).1 with q | q
    · rw [P.old l q]
      rcases (all l h).2 q with z | z
      · exact M.own l z
      · exact (lb l z).2
    · exact .inr (M.fresh0 q)
  · obtain ⟨⟨o1, e1⟩, e2⟩ := M.frm a o e
    obtain ⟨e3, e4⟩ := P.fr a o1 e1
    refine ⟨e3, fun nA => ?_⟩
    have e5 := e2 nA
    rw [e1] at e5; cases e5
    refine e4 fun l hl z => ?_
    rcases (lb l hl).2 with q | q
    · exact nA (z ▸ q)
    · rw [← z, e] at q; cases q
  · rcases hn l hl with q | q
    · rw [P.old l q] at z; exact M.frb l q z
    · obtain ⟨⟨o, e⟩, _⟩ := F.zA _ z
      obtain ⟨⟨o', e'⟩, _⟩ := M.frm _ o e
      rw [q] at e'; cases e'
  · rw [P.old l (Nat.lt_of_lt_of_le hl M.bas.1)]; exact M.bas.2 l hl
theorem MR.call0 {ts : List D} {vs : List V} {n' : Nat} (M : MR G F.toFx ρ H σv tv s) (r : RDs G ρ H ts vs) (lb : LB F.toFx ρ s.n (labsL ts)) (P : CallP G ρ s.n ts vs H ρ' n' ts H') : MR G F.toFx ρ' H' σv tv { s with n := n' } := by
  have hf : ∀ l ∈ labsL ts, (findL l ts).isSome = true := fun l hl => findL_some l ts vs r hl
  have M2 := M.call r lb P fun l _ hl => hf l hl
  rw [rpO_find_id M.kd M.inj r (fun l hl => (lb l hl).1) s.σ σv M.sl fun l hl => M.lab l (List.mem_append_left _ hl), rpO_find_id M.kd M.inj r (fun l hl => (lb l hl).1) s.tm tv M.tm fun l hl => M.lab l (List.mem_append_right _ hl)] at M2
  exact M2
open Classical in
noncomputable def callK (r : RF) (ts : List D) : M D := fun s => match r with
  | .ok t ts' n' => if ts' = ts then .ok t { s with n := n' } else
      if ∀ l ∈ labsS s, l ∈ labsL ts → (findL l ts').isSome = true then .ok t { σ := rpO (fun l => findL l ts') s.σ, tm := rpO (fun l => findL l ts') s.tm, n := n' } else .no
  | _ => .no
noncomputable def mCall (f : FM) (ms : List (M D)) : M D := bd (mArgs ms) fun ts s => callK (f ts s.n) ts s
noncomputable def spM (G : Gx) (np : Nat) (f : FM) : Sp := fun vs H Q _ => vs.length = np ∧ ∃ ρ n ts, RDs G ρ H ts vs ∧ (∀ i j, i < n → j < n → ρ i = ρ j → i = j) ∧ (∀ l, l < n → ∃ o, H (ρ l) = some o) ∧ (∀ l ∈ labsL ts, l < n) ∧ KD G.K H ∧ match f ts n with
  | .ok t ts' n' => ∀ ρ' v H', CallP G ρ n ts vs H ρ' n' ts' H' → RD G ρ' H' t v → (∀ l ∈ labs t, l < n' ∧ (l < n → l ∈ labsL ts)) → Q v H'
  | _ => False
theorem callK_imp {ts : List D} {vs : List V} {f : FM} {Q : VK} {E : XK} (hl : vs.length = np) (M : MRL G F.toFx ρ H σv tv s ts vs) (W : wM G F σv tv (callK (f ts s.n) ts s) Q) : spM G np f vs H Q E := by
  refine ⟨hl, ρ, s.n, ts, M.rd, M.m.inj, M.m.dom, fun l h => (M.lb l h).1, M.m.kd, ?_⟩
  cases e : f ts s.n with
  | no => rw [e] at W; exact W
  | ex d ts' n' => rw [e] at W; exact W
  | ok t ts' n' =>
    rw [e] at W
    intro ρ' v H' P rd lbt
    have own : ∀ l ∈ labs t, F.A0 (ρ' l) ∨ F.H0 (ρ' l) = none := fun l h => by
      obtain ⟨b1, b2⟩ := lbt l h
      by_cases hn : l < s.n
      · rw [P.old l hn]; exact (M.lb l (b2 hn)).2
      · exact .inr (M.m.fresh0 (P.new l (Nat.not_lt.mp hn) b1))
    unfold callK at W
    dsimp only at W
    split at W
    · rename_i et
      subst et
      exact W.out (M.m.call0 M.rd M.lb P) rd fun l h => ⟨(lbt l h).1, own l h⟩
    · split at W
      · rename_i hc
        exact W.out (M.m.call M.rd M.lb P hc) rd fun l h => ⟨(lbt l h).1, own l h⟩
      · exact False.elim W
theorem mArgs_len : ∀ (ms : List (M D)) (s : Stt) (ts : List D) (s' : Stt), mArgs ms s = .ok ts s' → ts.length = ms.length := by
  intro ms
  induction ms with
  | nil => intro s ts s' e; simp only [mArgs, rt, Res.ok.injEq] at e; rw [← e.1]; rfl
  | cons m ms ih =>
    intro s ts s' e
    simp only [mArgs, bd, psh] at e
    cases e1 : m s with
    | ok t s1 =>
      simp only [e1] at e
      cases e2 : mArgs ms (s1.psh t) with
      | ok ys s2 =>
        simp only [e2, pop] at e
        cases e3 : s2.tm with
        | nil => simp only [e3] at e; cases e
        | cons o r =>
          cases o with
          | none => simp only [e3] at e; cases e
          | some t' =>
            simp only [e3, rt, Res.ok.injEq] at e
            rw [← e.1, List.length_cons, List.length_cons, ih _ _ _ e2]
      | ex d s2 => simp only [e2] at e; cases e
      | no => simp only [e2] at e; cases e
    | ex d s1 => simp only [e1] at e; cases e
    | no => simp only [e1] at e; cases e
theorem se_call {X : Cx} {e : Expr} {es : List Expr} {pos p : Pos} {CX : CXT} {k : Nat} {fa : Addr} {fd : FuncData} {ps : List Str} {x : Str} {E : XK} {f : FM} {ms : List (M D)} (hk : X.K = G.K) (Fn : FnOk X.prog X.w X.K X.mg X.base CX k fa fd ps (spM G ps.length f)) (hr : Room k X.A) (hg : Gl X x) (hm : X.mg x = some (.ref fa)) (hkp : PySem.W.keepIn X.K (.ref fa) = true) (hb : Binds X.K fd ps []) (hx : Passes CX X E)
    (ha : SA X G F (e :: es) (mArgs ms)) (hln : ms.length = ps.length) (hdb : (x == ("__debug__" : Str)) = false := by decide) (he : starEach (e :: es) X.env = (false, eval e X.env) :: starEach es X.env := by rfl) (hpl : (backTo pos (starEach es X.env)).any (·.1) = false := by rfl) :
    SE X G F (.Call (.Name x p) (e :: es) [] pos) (mCall f ms) := by
  refine PE.imp0 (pe_call Fn hr hg hm hkp hb .nil hx ha hdb he hpl) fun σ H Q ⟨tv, hs, ρ, s, M, W⟩ => ⟨tv, hs, ρ, s, M, ?_⟩
  unfold mCall bd at W
  cases e1 : mArgs ms s with
  | ex d s1 => rw [e1] at W; exact W
  | no => rw [e1] at W; exact W
  | ok ts s1 =>
    rw [e1] at W
    intro ρ1 vs H1 M1
    rw [List.append_nil]
    exact callK_imp (by rw [← M1.rd.length, mArgs_len ms s ts s1 e1, hln]) M1 W
noncomputable def runF (nl : Nat) (mb : MS) : FM := fun ts n => match mb { σ := ts.map some ++ List.replicate (nl - ts.length) none, tm := ts.map some, n := n } with
  | .nx s' => match allSome s'.tm with | some ts' => .ok .non ts' s'.n | none => .no
  | .rt t s' => match allSome s'.tm with | some ts' => .ok t ts' s'.n | none => .no
  | .ex d s' => match allSome s'.tm with | some ts' => .ex d ts' s'.n | none => .no
  | _ => .no
noncomputable def bodyF (G : Gx) (ρ : Nat → Addr) (n : Nat) (ts : List D) (vs : List V) (H : Hp) (lb : ∀ l ∈ labsL ts, l < n) (dom : ∀ l, l < n → ∃ o, H (ρ l) = some o) : Fy where
  A0 := fun a => ∃ l ∈ labsL ts, a = ρ l
  H0 := H
  Z := fun a => (∃ o, H a = some o) ∧ ∀ l, l < n → a ≠ ρ l
  zA := fun a z => ⟨z.1, fun ⟨l, hl, e⟩ => z.2 l (lb l hl) e⟩
  aH := fun a ⟨l, hl, e⟩ => e ▸ dom l (lb l hl)
  n0 := n
  ρ0 := ρ
  tv0 := vs.map some
  xw := fun _ _ => False
theorem RDs.sl : ∀ {ts : List D} {vs : List V}, RDs G ρ H ts vs → Sl G ρ H (ts.map some) (vs.map some) ∧ labsO (ts.map some) = labsL ts
  | [], vs, h => by simp only [RDs] at h; subst h; simp [Sl, labsO, labsL]
  | d :: ds, vs, h => by
    simp only [RDs] at h
    obtain ⟨x, q, rfl, h1, h2⟩ := h
    obtain ⟨q1, q2⟩ := RDs.sl h2
    refine ⟨?_, by simp only [List.map_cons, labsO, labsL, q2]⟩
    simp only [List.map_cons, Sl]
    exact ⟨_, _, rfl, h1, q1⟩
theorem body_end {ts ts' : List D} {vs : List V} {n : Nat} {lb : ∀ l ∈ labsL ts, l < n} {dom : ∀ l, l < n → ∃ o, H (ρ l) = some o} (inj : ∀ i j, i < n → j < n → ρ i = ρ j → i = j) (M : MR G (bodyF G ρ n ts vs H lb dom).toFx ρ' H' σv (vs.map some) s) (e : allSome s.tm = some ts') :
    CallP G ρ n ts vs H ρ' s.n ts' H' ∧ ∀ l, l < s.n → ((bodyF G ρ n ts vs H lb dom).A0 (ρ' l) ∨ H (ρ' l) = none) → l < n → l ∈ labsL ts := by
  have own : ∀ l, l < s.n → ((bodyF G ρ n ts vs H lb dom).A0 (ρ' l) ∨ H (ρ' l) = none) → l < n → l ∈ labsL ts := fun l hl q hn => by
    have ol := M.bas.2 l hn
    have ol : ρ' l = ρ l := ol
    rcases q with ⟨j, hj, q⟩ | q
    · rw [ol] at q
      rw [inj l j hn (lb j hj) q]; exact hj
    · rw [ol] at q
      obtain ⟨o, z⟩ := dom l hn
      rw [z] at q; cases q
  obtain ⟨r1, r2⟩ := Sl.all M.tm e
  refine ⟨⟨M.bas.2, M.bas.1, M.inj, M.dom, r1, fun l hl => ?_, fun a o e1 => ?_, fun l h1 h2 => ?_, M.kd⟩, own⟩
  · rw [r2] at hl
    have m : l ∈ labsS s := List.mem_append_right _ hl
    exact ⟨M.lab l m, own l (M.lab l m) (M.own l m)⟩
  · obtain ⟨q1, q2⟩ := M.frm a o e1
    exact ⟨q1, fun z => q2 fun ⟨l, hl, e⟩ => z l hl e⟩
  · cases q : H (ρ' l) with
    | none => rfl
    | some o =>
      refine absurd ⟨⟨o, q⟩, fun j hj e => ?_⟩ (M.frb l h2)
      have oj : ρ' j = ρ j := M.bas.2 j hj
      have := M.inj l j h2 (Nat.lt_of_lt_of_le hj M.bas.1) (e.trans oj.symm)
      omega
theorem fn_M {P : Program} {w : World} {K : PySem.W.Frag} {mg : Str → Option Value} {base : Heap} {x qual : Str} {st : Stmt} {fa : Addr} {fd : FuncData} {N ps : List Str} {k : Nat} {mb : MS} (Fn : Fun K x qual st fa fd) (S : FnScope N ps (defScope st)) (hG : G.K = K)
    (hb : ∀ (cdv : Value) (A : Around) (outer : List Env) (s : Shared) (H : Hp) (E : XK) (F : Fy), Room k (A.deeper (envOfC qual (defScope st) s.heap.objs.size fa cdv)) → SSs (cxOf CX0 P w K mg base N qual (defScope st) fa cdv A outer s H E).nox G F (defBody st) mb) :
    FnOk P w K mg base CX0 (k + 1) fa fd ps (spM G ps.length (runF N.length mb)) := by
  refine Fn.ok S (fun vs H Q E h => h.1) fun cdv A outer s H vs Q E hr h => ?_
  obtain ⟨hl, ρ, n, ts, r, inj, dom, lb, kd, W⟩ := h
  refine ⟨_, hb cdv A outer s H E (bodyF G ρ n ts vs H lb dom) hr, vs.map some, List.suffix_refl _, ρ, { σ := ts.map some ++ List.replicate (N.length - ts.length) none, tm := ts.map some, n := n }, ?_, ?_⟩
  · obtain ⟨r1, r2⟩ := RDs.sl r
    have hlen := r.length
    have sub : ∀ l ∈ labsS { σ := ts.map some ++ List.replicate (N.length - ts.length) none, tm := ts.map some, n := n }, l ∈ labsL ts := fun l h => by
      rcases List.mem_append.mp h with h | h
      · have h : l ∈ labsO (ts.map some ++ List.replicate (N.length - ts.length) none) := h
        rw [labsO_append] at h
        rcases List.mem_append.mp h with h | h
        · rw [← r2]; exact h
        · exact absurd h (labs_none _)
      · rw [← r2]; exact h
    refine ⟨?_, r1, inj, dom, fun l h => lb l (sub l h), fun l h => .inl ⟨l, sub l h, rfl⟩, fun a o e => ⟨⟨o, e⟩, fun _ => e⟩, kd, fun l hl z => z.2 l hl rfl, ⟨Nat.le_refl _, fun l _ => rfl⟩⟩
    show Sl G ρ H _ (vs.map some ++ List.replicate (N.length - vs.length) none)
    rw [← hlen]
    exact r1.append (Sl.none_map _)
  · unfold runF at W
    cases e : mb { σ := ts.map some ++ List.replicate (N.length - ts.length) none, tm := ts.map some, n := n } with
    | nx s' =>
      simp only [e] at W
      cases ea : allSome s'.tm with
      | none => simp only [ea] at W
      | some ts' =>
        simp only [ea] at W
        intro ρ' σv' H' M
        obtain ⟨P, _⟩ := body_end inj M ea
        exact W ρ' .non H' P (by simp only [RD]) fun l h => by simp [labs] at h
    | rt t s' =>
      simp only [e] at W
      cases ea : allSome s'.tm with
      | none => simp only [ea] at W
      | some ts' =>
        simp only [ea] at W
        intro ρ' σv' v H' M
        obtain ⟨P, own⟩ := body_end inj M.m ea
        exact W ρ' v H' P M.rd1 fun l h => ⟨(M.lb1 l h).1, own l (M.lb1 l h).1 (M.lb1 l h).2⟩
    | bk s' => simp only [e] at W
    | ct s' => simp only [e] at W
    | ex d s' =>
      simp only [e] at W
      cases ea : allSome s'.tm with
      | none => simp only [ea] at W
      | some ts' => simp only [ea] at W
    | no => simp only [e] at W
end
end Mi
namespace Mi
open PySem L2 PySem.Spec PyProof.Rows
mutual
noncomputable def sz : D → Nat
  | .tup ds => szL ds + 1
  | .ro ds => szL ds + 1
  | .lst _ ds => szL ds + 1
  | .dct _ _ vs => szL vs + 1
  | .obj _ _ _ vs => szL vs + 1
  | .non => 1 | .bool _ => 1 | .int _ => 1 | .str _ => 1
noncomputable def szL : List D → Nat
  | [] => 0
  | d :: ds => sz d + szL ds
end
mutual
theorem findT_sz (l : Nat) : ∀ (t d : D), findT l t = some d → sz d ≤ sz t
  | .non, d, e => by simp only [findT] at e; cases e
  | .bool b, d, e => by simp only [findT] at e; cases e
  | .int b, d, e => by simp only [findT] at e; cases e
  | .str b, d, e => by simp only [findT] at e; cases e
  | .tup ds, d, e => by simp only [findT, sz] at e ⊢; have := findL_sz l ds d e; omega
  | .ro ds, d, e => by simp only [findT, sz] at e ⊢; have := findL_sz l ds d e; omega
  | .lst k ds, d, e => by
    simp only [findT] at e
    by_cases h : k = l
    · rw [if_pos h] at e; cases e; exact Nat.le_refl _
    · rw [if_neg h] at e; simp only [sz]; have := findL_sz l ds d e; omega
  | .dct k ks vs, d, e => by
    simp only [findT] at e
    by_cases h : k = l
    · rw [if_pos h] at e; cases e; exact Nat.le_refl _
    · rw [if_neg h] at e; simp only [sz]; have := findL_sz l vs d e; omega
  | .obj k c ns vs, d, e => by
    simp only [findT] at e
    by_cases h : k = l
    · rw [if_pos h] at e; cases e; exact Nat.le_refl _
    · rw [if_neg h] at e; simp only [sz]; have := findL_sz l vs d e; omega
theorem findL_sz (l : Nat) : ∀ (t : List D) (d : D), findL l t = some d → sz d ≤ szL t
  | [], d, e => by simp only [findL] at e; cases e
  | t :: ts, d, e => by
    simp only [findL] at e
    simp only [szL]
    cases e1 : findT l t with
    | some y => rw [e1] at e; cases e; have := findT_sz l t _ e1; omega
    | none => rw [e1] at e; have := findL_sz l ts d e; omega
end
section
variable {G : Gx} {F : Fy} {ρ : Nat → Addr} {H : Hp} {σv tv : List (Option V)} {s : Stt} {t : D} {ts ds es : List D} {v : V} {vs xs ys : List V} {l : Nat} {Q : VK}
theorem no_self (M : MR G F.toFx ρ H σv tv s) (h : RD G ρ H (.lst l ds) v) (lb : ∀ j ∈ labs (.lst l ds), j < s.n) : l ∉ labsL ds := fun hl => by
  have h0 := h
  simp only [RD] at h0
  obtain ⟨rfl, xs, q, r⟩ := h0
  have := findL_some l ds xs r hl
  cases e : findL l ds with
  | none => rw [e] at this; cases this
  | some d =>
    obtain ⟨q1, q2⟩ := findL_rd l ds xs d r e
    have e2 := RD.uniq M.kd M.inj _ _ _ q1 h (fun j hj => lb j (by simp only [labs]; exact List.mem_cons_of_mem _ (q2 j hj))) lb
    have e3 := findL_sz l ds d e
    rw [e2] at e3
    simp only [sz] at e3
    omega
theorem MR.put2 {o : HO} {d : D} (M : MR G F.toFx ρ H σv tv s) (ln : l < s.n) (ow : F.A0 (ρ l) ∨ F.H0 (ρ l) = none) (ts : Stays H (upd H (ρ l) o)) (k : KD G.K (upd H (ρ l) o)) (hd : RD G ρ (upd H (ρ l) o) d (.ref (ρ l))) (hb : LB F.toFx ρ s.n (labs d)) :
    MR G F.toFx ρ (upd H (ρ l) o) σv tv (s.put l d) := by
  have step : ∀ k, k ∈ labsS s → ρ k = ρ k ∧ (match (if k = l then some d else none : Option D) with | some d => RD G ρ (upd H (ρ l) o) d (.ref (ρ k)) | none => ∀ o', H (ρ k) = some o' → upd H (ρ l) o (ρ k) = some o') := fun k hk => by
    refine ⟨rfl, ?_⟩
    by_cases e : k = l
    · rw [if_pos e]; subst e; exact hd
    · rw [if_neg e]
      intro o' q
      rw [upd_ne (fun z => e (M.inj k l (M.lab k hk) ln z))]
      exact q
  have sub : ∀ (xs : List (Option D)) (j : Nat), j ∈ labsO (rpO (fun k => if k = l then some d else none) xs) → (∀ i ∈ labsO xs, i ∈ labsS s) → j < s.n ∧ (F.A0 (ρ j) ∨ F.H0 (ρ j) = none) := fun xs j h hx => by
    rcases labsO_rp j xs h with q | ⟨k, d', q1, q2, q3⟩
    · exact ⟨M.lab j (hx j q), M.own j (hx j q)⟩
    · by_cases e : k = l
      · rw [if_pos e] at q2; cases q2; exact hb j q3
      · rw [if_neg e] at q2; cases q2
  have all : ∀ j ∈ labsS (s.put l d), j < s.n ∧ (F.A0 (ρ j) ∨ F.H0 (ρ j) = none) := fun j h => by
    rcases List.mem_append.mp h with h | h
    · exact sub s.σ j h fun i hi => List.mem_append_left _ hi
    · exact sub s.tm j h fun i hi => List.mem_append_right _ hi
  refine ⟨Sl.rp ts M.sl fun k hk => step k (List.mem_append_left _ hk), Sl.rp ts M.tm fun k hk => step k (List.mem_append_right _ hk), M.inj, fun k hk => ?_, fun j h => (all j h).1, fun j h => (all j h).2, fun a o' e => ?_, k, M.frb, M.bas⟩
  · by_cases e : ρ k = ρ l
    · rw [e]; exact ⟨o, upd_same⟩
    · rw [upd_ne e]; exact M.dom k hk
  · obtain ⟨⟨o1, e1⟩, e2⟩ := M.frm a o' e
    by_cases ea : a = ρ l
    · subst ea
      refine ⟨⟨o, upd_same⟩, fun n => ?_⟩
      rcases ow with q | q
      · exact absurd q n
      · rw [e] at q; cases q
    · rw [upd_ne ea]
      exact ⟨⟨o1, e1⟩, e2⟩
theorem upd_kd {o o' : HO} {a : Addr} (k : KD G.K H) (e : H a = some o) : KD G.K (upd H a o') := fun b ob q => by
  by_cases h : b = a
  · subst h; rw [k _ _ q] at e; cases e
  · rw [upd_ne h]; exact k _ _ q
theorem upd_stays {o' : HO} {a : Addr} {xs : List V} (e : H a = some (.lst xs)) : Stays H (upd H a o') :=
  ⟨fun b ys q => by rw [upd_ne (ne_of q e (by intro z; cases z))]; exact q, fun b o u q => by rw [upd_ne (ne_of q e (by intro z; cases z))]; exact q⟩
theorem RDs.upd {o : HO} {a : Addr} (st : Stays H (upd H (ρ l) o)) (inj : ∀ i j, i < s.n → j < s.n → ρ i = ρ j → i = j) (ln : l < s.n) (r : RDs G ρ H ds xs) (lb : ∀ j ∈ labsL ds, j < s.n ∧ j ≠ l) : RDs G ρ (L2.upd H (ρ l) o) ds xs :=
  RDs.stay st ds xs r fun j hj => ⟨rfl, fun o' e => by rw [upd_ne (fun z => (lb j hj).2 (inj j l (lb j hj).1 ln z))]; exact e⟩
theorem MR.putL (M : MR G F.toFx ρ H σv tv s) (hl : H (ρ l) = some (.lst xs)) (ln : l < s.n) (ow : F.A0 (ρ l) ∨ F.H0 (ρ l) = none) (r : RDs G ρ H es ys) (lb : LB F.toFx ρ s.n (labsL es)) (ne : l ∉ labsL es) :
    MR G F.toFx ρ (upd H (ρ l) (.lst ys)) σv tv (s.put l (.lst l es)) := by
  refine M.put2 ln ow (upd_stays hl) (upd_kd M.kd hl) ?_ fun j hj => ?_
  · simp only [RD]
    exact ⟨trivial, ys, upd_same, RDs.upd (a := 0) (upd_stays hl) M.inj ln r fun j hj => ⟨(lb j hj).1, fun z => ne (z ▸ hj)⟩⟩
  · simp only [labs] at hj
    rcases List.mem_cons.mp hj with q | q
    · rw [q]; exact ⟨ln, ow⟩
    · exact lb j q
end
noncomputable def isL (x : D) : M Unit := fun s => match lstD x with | some _ => .ok () s | none => .no
noncomputable def mMeth (mo : M D) (ms : List (M D)) (g : D → List D → M D) : M D := bd mo fun x => bd (isL x) fun _ => bd (psh x) fun _ => bd (mArgs ms) fun ys => bd pop fun x' => g x' ys
section
variable {X : Cx} {G : Gx} {F : Fy} {e o : Expr} {es : List Expr} {apos cpos : Pos}
noncomputable def MtOK (G : Gx) (F : Fy) (r : V → List V → Hp → VK → Prop) (g : D → List D → M D) : Prop := ∀ ρ s t ts v vs H σv tv Q, MRL G F.toFx ρ H σv tv s (t :: ts) (v :: vs) → wM G F σv tv (g t ts s) Q → r v vs H (fun w H' => KD G.K H' → Q w H')
noncomputable def setD (o i v : D) : MS := fun s => match o, i with
  | .lst l ds, .int k => match ixN ds.length k with
    | some j => if l ∉ labs v then .nx (s.put l (.lst l (ds.set j v))) else .no
    | none => .no
  | _, _ => .no
noncomputable def mTri (me mo mi : M D) (g : D → D → D → MS) : MS := lift me fun v => lift (psh v) fun _ => lift mo fun o => lift (psh o) fun _ => lift mi fun i => lift pop fun o' => lift pop fun v' => g o' i v'
theorem tri2_imp {mo mi : M D} {g : D → D → D → MS} {tv : List (Option V)} {Dd : Ends} {σ : L2.St} {H1 : Hp} {ρ1 : Nat → Addr} {s1 : Stt} {t : D} {v : V} (hs : F.tv0 <:+ tv) (M1 : MRL G F.toFx ρ1 H1 σ tv s1 [t] [v])
    (W : wS G F tv ((lift (psh t) fun _ => lift mo fun o => lift (psh o) fun _ => lift mi fun i => lift pop fun o' => lift pop fun v' => g o' i v') s1) Dd) :
    tM G F mo σ H1 fun o H2 => tM G F mi σ H2 fun i H3 => ∃ ρ s t1 t2 t3, MRL G F.toFx ρ H3 σ tv s [t1, t2, t3] [v, o, i] ∧ wS G F tv (g t2 t3 t1 s) Dd := by
  refine ⟨some v :: tv, suf1 hs, ρ1, s1.psh t, M1.push, ?_⟩
  simp only [lift, psh] at W
  cases e1 : mo (s1.psh t) with
  | ex d s2 => simp only [e1] at W; exact W
  | no => simp only [e1] at W; exact W
  | ok o s2 =>
    simp only [e1] at W
    intro ρ2 u H2 M2
    refine ⟨some u :: some v :: tv, suf1 (suf1 hs), ρ2, s2.psh o, M2.push, ?_⟩
    cases e2 : mi (s2.psh o) with
    | ex d s3 => simp only [e2] at W; exact W
    | no => simp only [e2] at W; exact W
    | ok i s3 =>
      simp only [e2, pop] at W
      intro ρ3 w H3 M3
      cases e3 : s3.tm with
      | nil => simp only [e3] at W; exact False.elim W
      | cons o3 r3 =>
        cases o3 with
        | none => simp only [e3] at W; exact False.elim W
        | some x3 =>
          simp only [e3] at W
          cases r3 with
          | nil => exact False.elim W
          | cons o4 r4 =>
            cases o4 with
            | none => exact False.elim W
            | some x4 =>
              have M4 := M3.down e3
              have M5 := M4.down (s' := { s3 with tm := some x4 :: r4 }) rfl
              exact ⟨ρ3, _, x4, x3, i, M5, W⟩
theorem tri_imp {me mo mi : M D} {g : D → D → D → MS} {tv : List (Option V)} {Dd : Ends} {σ : L2.St} {H : Hp} (h : tSv G F (mTri me mo mi g) tv Dd σ H) :
    tM G F me σ H fun v H1 => tM G F mo σ H1 fun o H2 => tM G F mi σ H2 fun i H3 => ∃ ρ s t1 t2 t3, MRL G F.toFx ρ H3 σ tv s [t1, t2, t3] [v, o, i] ∧ wS G F tv (g t2 t3 t1 s) Dd :=
  ⟨tv, (lift_imp h).mono fun v H1 ⟨ρ1, s1, t, M1, W⟩ => tri2_imp h.1 M1 W⟩
theorem ok_set {ρ : Nat → Addr} {s : Stt} {t1 t2 t3 : D} {v o i : V} {H : Hp} {σv tv : List (Option V)} {Dd : Ends} (M : MRL G F.toFx ρ H σv tv s [t1, t2, t3] [v, o, i]) (W : wS G F tv (setD t2 t3 t1 s) Dd) : rSetL o i v H fun H' => Dd.nx σv H' := by
  have h := M.rd
  simp only [RDs] at h
  obtain ⟨_, _, e, h1, _, _, e2, h2, _, _, e3, h3, _⟩ := h
  cases e; cases e2; cases e3
  have b1 : LB F.toFx ρ s.n (labs t1) := fun l h => M.lb l (by simp only [labsL]; exact List.mem_append_left _ h)
  have b2 : LB F.toFx ρ s.n (labs t2) := fun l h => M.lb l (by simp only [labsL]; exact List.mem_append_right _ (List.mem_append_left _ h))
  cases t2 with
  | lst l ds =>
    cases t3 with
    | int k =>
      simp only [setD] at W
      cases ek : ixN ds.length k with
      | none => simp only [ek] at W; exact False.elim W
      | some j =>
        simp only [ek] at W
        by_cases hc : l ∉ labs t1
        · rw [if_pos hc] at W
          have h2' := h2
          simp only [RD] at h2 h3
          obtain ⟨rfl, xs, hx, r⟩ := h2
          subst h3
          have ns := no_self M.m h2' fun j hj => (b2 j hj).1
          have bl := b2 l (by simp only [labs]; exact List.mem_cons_self ..)
          have mm : ∀ q, q ∈ labsL (ds.set j t1) → q ∈ labsL ds ∨ q ∈ labs t1 := fun q hq => by
            obtain ⟨d, h1, h2⟩ := of_labsL hq
            rcases List.mem_or_eq_of_mem_set h1 with z | z
            · exact .inl (labsL_mem z q h2)
            · subst z; exact .inr h2
          refine ⟨_, xs, k, j, rfl, rfl, hx, by rw [← r.length]; exact ek, W ρ σv _ (M.m.putL hx bl.1 bl.2 (r.set j h1) (fun q hq => ?_) fun hq => ?_)⟩
          · rcases mm q hq with z | z
            · exact b2 q (by simp only [labs]; exact List.mem_cons_of_mem _ z)
            · exact b1 q z
          · rcases mm l hq with z | z
            · exact ns z
            · exact hc z
        · rw [if_neg hc] at W; exact False.elim W
    | _ => exact False.elim W
  | _ => exact False.elim W
theorem ss_setI {ob ix : Expr} {pos tpos : Pos} {mo mi me : M D} (he : SE X G F e me) (ho : SE X G F ob mo) (hi : SE X G F ix mi) (hg : ∀ {to ti : TE}, PE X ob to → PE X ix ti → PG X (.Subscript ob ix tpos) (gSub to ti rSetL)) (hs : swapsWithSole [.Subscript ob ix tpos] e pos.line X.env = pure false := by rfl) (hw : swappedStores [.Subscript ob ix tpos] e X.env = pure none := by rfl)
    (h1 : (assignEach [.Subscript ob ix tpos] X.env).map (·.2) = [assign (.Subscript ob ix tpos) X.env] := by rfl) : SS X G F (.Assign [.Subscript ob ix tpos] e pos) (mTri me mo mi setD) := by
  refine PS.imp0 (ps_asg he (hg ho hi) hs hw h1) fun Dd σ H ⟨tv, h⟩ => ?_
  exact (tri_imp h).mono fun v H1 h1 => h1.mono fun o H2 h2 => h2.mono fun i H3 ⟨ρ, s, t1, t2, t3, M, W⟩ => ok_set M W
end
end Mi
namespace Mi
open PySem L2
section
variable {X : Cx} {G : Gx} {F : Fy} {e a b c : Expr} {pos : Pos} {ma mb mc m : M D}
theorem se_add (hk : X.K = G.K) (ha : SE X G F a ma) (hb : SE X G F b mb) : SE X G F (.BinOp a .Add b pos) (mBin ma mb addD) :=
  se_op hk (r := fun x y H Q => rI0 (fun i j => .int (i + j)) x y H Q ∨ rCatN G.K x y H Q ∨ rCat x y H Q ∨ ∃ i j, x = .str i ∧ y = .str j ∧ i.length + j.length ≤ sizeLine ∧ Q (.str (i ++ j)) H) (hk ▸ OpR.or op_add (OpR.or op_catN (OpR.or op_cat op_add_str))) ok_add ha hb
theorem se_sub (hk : X.K = G.K) (ha : SE X G F a ma) (hb : SE X G F b mb) : SE X G F (.BinOp a .Sub b pos) (mBin ma mb subD) := se_op hk op_sub ok_sub ha hb
theorem se_mul (hk : X.K = G.K) (ha : SE X G F a ma) (hb : SE X G F b mb) : SE X G F (.BinOp a .Mult b pos) (mBin ma mb mulD) := se_op hk (r := fun x y H Q => rI CMul (fun i j => .int (i * j)) x y H Q ∨ (rRep x y H Q ∨ rRepT G.K x y H Q)) (OpR.or op_mul (OpR.or op_rep (hk ▸ op_repT))) ok_mul ha hb
theorem se_fdiv (hk : X.K = G.K) (ha : SE X G F a ma) (hb : SE X G F b mb) : SE X G F (.BinOp a .FloorDiv b pos) (mBin ma mb fdivD) := se_op hk op_fdiv ok_fdiv ha hb
theorem se_mod (hk : X.K = G.K) (ha : SE X G F a ma) (hb : SE X G F b mb) : SE X G F (.BinOp a .Mod b pos) (mBin ma mb modD) := se_op hk op_mod ok_mod ha hb
theorem se_pow (hk : X.K = G.K) (ha : SE X G F a ma) (hb : SE X G F b mb) : SE X G F (.BinOp a .Pow b pos) (mBin ma mb powD) := se_op hk op_pow ok_pow ha hb
theorem se_neg (hk : X.K = G.K) (ha : SE X G F a ma) : SE X G F (.UnaryOp .USub a pos) (bd ma negD) := se_un hk un_neg ok_neg ha
structure Cm (X : Cx) (G : Gx) (F : Fy) (op : CmpOp) (g : D → D → M D) : Prop where
  h : ∃ r, OpR X (compareOp op) r ∧ CmpOK G F r g
theorem cm_lt : Cm X G F .Lt ltD := ⟨_, op_lt, ok_lt⟩
theorem cm_le : Cm X G F .LtE leD := ⟨_, op_le, ok_le⟩
theorem cm_gt : Cm X G F .Gt gtD := ⟨_, op_gt, ok_gt⟩
theorem cm_eq (hk : X.K = G.K) (hu : X.A.units + 64 < cLine) : Cm X G F .Eq eqD := ⟨_, hk ▸ op_eqD hu, ok_eq⟩
theorem cm_ne (hk : X.K = G.K) (hu : X.A.units + 64 < cLine) : Cm X G F .NotEq neD := ⟨_, hk ▸ op_neD hu, ok_ne⟩
theorem cm_in (hk : X.K = G.K) (hu : X.A.units + 64 < cLine) : Cm X G F .In inD := ⟨_, hk ▸ op_inD hu, ok_in⟩
theorem cm_nin (hk : X.K = G.K) (hu : X.A.units + 64 < cLine) : Cm X G F .NotIn ninD := ⟨_, hk ▸ op_notInD hu, ok_nin⟩
theorem cm_isN : Cm X G F .Is isN := ⟨_, op_isN, ok_isN⟩
theorem cm_notN : Cm X G F .IsNot notN := ⟨_, op_notN, ok_notN⟩
theorem se_cmp {op : CmpOp} {g : D → D → M D} (hc : Cm X G F op g) (ha : SE X G F a ma) (hb : SE X G F b mb) (hm : behindInMarks op b = false) : SE X G F (.Compare a [op] [b] pos) (mBin ma mb g) := by
  obtain ⟨r, h1, h2⟩ := hc.h
  exact se_cmpR h1 h2 ha hb hm
theorem sb_cmp {op : CmpOp} {g : D → D → M D} (hc : Cm X G F op g) (ha : SE X G F a ma) (hb : SE X G F b mb) (hm : behindInMarks op b = false) : SB X G F (.Compare a [op] [b] pos) (mBoo (mBin ma mb g)) := by
  obtain ⟨r, h1, h2⟩ := hc.h
  exact sb_cmpR h1 h2 ha hb hm
theorem se_cmp2 {op op' : CmpOp} {g g' : D → D → M D} (hc : Cm X G F op g) (hc' : Cm X G F op' g') (ha : SE X G F a ma) (hb : SE X G F b mb) (hcc : SE X G F c mc) (hm : lastMarks [op, op'] [b, c] = false := by with_unfolding_all rfl) : SE X G F (.Compare a [op, op'] [b, c] pos) (mChain ma mb mc g g') := by
  obtain ⟨r, h1, h2⟩ := hc.h
  obtain ⟨r', h1', h2'⟩ := hc'.h
  exact se_chain h1 h2 h1' h2' ha hb hcc hm
theorem sb_cmp2 {op op' : CmpOp} {g g' : D → D → M D} (hc : Cm X G F op g) (hc' : Cm X G F op' g') (ha : SE X G F a ma) (hb : SE X G F b mb) (hcc : SE X G F c mc) (hm : lastMarks [op, op'] [b, c] = false := by with_unfolding_all rfl) : SB X G F (.Compare a [op, op'] [b, c] pos) (mBoo (mChain ma mb mc g g')) := by
  obtain ⟨r, h1, h2⟩ := hc.h
  obtain ⟨r', h1', h2'⟩ := hc'.h
  exact sb_chain h1 h2 h1' h2' ha hb hcc hm
theorem se_idx (hk : X.K = G.K) (ha : SE X G F a ma) (hb : SE X G F b mb) (hs : PlainIx b) : SE X G F (.Subscript a b pos) (mBin ma mb ixD) := se_ix hk (hk ▸ IxR.or ix_list ix_tup) ok_ix ha hb hs
structure Cb (X : Cx) (G : Gx) (F : Fy) (f : Value) (g : List D → M D) : Prop where
  h : ∃ r, CallR X f r ∧ CallOK G F r g
theorem cb_len (hk : X.K = G.K) : Cb X G F (.builtin "len") lenD := ⟨_, hk ▸ call_len_seq, ok_len⟩
theorem cb_abs : Cb X G F (.builtin "abs") absD := ⟨_, call_abs, ok_abs⟩
theorem cb_min (hc : X.calm = true) : Cb X G F (.builtin "min") minD := ⟨_, call_min2 hc, ok_min⟩
theorem cb_max (hc : X.calm = true) : Cb X G F (.builtin "max") maxD := ⟨_, call_max2 hc, ok_max⟩
theorem cb_all (hk : X.K = G.K) (hd : X.A.handled = none) : Cb X G F (.builtin "all") allD := ⟨_, hk ▸ call_allB hd, ok_all⟩
theorem cb_any (hk : X.K = G.K) (hd : X.A.handled = none) : Cb X G F (.builtin "any") anyD := ⟨_, hk ▸ call_anyB hd, ok_any⟩
theorem cb_tuple (hk : X.K = G.K) : Cb X G F (.type "tuple") tupF := ⟨_, hk ▸ call_tupN, ok_tupF⟩
theorem cb_list (hk : X.K = G.K) : Cb X G F (.type "list") listF := ⟨_, hk ▸ call_list_of, ok_listF⟩
theorem se_cb {x : Str} {p : Pos} {es : List Expr} {ms : List (M D)} {g : List D → M D} {id : String} (hk : X.K = G.K) (hc : Cb X G F (.builtin id) g) (hgl : Gl X x) (hm : X.mg x = none) (hv : bootBuiltins x = some (.builtin id)) (ha : SA X G F (e :: es) (mArgs ms)) (hn : x ≠ "__name__" := by decide) (hdb : (x == ("__debug__" : Str)) = false := by decide)
    (he : starEach (e :: es) X.env = (false, eval e X.env) :: starEach es X.env := by rfl) (hpl : (backTo pos (starEach es X.env)).any (·.1) = false := by rfl) : SE X G F (.Call (.Name x p) (e :: es) [] pos) (mCB ms g) := by
  obtain ⟨r, h1, h2⟩ := hc.h
  exact se_callB hk h1 h2 hgl hm hv ha hn hdb he hpl
theorem se_ct {x : Str} {p : Pos} {es : List Expr} {ms : List (M D)} {g : List D → M D} {T : String} (hk : X.K = G.K) (hc : Cb X G F (.type T) g) (hgl : Gl X x) (hm : X.mg x = none) (hv : bootBuiltins x = some (.type T)) (ha : SA X G F (e :: es) (mArgs ms)) (hn : x ≠ "__name__" := by decide) (hdb : (x == ("__debug__" : Str)) = false := by decide)
    (he : starEach (e :: es) X.env = (false, eval e X.env) :: starEach es X.env := by rfl) (hpl : (backTo pos (starEach es X.env)).any (·.1) = false := by rfl) : SE X G F (.Call (.Name x p) (e :: es) [] pos) (mCB ms g) := by
  obtain ⟨r, h1, h2⟩ := hc.h
  exact se_callTy hk h1 h2 hgl hm hv ha hn hdb he hpl
structure Cl (X : Cx) (G : Gx) (F : Fy) (id : String) (g : D → List D → M D) : Prop where
  h : ∃ r, MtR X id r ∧ MtOK G F r g
end
end Mi
namespace Mi
open PySem L2 PySem.Spec PyProof.Rows
section
variable {X : Cx} {G : Gx} {F : Fy} {e a b c : Expr} {pos : Pos}
noncomputable def isiAny (Ts : List String) (d : D) : Option Bool := match Ts with
  | [] => some false
  | T :: r => match isiD T d, isiAny r d with
    | some b, some c => some (b || c)
    | _, _ => none
noncomputable def mIsiT (Ts : List String) (m : M D) : M D := bd m fun d => match isiAny Ts d with | some b => rt (.bool b) | none => fl
end
end Mi
namespace Mi
open PySem L2
noncomputable def G0 (K : PySem.W.Frag) : Gx := ⟨K, fun _ => none, fun _ _ _ h => by cases h⟩
theorem fnOk_no {P : Program} {w : World} {K : PySem.W.Frag} {mg : Str → Option Value} {base : Heap} {CX : CXT} {k : Nat} {fa : Addr} {fd : FuncData} {ps : List Str} {G : Gx} {np : Nat} : FnOk P w K mg base CX k fa fd ps (spM G np fun _ _ => .no) :=
  ⟨fun vs H Q E h => by obtain ⟨_, _, _, _, _, _, _, _, _, h⟩ := h; exact h.elim, fun A outer s H args us vs Q E _ _ _ _ h => by obtain ⟨_, _, _, _, _, _, _, _, _, h⟩ := h; exact h.elim⟩
section
variable {X : Cx} {G : Gx} {F : Fy} {e o : Expr} {es : List Expr} {apos cpos : Pos}
end
end Mi
namespace Mi
open PySem L2
inductive SEs (X : Cx) (G : Gx) (F : Fy) : List Expr → List (M D) → Prop
  | nil : SEs X G F [] []
  | cons {e : Expr} {m : M D} {es : List Expr} {ms : List (M D)} : SE X G F e m → nst e = true → SEs X G F es ms → SEs X G F (e :: es) (m :: ms)
theorem sa_of {X : Cx} {G : Gx} {F : Fy} {es : List Expr} {ms : List (M D)} (hk : X.K = G.K) (h : SEs X G F es ms) : SA X G F es (mArgs ms) := by
  induction h with
  | nil => exact sa_nil hk
  | cons h1 h2 _ ih => exact sa_cons hk h1 ih h2
end Mi
namespace Mi
open PySem L2
section
variable {X : Cx} {G : Gx} {F : Fy} {tg iter elt : Expr} {pos : Pos}
end
end Mi
namespace Mi
open PySem L2
section
variable {X : Cx} {G : Gx} {F : Fy} {a b tg : Expr} {pos : Pos}
noncomputable def enmAt (i : Nat) : List (Option D) → Option (Option D)
  | some c :: _ => (lstD c).map fun ds => (ds[i]?).map fun d => .tup [.int i, d]
  | _ => none
noncomputable def kEnm : ItK := ⟨1, enmAt, seqLen⟩
theorem itok_enm {a : Addr} : ItOK G (Ite G.K a) kEnm [some (.ref a)] := by
  intro F ρ H σv tvp tv s i M
  dsimp only [kEnm]
  cases e : s.tm.drop tvp.length with
  | nil => trivial
  | cons o r =>
    cases o with
    | none => trivial
    | some c =>
      simp only [enmAt]
      obtain ⟨h, lb⟩ := MR.head (s := s.popn tvp.length) M.popn e
      cases e1 : lstD c with
      | none => trivial
      | some ds =>
        simp only [Option.map_some]
        obtain ⟨a', xs, ea, sq, rr, sub⟩ := h.lstq e1
        cases ea
        cases e2 : ds[i]? with
        | none =>
          simp only [Option.map_none]
          refine ⟨xs, sq, ?_⟩
          rw [← rr.length]
          exact List.getElem?_eq_none_iff.mp e2
        | some d =>
          simp only [Option.map_some]
          obtain ⟨x, ex, rx⟩ := rr.get i d e2
          refine ⟨⟨xs, x, sq, ex⟩, ?_⟩
          rintro x' H' ⟨p, y, hp, rfl, rfl, hx, kd⟩
          rw [hx xs sq] at ex
          cases ex
          have sm := Same.new (.tup [.int i, x]) hp
          refine ⟨M.same sm kd, RDs.one ?_, fun l hl => lb l (sub l (labsL_mem (List.mem_of_getElem? e2) l (by simpa only [labsL, labs, List.append_nil, List.nil_append] using hl)))⟩
          simp only [RD]
          refine ⟨p, _, rfl, SqT.of upd_same, ?_⟩
          have r1 := (RDs.one rx).same sm
          simp only [RDs] at r1 ⊢
          obtain ⟨x, r, e, h1, h2⟩ := r1
          cases e
          exact ⟨_, _, rfl, by simp only [RD], _, _, rfl, h1, rfl⟩
noncomputable def enmAtT (i : Nat) : List (Option D) → Option (Option D)
  | some (.tup ds) :: _ => some ((ds[i]?).map fun d => .tup [.int i, d])
  | _ => none
noncomputable def kEnmT : ItK := ⟨1, enmAtT, seqLen⟩
theorem itok_enmT {a : Addr} : ItOK G (Itet G.K a) kEnmT [some (.ref a)] := by
  intro F ρ H σv tvp tv s i M
  dsimp only [kEnmT]
  cases e : s.tm.drop tvp.length with
  | nil => trivial
  | cons o r =>
    cases o with
    | none => trivial
    | some c =>
      obtain ⟨h, lb⟩ := MR.head (s := s.popn tvp.length) M.popn e
      cases c with
      | tup ds =>
        simp only [enmAtT]
        obtain ⟨a', xs, ea, sq, rr⟩ := h.tupq
        cases ea
        cases e2 : ds[i]? with
        | none =>
          simp only [Option.map_none]
          refine ⟨xs, sq, ?_⟩
          rw [← rr.length]
          exact List.getElem?_eq_none_iff.mp e2
        | some d =>
          simp only [Option.map_some]
          obtain ⟨x, ex, rx⟩ := rr.get i d e2
          refine ⟨⟨xs, x, sq, ex⟩, ?_⟩
          rintro x' H' ⟨p, y, hp, rfl, rfl, hx, kd⟩
          rw [hx xs sq] at ex
          cases ex
          have sm := Same.new (.tup [.int i, x]) hp
          refine ⟨M.same sm kd, RDs.one ?_, fun l hl => lb l (by simp only [labs]; exact labsL_mem (List.mem_of_getElem? e2) l (by simpa only [labsL, labs, List.append_nil, List.nil_append] using hl))⟩
          simp only [RD]
          refine ⟨p, _, rfl, SqT.of upd_same, ?_⟩
          have r1 := (RDs.one rx).same sm
          simp only [RDs] at r1 ⊢
          obtain ⟨x, r, e, h1, h2⟩ := r1
          cases e
          exact ⟨_, _, rfl, by simp only [RD], _, _, rfl, h1, rfl⟩
      | _ => trivial
noncomputable def enmI (ts : List D) : M ItK := fun s => match ts with
  | [.lst l ds] => .ok kEnm (s.psh (.lst l ds))
  | [.ro ds] => .ok kEnm (s.psh (.ro ds))
  | [.tup ds] => .ok kEnmT (s.psh (.tup ds))
  | _ => .no
noncomputable def mEnm (ms : List (M D)) : M ItK := bd (mArgs ms) enmI
theorem si_enm {p tpos : Pos} {elts : List Expr} {x1 : Nat} {ms : List (M D)} (hk : X.K = G.K) (hg : Gl X "enumerate") (hm : X.mg "enumerate" = none) (ha : SA X G F [a] (mArgs ms)) (hs : starEach [a] X.env = [(false, eval a X.env)] := by rfl) : SI X G F (.Tuple elts x1 tpos) (.Call (.Name "enumerate" p) [a] [] pos) (mEnm ms) := by
  refine PI.imp0 (pi_enum2 hg hm ha hs) fun σ H R ⟨tv, hs, ρ, s, M, W⟩ => ⟨tv, hs, ρ, s, M, ?_⟩
  unfold mEnm bd at W
  cases e : mArgs ms s with
  | ex d s1 => rw [e] at W; exact W
  | no => rw [e] at W; exact W
  | ok ts s1 =>
    rw [e] at W
    intro ρ1 vs H1 M1
    rw [hk]
    unfold enmI at W
    dsimp only at W
    split at W
    · rename_i ts' K s' hh
      split at hh
      · cases hh
        obtain ⟨v, rfl, h, _⟩ := M1.one
        obtain ⟨a, xs, rfl, sq, r, _⟩ := h.lstq (ds := _) rfl
        exact ⟨a, rfl, .inl ⟨⟨xs, sq⟩, W ρ1 H1 [some (.ref a)] _ rfl M1.push itok_enm⟩⟩
      · cases hh
        obtain ⟨v, rfl, h, _⟩ := M1.one
        obtain ⟨a, xs, rfl, sq, r, _⟩ := h.lstq (ds := _) rfl
        exact ⟨a, rfl, .inl ⟨⟨xs, sq⟩, W ρ1 H1 [some (.ref a)] _ rfl M1.push itok_enm⟩⟩
      · cases hh
        obtain ⟨v, rfl, h, _⟩ := M1.one
        obtain ⟨a, xs, rfl, sq, r⟩ := h.tupq
        exact ⟨a, rfl, .inr ⟨⟨xs, sq⟩, W ρ1 H1 [some (.ref a)] _ rfl M1.push itok_enmT⟩⟩
      · cases hh
    · rename_i hh
      split at hh <;> cases hh
    · exact False.elim W
end
end Mi
namespace Mi
open PySem L2
section
variable {X : Cx} {G : Gx} {F : Fy} {a b tg : Expr} {pos : Pos}
noncomputable def intsD (lo : Int) (n : Nat) : List D := (List.range n).map fun (k : Nat) => D.int (lo + (k : Int))
end
end Mi
namespace Mi
open PySem L2
section
variable {X : Cx} {G : Gx} {F : Fy} {a b tg : Expr} {pos : Pos}
noncomputable def mulT (x y : D) : M D := match x, y with
  | .tup [], .int k => if -(2 ^ 63) ≤ k ∧ k < 2 ^ 63 then rt (.tup []) else fl
  | x, y => mulD x y
theorem ok_mulT : OpOK G F (fun x y H Q => rRep0 G.K x y H Q ∨ (rI CMul (fun i j => .int (i * j)) x y H Q ∨ (rRep x y H Q ∨ rRepT G.K x y H Q))) mulT := by
  intro ρ s t t' v u H σv tv Q M W
  unfold mulT at W
  split at W
  · split at W
    · rename_i k hc
      obtain ⟨h1, h2⟩ := M.rd2
      obtain ⟨p, xs, rfl, s1, r1⟩ := h1.tupq
      simp only [RD] at h2
      subst h2
      have hx : xs = [] := by simpa [RDs] using r1
      subst hx
      refine .inl ⟨p, k, rfl, rfl, s1, hc.1, hc.2, fun kd => ?_⟩
      exact W.out M.m h1 fun l q => by simp [labs, labsL] at q
    · exact wfl W
  · exact .inr (ok_mul ρ s t t' v u H σv tv Q M W)
theorem se_mulT {ma mb : M D} (hk : X.K = G.K) (ha : SE X G F a ma) (hb : SE X G F b mb) : SE X G F (.BinOp a .Mult b pos) (mBin ma mb mulT) := se_op hk (r := fun x y H Q => rRep0 G.K x y H Q ∨ (rI CMul (fun i j => .int (i * j)) x y H Q ∨ (rRep x y H Q ∨ rRepT G.K x y H Q))) (OpR.or (hk ▸ op_rep0) (OpR.or op_mul (OpR.or op_rep (hk ▸ op_repT)))) ok_mulT ha hb
noncomputable def mOrX (m m' : M D) : M D := bd m fun d => bd (truD d) fun b => iteM b (rt d) m'
theorem se_orX {rest : List Expr} {m m' : M D} (hk : X.K = G.K) (ha : SE X G F a m) (hb : SE X G F (.BoolOp .Or (b :: rest) pos) m') : SE X G F (.BoolOp .Or (a :: b :: rest) pos) (mOrX m m') := by
  refine PE.imp0 (pe_orX ha hb) fun σ H Q ⟨tv, h⟩ => ⟨tv, ?_⟩
  have hs := h.1
  refine (tM_bd h).mono fun v H1 ⟨ρ1, s1, t, M1, W⟩ => ?_
  rw [hk]
  have ht : ∃ k, truD t s1 = .ok k s1 := by
    unfold bd at W
    unfold truD at W ⊢
    cases t with
    | str x =>
      dsimp only at W ⊢
      by_cases hz : x.length ≤ sizeLine
      · rw [if_pos hz]; exact ⟨_, rfl⟩
      · rw [if_neg hz] at W; exact False.elim W
    | dct _ _ _ => exact False.elim W
    | obj _ _ _ _ => exact False.elim W
    | _ => exact ⟨_, rfl⟩
  obtain ⟨k, hk1⟩ := ht
  have W1 : wM G F σ tv (iteM k (rt t) m' s1) Q := by
    have : bd (truD t) (fun b => iteM b (rt t) m') s1 = iteM k (rt t) m' s1 := by unfold bd; rw [hk1]
    rw [← this]; exact W
  obtain ⟨k', q1, q2⟩ := ok_tru (Q := fun c _ => c = k) M1 (by rw [hk1]; exact fun ρ' H' M' => rfl)
  subst q2
  refine ⟨k', q1, ?_⟩
  cases k' with
  | true => rw [if_pos rfl]; exact W1 ρ1 v H1 M1
  | false => rw [if_neg Bool.false_ne_true]; exact ⟨tv, hs, ρ1, s1, M1.m, W1⟩
mutual
theorem er_noDict : ∀ t : D, (er t).hasDict = false
  | .non | .bool _ | .int _ | .str _ | .dct _ _ _ | .obj _ _ _ _ => by simp only [er, PyData.hasDict]
  | .tup ds => by simp only [er, PyData.hasDict]; exact erL_noDict ds
  | .ro ds => by simp only [er, PyData.hasDict]; exact erL_noDict ds
  | .lst _ ds => by simp only [er, PyData.hasDict]; exact erL_noDict ds
theorem erL_noDict : ∀ ts : List D, PyData.hasDictAll (erL ts) = false
  | [] => by simp only [erL, PyData.hasDictAll]
  | t :: ts => by simp only [erL, PyData.hasDictAll, er_noDict t, erL_noDict ts, Bool.or_self]
end
noncomputable def strC (ds : List D) : Bool := plainL ds && (er (.tup ds)).showable && decide ((er (.tup ds)).depth ≤ 60) && decide ((er (.tup ds)).shown.length ≤ sizeLine)
noncomputable def strD : List D → M D
  | [.tup ds] => if strC ds = true then rt (.str (er (.tup ds)).shown) else fl
  | _ => fl
theorem ok_str : CallOK G F (rStr G.K) strD := by
  intro ρ s ts vs H σv tv Q M W
  unfold strD at W
  split at W
  · rename_i ds
    split at W
    · rename_i hc
      simp only [strC, Bool.and_eq_true, decide_eq_true_eq] at hc
      obtain ⟨⟨⟨c1, c2⟩, c3⟩, c4⟩ := hc
      obtain ⟨v, rfl, h, _⟩ := M.one
      obtain ⟨p, xs, rfl, s1, r1⟩ := id h.tupq
      exact ⟨p, er (.tup ds), rfl, RD.dp _ _ h (by simp only [plain]; exact c1), er_noDict _, c2, c3, c4, fun _ => W.flat M.m rfl⟩
    · exact wfl W
  · exact wfl W
theorem cb_str (hk : X.K = G.K) (hg : X.A.guards = some []) (hu : X.A.units + 64 < cLine) : Cb X G F (.type "str") strD := ⟨_, hk ▸ call_strD hg hu, ok_str⟩
noncomputable def eqS : D → D → M D
  | .str i, .str j => rt (.bool (i == j))
  | _, _ => fl
theorem ok_eqS : CmpOK G F (fun x y H Q => ∃ i j, x = .str i ∧ y = .str j ∧ Q (.bl (i == j)) H) eqS := by
  intro ρ s t t' v u H σv tv Q M W
  unfold eqS at W
  split at W
  · obtain ⟨h1, h2⟩ := M.rd2
    simp only [RD] at h1 h2
    exact ⟨_, _, h1, h2, W.flat M.m rfl⟩
  · exact wfl W
theorem cm_eqS : Cm X G F .Eq eqS := ⟨_, op_eqS, ok_eqS⟩
theorem ss_par {i j : Nat} {x y : Str} {px py pt : Pos} {kt k2 pt2} {ms : List (M D)} (hc : X.calm = true) (hN : X.N.Nodup) (hi : X.N[i]? = some x) (hj : X.N[j]? = some y) (hij : i ≠ j)
    (hx : X.env.scope.names.lookup x = some .local) (hy : X.env.scope.names.lookup y = some .local) (ha : SA X G F [a, b] (mArgs ms))
    (hw : swappedStores [.Tuple [.Name x px, .Name y py] kt pt] (.Tuple [a, b] k2 pt2) X.env = pure (some [x, y]) := by rfl)
    (hs : swapsWithSole [.Tuple [.Name x px, .Name y py] kt pt] (.Tuple [a, b] k2 pt2) pos.line X.env = pure false := by rfl) :
    SS X G F (.Assign [.Tuple [.Name x px, .Name y py] kt pt] (.Tuple [a, b] k2 pt2) pos) (sAsg (.tp [.nm i, .nm j]) (mCB ms tupD)) := by
  refine PS.imp0 (ps_par hc hN hi hj hij hx hy ha hw hs) fun Dd σ H ⟨tv, hs, ρ, s, M, W⟩ => ⟨tv, hs, ρ, s, M, ?_⟩
  unfold sAsg lift mCB bd at W
  cases e : mArgs ms s with
  | ex d s1 => rw [e] at W; exact W
  | no => rw [e] at W; exact W
  | ok ts s1 =>
    rw [e] at W
    intro ρ1 vs H1 M1
    by_cases hz : ts.length ≤ sizeLine
    · have e2 : tupD ts s1 = .ok (.tup ts) s1 := by unfold tupD; rw [if_pos hz]; rfl
      dsimp only at W
      rw [e2] at W
      dsimp only at W
      match ts, W with
      | [], W => simp only [asg, asgL] at W; exact False.elim W
      | [_], W => simp only [asg, asgL] at W; exact False.elim W
      | [t, t'], W =>
        obtain ⟨v, u, rfl, h, h'⟩ := M1.two
        simp only [asg, asgL] at W
        exact ⟨v, u, rfl, W ρ1 _ H1 ((M1.setS i).setS j).m⟩
      | _ :: _ :: _ :: _, W => simp only [asg, asgL] at W; exact False.elim W
    · have e2 : tupD ts s1 = .no := by unfold tupD; rw [if_neg hz]; rfl
      dsimp only at W
      rw [e2] at W
      exact False.elim W
noncomputable def addE (x y : D) : M D := match x, y with
  | .bool k, .int j => rt (.int ((if k then 1 else 0) + j))
  | x, y => addD x y
theorem ok_addE : OpOK G F (fun x y H Q => (∃ k j, x = .bl k ∧ y = .int j ∧ Q (.int ((if k then 1 else 0) + j)) H) ∨ (rI0 (fun i j => .int (i + j)) x y H Q ∨ rCatN G.K x y H Q ∨ rCat x y H Q ∨ ∃ i j, x = .str i ∧ y = .str j ∧ i.length + j.length ≤ sizeLine ∧ Q (.str (i ++ j)) H)) addE := by
  intro ρ s t t' v u H σv tv Q M W
  unfold addE at W
  split at W
  · obtain ⟨h1, h2⟩ := M.rd2
    simp only [RD] at h1 h2
    exact .inl ⟨_, _, h1, h2, fun _ => W.flat M.m rfl⟩
  · exact .inr (ok_add ρ s t t' v u H σv tv Q M W)
theorem se_addE {ma mb : M D} (hk : X.K = G.K) (ha : SE X G F a ma) (hb : SE X G F b mb) : SE X G F (.BinOp a .Add b pos) (mBin ma mb addE) :=
  se_op hk (r := fun x y H Q => (∃ k j, x = .bl k ∧ y = .int j ∧ Q (.int ((if k then 1 else 0) + j)) H) ∨ (rI0 (fun i j => .int (i + j)) x y H Q ∨ rCatN G.K x y H Q ∨ rCat x y H Q ∨ ∃ i j, x = .str i ∧ y = .str j ∧ i.length + j.length ≤ sizeLine ∧ Q (.str (i ++ j)) H)) (OpR.or op_addB (hk ▸ OpR.or op_add (OpR.or op_catN (OpR.or op_cat op_add_str)))) ok_addE ha hb
end
end Mi
namespace My
open PySem L2 PySem.Spec PyProof.Rows Mi
@[irreducible] noncomputable def SE (X : Cx) (G : Gx) (F : Fy) (e : Expr) (m : M D) : Prop := Mi.SE X G F e m
theorem eSE (X : Cx) (G : Gx) (F : Fy) (e : Expr) (m : M D) : SE X G F e m = Mi.SE X G F e m := by unfold SE; rfl
@[irreducible] noncomputable def SA (X : Cx) (G : Gx) (F : Fy) (e : List Expr) (m : M (List D)) : Prop := Mi.SA X G F e m
theorem eSA (X : Cx) (G : Gx) (F : Fy) (e : List Expr) (m : M (List D)) : SA X G F e m = Mi.SA X G F e m := by unfold SA; rfl
@[irreducible] noncomputable def SB (X : Cx) (G : Gx) (F : Fy) (e : Expr) (m : M Bool) : Prop := Mi.SB X G F e m
theorem eSB (X : Cx) (G : Gx) (F : Fy) (e : Expr) (m : M Bool) : SB X G F e m = Mi.SB X G F e m := by unfold SB; rfl
@[irreducible] noncomputable def SW (X : Cx) (G : Gx) (F : Fy) (e : Expr) (m : M Bool) : Prop := Mi.SW X G F e m
theorem eSW (X : Cx) (G : Gx) (F : Fy) (e : Expr) (m : M Bool) : SW X G F e m = Mi.SW X G F e m := by unfold SW; rfl
@[irreducible] noncomputable def SS (X : Cx) (G : Gx) (F : Fy) (e : Stmt) (m : MS) : Prop := Mi.SS X G F e m
theorem eSS (X : Cx) (G : Gx) (F : Fy) (e : Stmt) (m : MS) : SS X G F e m = Mi.SS X G F e m := by unfold SS; rfl
@[irreducible] noncomputable def SSs (X : Cx) (G : Gx) (F : Fy) (e : List Stmt) (m : MS) : Prop := Mi.SSs X G F e m
theorem eSSs (X : Cx) (G : Gx) (F : Fy) (e : List Stmt) (m : MS) : SSs X G F e m = Mi.SSs X G F e m := by unfold SSs; rfl
@[irreducible] noncomputable def SG (X : Cx) (G : Gx) (F : Fy) (e : Expr) (m : Tg) : Prop := Mi.SG X G F e m
theorem eSG (X : Cx) (G : Gx) (F : Fy) (e : Expr) (m : Tg) : SG X G F e m = Mi.SG X G F e m := by unfold SG; rfl
@[irreducible] noncomputable def SGs (X : Cx) (G : Gx) (F : Fy) (e : List Expr) (m : List Tg) : Prop := Mi.SGs X G F e m
theorem eSGs (X : Cx) (G : Gx) (F : Fy) (e : List Expr) (m : List Tg) : SGs X G F e m = Mi.SGs X G F e m := by unfold SGs; rfl
@[irreducible] noncomputable def SI (X : Cx) (G : Gx) (F : Fy) (tg e : Expr) (m : M ItK) : Prop := Mi.SI X G F tg e m
theorem eSI (X : Cx) (G : Gx) (F : Fy) (tg e : Expr) (m : M ItK) : SI X G F tg e m = Mi.SI X G F tg e m := by unfold SI; rfl
@[irreducible] noncomputable def SO (X : Cx) (G : Gx) (F : Fy) (e : Option Expr) (m : Option (M D)) : Prop := Mi.SO X G F e m
theorem eSO (X : Cx) (G : Gx) (F : Fy) (e : Option Expr) (m : Option (M D)) : SO X G F e m = Mi.SO X G F e m := by unfold SO; rfl
@[irreducible] noncomputable def STs (X : Cx) (G : Gx) (F : Fy) (e : List Expr) (m : M Bool) : Prop := Mi.STs X G F e m
theorem eSTs (X : Cx) (G : Gx) (F : Fy) (e : List Expr) (m : M Bool) : STs X G F e m = Mi.STs X G F e m := by unfold STs; rfl
local macro_rules | `(tactic| walk_at "go") => `(tactic| (simp only [eSE, eSA, eSB, eSW, eSS, eSSs, eSG, eSGs, eSI, eSO, eSTs] at *))
set_option Elab.async false
set_option linter.all false
set_option maxRecDepth 100000
set_option maxHeartbeats 4000000
section
variable {G : Gx} {F : Fy} {ρ ρ' : Nat → Addr} {H H' : Hp} {σv tv : List (Option V)} {s : Stt} {t t' : D} {v u : V} {ts : List D} {vs : List V} {Q : VK}
end
section
variable {X : Cx} {G : Gx} {F : Fy} {e a b c : Expr} {pos : Pos}
theorem se_var (i : Nat) {x : Str} (hk : X.K = G.K) (h : PE X (.Name x pos) (tVar i)) : SE X G F (.Name x pos) (mVar i) := by
  walk_at "go"
  exact Mi.se_var i hk h
theorem se_c {d : D} {v : V} (hk : X.K = G.K) (h : PE X e (tC v)) (hd : cV d = some v := by rfl) : SE X G F e (mC d) := by
  walk_at "go"
  exact Mi.se_c hk h hd
end
set_option Elab.async false
set_option linter.all false
set_option maxRecDepth 100000
set_option maxHeartbeats 4000000
section
end
section
end
section
variable {G : Gx} {F : Fy} {ρ : Nat → Addr} {H H' : Hp} {σv tv : List (Option V)} {s : Stt} {t t' : D} {v u : V} {ts ds : List D} {vs xs : List V} {Q : VK}
section
end
end
section
variable {G : Gx} {F : Fy}
end
set_option Elab.async false
set_option linter.all false
set_option maxRecDepth 100000
set_option maxHeartbeats 4000000
section
variable {X : Cx} {G : Gx} {F : Fy} {e a b c : Expr} {pos : Pos}
theorem so_none : SO X G F none none := by
  walk_at "go"
  exact Mi.so_none
theorem so_some {m : M D} (h : SE X G F e m) : SO X G F (some e) (some m) := by
  walk_at "go"
  exact Mi.so_some h
theorem se_slice {lo hi : Option Expr} {p2 : Pos} {m : M D} {ml mh : Option (M D)} (hk : X.K = G.K) (he : SE X G F e m) (hl : SO X G F lo ml) (hh : SO X G F hi mh) : SE X G F (.Subscript e (.Slice lo hi none p2) pos) (mSl m ml mh) := by
  walk_at "go"
  exact Mi.se_slice hk he hl hh
theorem se_tup {es : List Expr} {ms : List (M D)} {x1} (hk : X.K = G.K) (h : SA X G F es (mArgs ms)) : SE X G F (.Tuple es x1 pos) (mCB ms tupD) := by
  walk_at "go"
  exact Mi.se_tup hk h
theorem se_lst {es : List Expr} {ms : List (M D)} (hk : X.K = G.K) (h : SA X G F es (mArgs ms)) : SE X G F (.List es pos) (mCB ms lstM) := by
  walk_at "go"
  exact Mi.se_lst hk h
theorem sb_truth {m : M D} (hk : X.K = G.K) (ha : SE X G F a m) (he : ∀ whole, isTrue a X.env whole = (do let v ← whole; standAt a.pos; holding [v] (truthy v)) := by intro _; rfl) : SB X G F a (mTest m) := by
  walk_at "go"
  exact Mi.sb_truth hk ha he
theorem SW.sb {m : M Bool} (h : SW X G F e m) : SB X G F e m := by
  walk_at "go"
  exact Mi.SW.sb h
theorem sw_and1 {m : M Bool} (h : SB X G F a m) : SW X G F (.BoolOp .And [a] pos) m := by
  walk_at "go"
  exact Mi.sw_and1 h
theorem sw_or1 {m : M Bool} (h : SB X G F a m) : SW X G F (.BoolOp .Or [a] pos) m := by
  walk_at "go"
  exact Mi.sw_or1 h
theorem sw_and {rest : List Expr} {m m' : M Bool} (ha : SB X G F a m) (hb : SW X G F (.BoolOp .And (b :: rest) pos) m') : SW X G F (.BoolOp .And (a :: b :: rest) pos) (mAnd m m') := by
  walk_at "go"
  exact Mi.sw_and ha hb
theorem sw_or {rest : List Expr} {m m' : M Bool} (ha : SB X G F a m) (hb : SW X G F (.BoolOp .Or (b :: rest) pos) m') : SW X G F (.BoolOp .Or (a :: b :: rest) pos) (mOr m m') := by
  walk_at "go"
  exact Mi.sw_or ha hb
theorem sb_not {m : M Bool} (ha : SB X G F a m) : SB X G F (.UnaryOp .Not a pos) (mNot m) := by
  walk_at "go"
  exact Mi.sb_not ha
theorem se_one {op} {m : M D} (h : SE X G F a m) : SE X G F (.BoolOp op [a] pos) m := by
  walk_at "go"
  exact Mi.se_one h
theorem se_and {rest : List Expr} {m m' : M D} (ha : SE X G F a m) (hb : SE X G F (.BoolOp .And (b :: rest) pos) m') : SE X G F (.BoolOp .And (a :: b :: rest) pos) (mAndV m m') := by
  walk_at "go"
  exact Mi.se_and ha hb
theorem se_not {m : M D} (ha : SE X G F a m) : SE X G F (.UnaryOp .Not a pos) (mNotV m) := by
  walk_at "go"
  exact Mi.se_not ha
end
set_option Elab.async false
set_option linter.all false
set_option maxRecDepth 100000
set_option maxHeartbeats 4000000
section
variable {X : Cx} {G : Gx} {F : Fy} {e a b c : Expr} {pos : Pos}
theorem se_isi {p : Pos} {x y : Expr} {T : String} {m : M D} (hk : X.K = G.K) (hT : T = "int" ∨ T = "bool" ∨ T = "tuple" ∨ T = "list" ∨ T = "str") (hgl : Gl X "isinstance") (hm : X.mg "isinstance" = none) (ha : SE X G F x m) (hy : PE X y (tC (.ty T)))
    (he : starEach [x, y] X.env = (false, eval x X.env) :: starEach [y] X.env := by rfl) (he2 : starEach [y] X.env = (false, eval y X.env) :: starEach [] X.env := by rfl) (hpl : (backTo pos (starEach [y] X.env)).any (·.1) = false := by rfl) : SE X G F (.Call (.Name "isinstance" p) [x, y] [] pos) (mIsi T m) := by
  walk_at "go"
  exact Mi.se_isi hk hT hgl hm ha hy he he2 hpl
end
set_option Elab.async false
set_option linter.all false
set_option maxRecDepth 100000
set_option maxHeartbeats 4000000
section
end
section
variable {X : Cx} {G : Gx} {F : Fy} {e a b c : Expr} {st : Stmt} {sts rest : List Stmt} {pos : Pos}
theorem ss_nil : SSs X G F [] sNx := by
  walk_at "go"
  exact Mi.ss_nil
theorem ss_cons {m m' : MS} (h1 : SS X G F st m) (h2 : SSs X G F rest m') : SSs X G F (st :: rest) (seqS m m') := by
  walk_at "go"
  exact Mi.ss_cons h1 h2
theorem ss_one {m : MS} (h1 : SS X G F st m) : SSs X G F [st] m := by
  walk_at "go"
  exact Mi.ss_one h1
theorem ss_ret {m : M D} (he : SE X G F e m) : SS X G F (.Return (some e) pos) (sRet m) := by
  walk_at "go"
  exact Mi.ss_ret he
theorem ss_if {x y : List Stmt} {mc : M Bool} {m m' : MS} (hc : SB X G F c mc) (ha : SSs X G F x m) (hb : SSs X G F y m') : SS X G F (.If c x y pos) (sIf mc m m') := by
  walk_at "go"
  exact Mi.ss_if hc ha hb
theorem sg_name {i : Nat} {x : Str} {p : Pos} (h : PG X (.Name x p) (gName i)) : SG X G F (.Name x p) (.nm i) := by
  walk_at "go"
  exact Mi.sg_name h
theorem sgs_nil : SGs X G F [] [] := by
  walk_at "go"
  exact Mi.sgs_nil
theorem sgs_cons {es : List Expr} {g : Tg} {gs : List Tg} (h1 : SG X G F e g) (h2 : SGs X G F es gs) (hs : (assignEach (e :: es) X.env).map (·.2) = assign e X.env :: (assignEach es X.env).map (·.2) := by rfl) : SGs X G F (e :: es) (g :: gs) := by
  walk_at "go"
  exact Mi.sgs_cons h1 h2 hs
theorem sg_tup {es : List Expr} {k : Nat} {gs : List Tg} (hk : X.K = G.K) (hc : X.calm = true) (h : SGs X G F es gs) (hn : (assignEach es X.env).length = gs.length := by rfl) (hst : (assignEach es X.env).findIdx? (·.1) = none := by rfl) : SG X G F (.Tuple es k pos) (.tp gs) := by
  walk_at "go"
  exact Mi.sg_tup hk hc h hn hst
theorem ss_asg {tg : Expr} {g : Tg} {m : M D} (he : SE X G F e m) (hg : SG X G F tg g) (hs : swapsWithSole [tg] e pos.line X.env = pure false := by rfl) (hw : swappedStores [tg] e X.env = pure none := by rfl)
    (h1 : (assignEach [tg] X.env).map (·.2) = [assign tg X.env] := by rfl) : SS X G F (.Assign [tg] e pos) (sAsg g m) := by
  walk_at "go"
  exact Mi.ss_asg he hg hs hw h1
theorem ss_set {i : Nat} {x : Str} {p : Pos} {m : M D} (h : ∀ {te : TE}, PE X e te → PS X (.Assign [.Name x p] e pos) (tAsg te (gName i))) (he : SE X G F e m) : SS X G F (.Assign [.Name x p] e pos) (sAsg (.nm i) m) := by
  walk_at "go"
  exact Mi.ss_set h he
end
set_option Elab.async false
set_option linter.all false
set_option maxRecDepth 100000
set_option maxHeartbeats 4000000
section
variable {X : Cx} {G : Gx} {F : Fy} {e a b c tg iter : Expr} {pos : Pos}
theorem si_seq {m : M D} (hk : X.K = G.K) (h : SE X G F e m) : SI X G F tg e (mSeqI m) := by
  walk_at "go"
  exact Mi.si_seq hk h
theorem si_rng1 {p : Pos} {ms : List (M D)} (hg : Gl X "range") (hm : X.mg "range" = none) (ha : SA X G F [a] (mArgs ms)) (hs : starEach [a] X.env = [(false, eval a X.env)] := by rfl) : SI X G F tg (.Call (.Name "range" p) [a] [] pos) (mRng1 ms) := by
  walk_at "go"
  exact Mi.si_rng1 hg hm ha hs
theorem si_rng2 {p : Pos} {ms : List (M D)} (hg : Gl X "range") (hm : X.mg "range" = none) (ha : SA X G F [a, b] (mArgs ms)) (hs : starEach [a, b] X.env = [(false, eval a X.env), (false, eval b X.env)] := by rfl) (hs2 : starEach [b] X.env = [(false, eval b X.env)] := by rfl) : SI X G F tg (.Call (.Name "range" p) [a, b] [] pos) (mRng2 ms) := by
  walk_at "go"
  exact Mi.si_rng2 hg hm ha hs hs2
theorem ss_for {body : List Stmt} {mi : M ItK} {g : Tg} {mb : MS} (hp : PassesOwn (model X.prog X.w) X.A X.env X.xe) (hc : X.calm = true) (hi : SI X G F tg iter mi) (hg : SG X G F tg g) (hb : SSs X G F body mb) (hst : ∀ x, foldedSetIterable iter X.env x = pure x := by intro _; rfl) : SS X G F (.For tg iter body [] pos) (sFor mi g mb) := by
  walk_at "go"
  exact Mi.ss_for hp hc hi hg hb hst
end
set_option Elab.async false
set_option linter.all false
set_option maxRecDepth 100000
set_option maxHeartbeats 4000000
section
variable {X : Cx} {G : Gx} {F : Fy} {e a b c tg iter elt : Expr} {pos : Pos}
theorem sts_nil : STs X G F [] (rt true) := by
  walk_at "go"
  exact Mi.sts_nil
theorem sts_one {m : M Bool} (h : SB X G F c m) : STs X G F [c] m := by
  walk_at "go"
  exact Mi.sts_one h
theorem se_comp {scope : Scope} {own frees : List Str} {ix : List Nat} {ifs : List Expr} {mi : M ItK} {g : Tg} {mt : M Bool} {me : M D} (hk : X.K = G.K) (hc : X.calm = true) (S : CompScope X.env.scope scope own frees X.N ix) (hi : SI X G F tg iter mi)
    (hg : ∀ (F : Fy) cl C s₀ H₀ fp pn, SG (compCx X scope own frees cl C s₀ H₀ fp pn) G F tg g) (ht : ∀ (F : Fy) cl C s₀ H₀ fp pn, STs (compCx X scope own frees cl C s₀ H₀ fp pn) G F ifs mt) (he : ∀ (F : Fy) cl C s₀ H₀ fp pn, SE (compCx X scope own frees cl C s₀ H₀ fp pn) G F elt me)
    (hs : ∀ x, foldedSetIterable iter X.env x = pure x := by intro _; rfl) : SE X G F (.ListComp elt [⟨tg, iter, ifs, 0⟩] scope pos) (mComp mi g mt me own.length ix) := by
  walk_at "go"
  exact Mi.se_comp hk hc S hi hg ht he hs
theorem ss_comp {y : Str} {py spos : Pos} {i : Nat} {scope : Scope} {own frees : List Str} {ix : List Nat} {ifs : List Expr} {mi : M ItK} {g : Tg} {mt : M Bool} {me : M D} (hk : X.K = G.K) (hN : X.N.Nodup) (hy : X.N[i]? = some y) (hx : Loc X.env.scope y) (hfn : X.fn y = true ∨ X.env.scope.names.lookup y = some .local) (hsw : swapsWith (.ListComp elt [⟨tg, iter, ifs, 0⟩] scope pos) (some (.Name y py)) spos.line X.env = pure true)
    (hc : X.calm = true) (S : CompScope X.env.scope scope own frees X.N ix) (hi : SI X G F tg iter mi)
    (hg : ∀ (F : Fy) cl C s₀ H₀ fp pn, SG (compCx X scope own frees cl C s₀ H₀ fp pn) G F tg g) (ht : ∀ (F : Fy) cl C s₀ H₀ fp pn, STs (compCx X scope own frees cl C s₀ H₀ fp pn) G F ifs mt) (he : ∀ (F : Fy) cl C s₀ H₀ fp pn, SE (compCx X scope own frees cl C s₀ H₀ fp pn) G F elt me)
    (hs : ∀ x, foldedSetIterable iter X.env x = pure x := by intro _; rfl) : SS X G F (.Assign [.Name y py] (.ListComp elt [⟨tg, iter, ifs, 0⟩] scope pos) spos) (sAsg (.nm i) (mComp mi g mt me own.length ix)) := by
  walk_at "go"
  exact Mi.ss_comp hk hN hy hx hfn hsw hc S hi hg ht he hs
end
set_option Elab.async false
set_option linter.all false
set_option maxRecDepth 100000
set_option maxHeartbeats 4000000
section
end
section
variable {G : Gx} {ρ : Nat → Addr} {H : Hp}
section
end
section
variable (k : KD G.K H) {n : Nat} (inj : ∀ i j, i < n → j < n → ρ i = ρ j → i = j)
include k inj
section
end
end
end
set_option Elab.async false
set_option linter.all false
set_option maxRecDepth 100000
set_option maxHeartbeats 4000000
section
variable {G : Gx} {ρ ρ' : Nat → Addr} {H H' : Hp}
section
end
section
end
section
variable (k : KD G.K H) {n : Nat} (inj : ∀ i j, i < n → j < n → ρ i = ρ j → i = j) {ts : List D} {vs : List V} (r : RDs G ρ H ts vs) (lb : ∀ l ∈ labsL ts, l < n)
include k inj r lb
section
end
end
variable {F : Fy} {σv tv : List (Option V)} {s : Stt} {np : Nat}
theorem se_call {X : Cx} {e : Expr} {es : List Expr} {pos p : Pos} {CX : CXT} {k : Nat} {fa : Addr} {fd : FuncData} {ps : List Str} {x : Str} {E : XK} {f : FM} {ms : List (M D)} (hk : X.K = G.K) (Fn : FnOk X.prog X.w X.K X.mg X.base CX k fa fd ps (spM G ps.length f)) (hr : Room k X.A) (hg : Gl X x) (hm : X.mg x = some (.ref fa)) (hkp : PySem.W.keepIn X.K (.ref fa) = true) (hb : Binds X.K fd ps []) (hx : Passes CX X E)
    (ha : SA X G F (e :: es) (mArgs ms)) (hln : ms.length = ps.length) (hdb : (x == ("__debug__" : Str)) = false := by decide) (he : starEach (e :: es) X.env = (false, eval e X.env) :: starEach es X.env := by rfl) (hpl : (backTo pos (starEach es X.env)).any (·.1) = false := by rfl) :
    SE X G F (.Call (.Name x p) (e :: es) [] pos) (mCall f ms) := by
  walk_at "go"
  exact Mi.se_call hk Fn hr hg hm hkp hb hx ha hln hdb he hpl
theorem fn_M {P : Program} {w : World} {K : PySem.W.Frag} {mg : Str → Option Value} {base : Heap} {x qual : Str} {st : Stmt} {fa : Addr} {fd : FuncData} {N ps : List Str} {k : Nat} {mb : MS} (Fn : Fun K x qual st fa fd) (S : FnScope N ps (defScope st)) (hG : G.K = K)
    (hb : ∀ (cdv : Value) (A : Around) (outer : List Env) (s : Shared) (H : Hp) (E : XK) (F : Fy), Room k (A.deeper (envOfC qual (defScope st) s.heap.objs.size fa cdv)) → SSs (cxOf CX0 P w K mg base N qual (defScope st) fa cdv A outer s H E).nox G F (defBody st) mb) :
    FnOk P w K mg base CX0 (k + 1) fa fd ps (spM G ps.length (runF N.length mb)) := by
  walk_at "go"
  exact Mi.fn_M Fn S hG hb
end
set_option Elab.async false
set_option linter.all false
set_option maxRecDepth 100000
set_option maxHeartbeats 4000000
section
end
section
end
section
variable {G : Gx} {F : Fy} {ρ : Nat → Addr} {H : Hp} {σv tv : List (Option V)} {s : Stt} {t : D} {ts ds es : List D} {v : V} {vs xs ys : List V} {l : Nat} {Q : VK}
end
section
variable {X : Cx} {G : Gx} {F : Fy} {e o : Expr} {es : List Expr} {apos cpos : Pos}
theorem ss_setI {ob ix : Expr} {pos tpos : Pos} {mo mi me : M D} (he : SE X G F e me) (ho : SE X G F ob mo) (hi : SE X G F ix mi) (hg : ∀ {to ti : TE}, PE X ob to → PE X ix ti → PG X (.Subscript ob ix tpos) (gSub to ti rSetL)) (hs : swapsWithSole [.Subscript ob ix tpos] e pos.line X.env = pure false := by rfl) (hw : swappedStores [.Subscript ob ix tpos] e X.env = pure none := by rfl)
    (h1 : (assignEach [.Subscript ob ix tpos] X.env).map (·.2) = [assign (.Subscript ob ix tpos) X.env] := by rfl) : SS X G F (.Assign [.Subscript ob ix tpos] e pos) (mTri me mo mi setD) := by
  walk_at "go"
  exact Mi.ss_setI he ho hi hg hs hw h1
end
set_option Elab.async false
set_option linter.all false
set_option maxRecDepth 100000
set_option maxHeartbeats 4000000
section
variable {X : Cx} {G : Gx} {F : Fy} {e a b c : Expr} {pos : Pos} {ma mb mc m : M D}
theorem se_add (hk : X.K = G.K) (ha : SE X G F a ma) (hb : SE X G F b mb) : SE X G F (.BinOp a .Add b pos) (mBin ma mb addD) := by
  walk_at "go"
  exact Mi.se_add hk ha hb
theorem se_sub (hk : X.K = G.K) (ha : SE X G F a ma) (hb : SE X G F b mb) : SE X G F (.BinOp a .Sub b pos) (mBin ma mb subD) := by
  walk_at "go"
  exact Mi.se_sub hk ha hb
theorem se_mul (hk : X.K = G.K) (ha : SE X G F a ma) (hb : SE X G F b mb) : SE X G F (.BinOp a .Mult b pos) (mBin ma mb mulD) := by
  walk_at "go"
  exact Mi.se_mul hk ha hb
theorem se_fdiv (hk : X.K = G.K) (ha : SE X G F a ma) (hb : SE X G F b mb) : SE X G F (.BinOp a .FloorDiv b pos) (mBin ma mb fdivD) := by
  walk_at "go"
  exact Mi.se_fdiv hk ha hb
theorem se_mod (hk : X.K = G.K) (ha : SE X G F a ma) (hb : SE X G F b mb) : SE X G F (.BinOp a .Mod b pos) (mBin ma mb modD) := by
  walk_at "go"
  exact Mi.se_mod hk ha hb
theorem se_pow (hk : X.K = G.K) (ha : SE X G F a ma) (hb : SE X G F b mb) : SE X G F (.BinOp a .Pow b pos) (mBin ma mb powD) := by
  walk_at "go"
  exact Mi.se_pow hk ha hb
theorem se_neg (hk : X.K = G.K) (ha : SE X G F a ma) : SE X G F (.UnaryOp .USub a pos) (bd ma negD) := by
  walk_at "go"
  exact Mi.se_neg hk ha
theorem se_cmp {op : CmpOp} {g : D → D → M D} (hc : Cm X G F op g) (ha : SE X G F a ma) (hb : SE X G F b mb) (hm : behindInMarks op b = false) : SE X G F (.Compare a [op] [b] pos) (mBin ma mb g) := by
  walk_at "go"
  exact Mi.se_cmp hc ha hb hm
theorem sb_cmp {op : CmpOp} {g : D → D → M D} (hc : Cm X G F op g) (ha : SE X G F a ma) (hb : SE X G F b mb) (hm : behindInMarks op b = false) : SB X G F (.Compare a [op] [b] pos) (mBoo (mBin ma mb g)) := by
  walk_at "go"
  exact Mi.sb_cmp hc ha hb hm
theorem se_cmp2 {op op' : CmpOp} {g g' : D → D → M D} (hc : Cm X G F op g) (hc' : Cm X G F op' g') (ha : SE X G F a ma) (hb : SE X G F b mb) (hcc : SE X G F c mc) (hm : lastMarks [op, op'] [b, c] = false := by with_unfolding_all rfl) : SE X G F (.Compare a [op, op'] [b, c] pos) (mChain ma mb mc g g') := by
  walk_at "go"
  exact Mi.se_cmp2 hc hc' ha hb hcc hm
theorem sb_cmp2 {op op' : CmpOp} {g g' : D → D → M D} (hc : Cm X G F op g) (hc' : Cm X G F op' g') (ha : SE X G F a ma) (hb : SE X G F b mb) (hcc : SE X G F c mc) (hm : lastMarks [op, op'] [b, c] = false := by with_unfolding_all rfl) : SB X G F (.Compare a [op, op'] [b, c] pos) (mBoo (mChain ma mb mc g g')) := by
  walk_at "go"
  exact Mi.sb_cmp2 hc hc' ha hb hcc hm
theorem se_idx (hk : X.K = G.K) (ha : SE X G F a ma) (hb : SE X G F b mb) (hs : PlainIx b) : SE X G F (.Subscript a b pos) (mBin ma mb ixD) := by
  walk_at "go"
  exact Mi.se_idx hk ha hb hs
theorem se_cb {x : Str} {p : Pos} {es : List Expr} {ms : List (M D)} {g : List D → M D} {id : String} (hk : X.K = G.K) (hc : Cb X G F (.builtin id) g) (hgl : Gl X x) (hm : X.mg x = none) (hv : bootBuiltins x = some (.builtin id)) (ha : SA X G F (e :: es) (mArgs ms)) (hn : x ≠ "__name__" := by decide) (hdb : (x == ("__debug__" : Str)) = false := by decide)
    (he : starEach (e :: es) X.env = (false, eval e X.env) :: starEach es X.env := by rfl) (hpl : (backTo pos (starEach es X.env)).any (·.1) = false := by rfl) : SE X G F (.Call (.Name x p) (e :: es) [] pos) (mCB ms g) := by
  walk_at "go"
  exact Mi.se_cb hk hc hgl hm hv ha hn hdb he hpl
theorem se_ct {x : Str} {p : Pos} {es : List Expr} {ms : List (M D)} {g : List D → M D} {T : String} (hk : X.K = G.K) (hc : Cb X G F (.type T) g) (hgl : Gl X x) (hm : X.mg x = none) (hv : bootBuiltins x = some (.type T)) (ha : SA X G F (e :: es) (mArgs ms)) (hn : x ≠ "__name__" := by decide) (hdb : (x == ("__debug__" : Str)) = false := by decide)
    (he : starEach (e :: es) X.env = (false, eval e X.env) :: starEach es X.env := by rfl) (hpl : (backTo pos (starEach es X.env)).any (·.1) = false := by rfl) : SE X G F (.Call (.Name x p) (e :: es) [] pos) (mCB ms g) := by
  walk_at "go"
  exact Mi.se_ct hk hc hgl hm hv ha hn hdb he hpl
end
set_option Elab.async false
set_option linter.all false
set_option maxRecDepth 100000
set_option maxHeartbeats 4000000
section
variable {X : Cx} {G : Gx} {F : Fy} {e a b c : Expr} {pos : Pos}
end
set_option Elab.async false
set_option linter.all false
set_option maxRecDepth 100000
set_option maxHeartbeats 4000000
section
variable {X : Cx} {G : Gx} {F : Fy} {e o : Expr} {es : List Expr} {apos cpos : Pos}
end
set_option Elab.async false
set_option linter.all false
set_option maxRecDepth 100000
set_option maxHeartbeats 4000000
section
variable {X : Cx} {G : Gx} {F : Fy} {tg iter elt : Expr} {pos : Pos}
end
set_option Elab.async false
set_option linter.all false
set_option maxRecDepth 100000
set_option maxHeartbeats 4000000
section
variable {X : Cx} {G : Gx} {F : Fy} {a b tg : Expr} {pos : Pos}
theorem si_enm {p tpos : Pos} {elts : List Expr} {x1 : Nat} {ms : List (M D)} (hk : X.K = G.K) (hg : Gl X "enumerate") (hm : X.mg "enumerate" = none) (ha : SA X G F [a] (mArgs ms)) (hs : starEach [a] X.env = [(false, eval a X.env)] := by rfl) : SI X G F (.Tuple elts x1 tpos) (.Call (.Name "enumerate" p) [a] [] pos) (mEnm ms) := by
  walk_at "go"
  exact Mi.si_enm hk hg hm ha hs
end
set_option Elab.async false
set_option linter.all false
set_option maxRecDepth 100000
set_option maxHeartbeats 4000000
section
variable {X : Cx} {G : Gx} {F : Fy} {a b tg : Expr} {pos : Pos}
end
set_option Elab.async false
set_option linter.all false
set_option maxRecDepth 100000
set_option maxHeartbeats 4000000
section
variable {X : Cx} {G : Gx} {F : Fy} {a b tg : Expr} {pos : Pos}
theorem se_mulT {ma mb : M D} (hk : X.K = G.K) (ha : SE X G F a ma) (hb : SE X G F b mb) : SE X G F (.BinOp a .Mult b pos) (mBin ma mb mulT) := by
  walk_at "go"
  exact Mi.se_mulT hk ha hb
theorem se_orX {rest : List Expr} {m m' : M D} (hk : X.K = G.K) (ha : SE X G F a m) (hb : SE X G F (.BoolOp .Or (b :: rest) pos) m') : SE X G F (.BoolOp .Or (a :: b :: rest) pos) (mOrX m m') := by
  walk_at "go"
  exact Mi.se_orX hk ha hb
section
end
theorem ss_par {i j : Nat} {x y : Str} {px py pt : Pos} {kt k2 pt2} {ms : List (M D)} (hc : X.calm = true) (hN : X.N.Nodup) (hi : X.N[i]? = some x) (hj : X.N[j]? = some y) (hij : i ≠ j)
    (hx : X.env.scope.names.lookup x = some .local) (hy : X.env.scope.names.lookup y = some .local) (ha : SA X G F [a, b] (mArgs ms))
    (hw : swappedStores [.Tuple [.Name x px, .Name y py] kt pt] (.Tuple [a, b] k2 pt2) X.env = pure (some [x, y]) := by rfl)
    (hs : swapsWithSole [.Tuple [.Name x px, .Name y py] kt pt] (.Tuple [a, b] k2 pt2) pos.line X.env = pure false := by rfl) :
    SS X G F (.Assign [.Tuple [.Name x px, .Name y py] kt pt] (.Tuple [a, b] k2 pt2) pos) (sAsg (.tp [.nm i, .nm j]) (mCB ms tupD)) := by
  walk_at "go"
  exact Mi.ss_par hc hN hi hj hij hx hy ha hw hs
theorem se_addE {ma mb : M D} (hk : X.K = G.K) (ha : SE X G F a ma) (hb : SE X G F b mb) : SE X G F (.BinOp a .Add b pos) (mBin ma mb addE) := by
  walk_at "go"
  exact Mi.se_addE hk ha hb
end
inductive SEs (X : Cx) (G : Gx) (F : Fy) : List Expr → List (M D) → Prop
  | nil : SEs X G F [] []
  | cons {e : Expr} {m : M D} {es : List Expr} {ms : List (M D)} : SE X G F e m → nst e = true → SEs X G F es ms → SEs X G F (e :: es) (m :: ms)
theorem eSEs {X : Cx} {G : Gx} {F : Fy} {es : List Expr} {ms : List (M D)} (h : SEs X G F es ms) : Mi.SEs X G F es ms := by
  induction h with
  | nil => exact .nil
  | cons h n _ ih => rw [eSE] at h; exact .cons h n ih
theorem sa_of {X : Cx} {G : Gx} {F : Fy} {es : List Expr} {ms : List (M D)} (hk : X.K = G.K) (h : SEs X G F es ms) : SA X G F es (mArgs ms) := by
  rw [eSA]; exact Mi.sa_of hk (eSEs h)
end My
namespace My
open PySem L2 Mi
noncomputable def top (i : Nat) : Stmt := PySem.Challenge.pw_signbench_k44_fields_and_standings_of_an.main.body.getD i (.Pass ⟨0, 0, 0, 0⟩)
noncomputable abbrev s_p_is_number : Stmt := top 2
noncomputable abbrev s_p_is_whole : Stmt := top 3
noncomputable abbrev s_p_is_row : Stmt := top 4
noncomputable abbrev s_p_is_field : Stmt := top 9
noncomputable abbrev s_p_is_standing : Stmt := top 10
noncomputable abbrev s_p_is_marked_stretch : Stmt := top 11
noncomputable abbrev s_p_free_signs : Stmt := top 12
noncomputable abbrev s_p_has_barred : Stmt := top 13
noncomputable abbrev s_l_bag : Stmt := top 15
noncomputable abbrev s_l_take : Stmt := top 16
noncomputable abbrev s_l_sign : Stmt := top 17
noncomputable abbrev s_l_signs : Stmt := top 18
noncomputable abbrev s_l_field : Stmt := top 19
noncomputable abbrev s_l_free : Stmt := top 20
noncomputable abbrev s_l_standing : Stmt := top 21
noncomputable abbrev s_l_is_from : Stmt := top 22
noncomputable abbrev s_l_are_signs : Stmt := top 23
noncomputable abbrev s_l_is_stretch : Stmt := top 24
noncomputable abbrev s_l_is_standing : Stmt := top 25
noncomputable abbrev s_l_is_field : Stmt := top 26
noncomputable abbrev s_l_odd : Stmt := top 27
noncomputable abbrev s_l_spoilt : Stmt := top 28
noncomputable abbrev s_l_over : Stmt := top 29
noncomputable abbrev s_l_copy : Stmt := top 30
noncomputable abbrev s_l_right : Stmt := top 31
noncomputable abbrev s_law : Stmt := top 32
theorem sc_p_is_number : FnScope ["thing"] ["thing"] (defScope s_p_is_number) := ⟨rfl, rfl, rfl, by decide +kernel, rfl, by decide +kernel, by decide +kernel⟩
theorem sc_p_is_whole : FnScope ["thing", "low", "high"] ["thing", "low", "high"] (defScope s_p_is_whole) := ⟨rfl, rfl, rfl, by decide +kernel, rfl, by decide +kernel, by decide +kernel⟩
theorem sc_p_is_row : FnScope ["thing", "fewest", "most", "high"] ["thing", "fewest", "most", "high"] (defScope s_p_is_row) := ⟨rfl, rfl, rfl, by decide +kernel, rfl, by decide +kernel, by decide +kernel⟩
theorem sc_p_is_field : FnScope ["thing"] ["thing"] (defScope s_p_is_field) := ⟨rfl, rfl, rfl, by decide +kernel, rfl, by decide +kernel, by decide +kernel⟩
theorem sc_p_is_standing : FnScope ["field", "thing", "limit", "barred", "signs", "begin", "end", "marked", "free"] ["field", "thing"] (defScope s_p_is_standing) := ⟨rfl, rfl, rfl, by decide +kernel, rfl, by decide +kernel, by decide +kernel⟩
theorem sc_p_is_marked_stretch : FnScope ["thing", "many", "first", "behind"] ["thing", "many"] (defScope s_p_is_marked_stretch) := ⟨rfl, rfl, rfl, by decide +kernel, rfl, by decide +kernel, by decide +kernel⟩
theorem sc_p_free_signs : FnScope ["signs", "marked"] ["signs", "marked"] (defScope s_p_free_signs) := ⟨rfl, rfl, rfl, by decide +kernel, rfl, by decide +kernel, by decide +kernel⟩
theorem sc_p_has_barred : FnScope ["barred", "signs"] ["barred", "signs"] (defScope s_p_has_barred) := ⟨rfl, rfl, rfl, by decide +kernel, rfl, by decide +kernel, by decide +kernel⟩
theorem sc_l_bag : FnScope ["_law_script", "_law_at", "_law_cell", "_law_mix", "_law_k"] ["_law_script", "_law_at"] (defScope s_l_bag) := ⟨rfl, rfl, rfl, by decide +kernel, rfl, by decide +kernel, by decide +kernel⟩
theorem sc_l_take : FnScope ["_law_bag_here", "_law_many", "_law_digit"] ["_law_bag_here", "_law_many"] (defScope s_l_take) := ⟨rfl, rfl, rfl, by decide +kernel, rfl, by decide +kernel, by decide +kernel⟩
theorem sc_l_sign : FnScope ["_law_bag_here", "_law_far"] ["_law_bag_here", "_law_far"] (defScope s_l_sign) := ⟨rfl, rfl, rfl, by decide +kernel, rfl, by decide +kernel, by decide +kernel⟩
theorem sc_l_signs : FnScope ["_law_bag_here", "_law_far", "_law_many"] ["_law_bag_here", "_law_far", "_law_many"] (defScope s_l_signs) := ⟨rfl, rfl, rfl, by decide +kernel, rfl, by decide +kernel, by decide +kernel⟩
theorem sc_l_field : FnScope ["_law_bag_here", "_law_far", "_law_way", "_law_limit"] ["_law_bag_here", "_law_far"] (defScope s_l_field) := ⟨rfl, rfl, rfl, by decide +kernel, rfl, by decide +kernel, by decide +kernel⟩
theorem sc_l_free : FnScope ["_law_field_here", "_law_sign_here"] ["_law_field_here", "_law_sign_here"] (defScope s_l_free) := ⟨rfl, rfl, rfl, by decide +kernel, rfl, by decide +kernel, by decide +kernel⟩
theorem sc_l_standing : FnScope ["_law_bag_here", "_law_field_here", "_law_far", "_law_way", "_law_many", "_law_signs_here", "_law_marked", "_law_more", "_law_at", "_law_begin"] ["_law_bag_here", "_law_field_here", "_law_far"] (defScope s_l_standing) := ⟨rfl, rfl, rfl, by decide +kernel, rfl, by decide +kernel, by decide +kernel⟩
theorem sc_l_is_from : FnScope ["_law_thing", "_law_least", "_law_most"] ["_law_thing", "_law_least", "_law_most"] (defScope s_l_is_from) := ⟨rfl, rfl, rfl, by decide +kernel, rfl, by decide +kernel, by decide +kernel⟩
theorem sc_l_are_signs : FnScope ["_law_thing", "_law_least", "_law_most"] ["_law_thing", "_law_least", "_law_most"] (defScope s_l_are_signs) := ⟨rfl, rfl, rfl, by decide +kernel, rfl, by decide +kernel, by decide +kernel⟩
theorem sc_l_is_stretch : FnScope ["_law_thing", "_law_many"] ["_law_thing", "_law_many"] (defScope s_l_is_stretch) := ⟨rfl, rfl, rfl, by decide +kernel, rfl, by decide +kernel, by decide +kernel⟩
theorem sc_l_is_standing : FnScope ["_law_field_here", "_law_thing", "_law_signs_here", "_law_begin", "_law_end", "_law_marked", "_law_many", "_law_first", "_law_behind", "_law_left"] ["_law_field_here", "_law_thing"] (defScope s_l_is_standing) := ⟨rfl, rfl, rfl, by decide +kernel, rfl, by decide +kernel, by decide +kernel⟩
theorem sc_l_is_field : FnScope ["_law_thing"] ["_law_thing"] (defScope s_l_is_field) := ⟨rfl, rfl, rfl, by decide +kernel, rfl, by decide +kernel, by decide +kernel⟩
theorem sc_l_odd : FnScope ["_law_bag_here", "_law_odd_here"] ["_law_bag_here"] (defScope s_l_odd) := ⟨rfl, rfl, rfl, by decide +kernel, rfl, by decide +kernel, by decide +kernel⟩
theorem sc_l_spoilt : FnScope ["_law_bag_here", "_law_thing", "_law_way", "_law_odd_here", "_law_at"] ["_law_bag_here", "_law_thing"] (defScope s_l_spoilt) := ⟨rfl, rfl, rfl, by decide +kernel, rfl, by decide +kernel, by decide +kernel⟩
theorem sc_l_over : FnScope ["_law_bag_here", "_law_field_here", "_law_far", "_law_signs_here", "_law_begin", "_law_end", "_law_marked", "_law_way", "_law_more", "_law_at", "_law_wide"] ["_law_bag_here", "_law_field_here", "_law_far"] (defScope s_l_over) := ⟨rfl, rfl, rfl, by decide +kernel, rfl, by decide +kernel, by decide +kernel⟩
theorem sc_l_copy : FnScope ["_law_thing"] ["_law_thing"] (defScope s_l_copy) := ⟨rfl, rfl, rfl, by decide +kernel, rfl, by decide +kernel, by decide +kernel⟩
theorem sc_l_right : FnScope ["_law_field_here", "_law_thing", "_law_other", "_law_handed", "_law_dues", "_law_turn", "_law_found"] ["_law_field_here", "_law_thing", "_law_other"] (defScope s_l_right) := ⟨rfl, rfl, rfl, by decide +kernel, rfl, by decide +kernel, by decide +kernel⟩
theorem sc_law : FnScope ["_law_script", "_law_at", "_law_bag_here", "_law_far", "_law_field_here", "_law_standing_here", "_law_turn", "_law_thing", "_law_other", "_law_again"] ["_law_script"] (defScope s_law) := ⟨rfl, rfl, rfl, by decide +kernel, rfl, by decide +kernel, by decide +kernel⟩
structure Dx (K : PySem.W.Frag) (mg : Str → Option Value) (x : Str) (st : Stmt) (ps : List Str) where
  f : Addr
  d : FuncData
  F : Fun K x x st f d
  b : Binds K d ps []
  m : mg x = some (.ref f)
set_option genInjectivity false in
set_option genSizeOf false in
set_option genSizeOfSpec false in
structure Wd (K : PySem.W.Frag) (mg : Str → Option Value) where
  x_p_is_number : Dx K mg "is_number" s_p_is_number ["thing"]
  x_p_is_whole : Dx K mg "is_whole" s_p_is_whole ["thing", "low", "high"]
  x_p_is_row : Dx K mg "is_row" s_p_is_row ["thing", "fewest", "most", "high"]
  x_p_is_field : Dx K mg "is_field" s_p_is_field ["thing"]
  x_p_is_standing : Dx K mg "is_standing" s_p_is_standing ["field", "thing"]
  x_p_is_marked_stretch : Dx K mg "is_marked_stretch" s_p_is_marked_stretch ["thing", "many"]
  x_p_free_signs : Dx K mg "free_signs" s_p_free_signs ["signs", "marked"]
  x_p_has_barred : Dx K mg "has_barred" s_p_has_barred ["barred", "signs"]
  x_l_bag : Dx K mg "_law_bag" s_l_bag ["_law_script", "_law_at"]
  x_l_take : Dx K mg "_law_take" s_l_take ["_law_bag_here", "_law_many"]
  x_l_sign : Dx K mg "_law_sign" s_l_sign ["_law_bag_here", "_law_far"]
  x_l_signs : Dx K mg "_law_signs" s_l_signs ["_law_bag_here", "_law_far", "_law_many"]
  x_l_field : Dx K mg "_law_field" s_l_field ["_law_bag_here", "_law_far"]
  x_l_free : Dx K mg "_law_free" s_l_free ["_law_field_here", "_law_sign_here"]
  x_l_standing : Dx K mg "_law_standing" s_l_standing ["_law_bag_here", "_law_field_here", "_law_far"]
  x_l_is_from : Dx K mg "_law_is_from" s_l_is_from ["_law_thing", "_law_least", "_law_most"]
  x_l_are_signs : Dx K mg "_law_are_signs" s_l_are_signs ["_law_thing", "_law_least", "_law_most"]
  x_l_is_stretch : Dx K mg "_law_is_stretch" s_l_is_stretch ["_law_thing", "_law_many"]
  x_l_is_standing : Dx K mg "_law_is_standing" s_l_is_standing ["_law_field_here", "_law_thing"]
  x_l_is_field : Dx K mg "_law_is_field" s_l_is_field ["_law_thing"]
  x_l_odd : Dx K mg "_law_odd" s_l_odd ["_law_bag_here"]
  x_l_spoilt : Dx K mg "_law_spoilt" s_l_spoilt ["_law_bag_here", "_law_thing"]
  x_l_over : Dx K mg "_law_over" s_l_over ["_law_bag_here", "_law_field_here", "_law_far"]
  x_l_copy : Dx K mg "_law_copy" s_l_copy ["_law_thing"]
  x_l_right : Dx K mg "_law_right" s_l_right ["_law_field_here", "_law_thing", "_law_other"]
  x_law : Dx K mg "law" s_law ["_law_script"]
  n_abs : mg "abs" = none
  n_all : mg "all" = none
  n_any : mg "any" = none
  n_bool : mg "bool" = none
  c_LAST_LIMIT : ∃ t, mg "LAST_LIMIT" = some (.int 60 t)
  c_LAST_SIGN : ∃ t, mg "LAST_SIGN" = some (.int 1039 t)
  c_MOST_BARRED : ∃ t, mg "MOST_BARRED" = some (.int 20 t)
  c_MOST_MARKED : ∃ t, mg "MOST_MARKED" = some (.int 96 t)
  n_enumerate : mg "enumerate" = none
  n_int : mg "int" = none
  n_isinstance : mg "isinstance" = none
  n_len : mg "len" = none
  n_list : mg "list" = none
  n_max : mg "max" = none
  n_min : mg "min" = none
  n_range : mg "range" = none
  n_str : mg "str" = none
  n_tuple : mg "tuple" = none
end My
namespace My
open PySem L2 Mi
section
variable {P : Program} {w : World} {K : PySem.W.Frag} {mg : Str → Option Value} {base : Heap}
noncomputable def m_p_is_number : MS := (sRet (mAndV (mIsi "int" (mVar 0)) (mNotV (mIsi "bool" (mVar 0)))))
noncomputable def f_p_is_number : FM := runF 1 m_p_is_number
theorem ok_p_is_number (T : Wd K mg) : FnOk P w K mg base CX0 1 T.x_p_is_number.f T.x_p_is_number.d ["thing"] (spM (G0 K) 1 f_p_is_number) := by
  have h : FnOk P w K mg base CX0 (1) T.x_p_is_number.f T.x_p_is_number.d ["thing"] (spM (G0 K) (List.length (["thing"] : List Str)) (runF (List.length (["thing"] : List Str)) m_p_is_number)) := fn_M T.x_p_is_number.F sc_p_is_number rfl fun cdv A outer s H E F hr => by
    have h64 := hr.units
    exact (ss_one (ss_ret (se_and (se_isi rfl (by decide) rfl T.n_isinstance (se_var 0 rfl (pv 0)) (pe_bltn (v := .ty "int") rfl T.n_int PyProof.Rows.Boot.«int» rfl)) (se_one (se_not (se_isi rfl (by decide) rfl T.n_isinstance (se_var 0 rfl (pv 0)) (pe_bltn (v := .ty "bool") rfl T.n_bool PyProof.Rows.Boot.«bool» rfl)))))))
  exact h
end
end My
namespace My
open PySem L2 Mi
section
variable {P : Program} {w : World} {K : PySem.W.Frag} {mg : Str → Option Value} {base : Heap}
noncomputable def m_p_is_whole : MS := (sRet (mAndV (mCall f_p_is_number [(mVar 0)]) (mChain (mVar 1) (mVar 0) (mVar 2) leD leD)))
noncomputable def f_p_is_whole : FM := runF 3 m_p_is_whole
theorem ok_p_is_whole (T : Wd K mg) : FnOk P w K mg base CX0 2 T.x_p_is_whole.f T.x_p_is_whole.d ["thing", "low", "high"] (spM (G0 K) 3 f_p_is_whole) := by
  have h : FnOk P w K mg base CX0 (2) T.x_p_is_whole.f T.x_p_is_whole.d ["thing", "low", "high"] (spM (G0 K) (List.length (["thing", "low", "high"] : List Str)) (runF (List.length (["thing", "low", "high"] : List Str)) m_p_is_whole)) := fn_M T.x_p_is_whole.F sc_p_is_whole rfl fun cdv A outer s H E F hr => by
    have h64 := hr.units
    exact (ss_one (ss_ret (se_and (se_call rfl ((ok_p_is_number T).mono (by omega)) hr rfl T.x_p_is_number.m T.x_p_is_number.F.kp T.x_p_is_number.b pass0 (sa_of rfl (.cons (se_var 0 rfl (pv 0)) rfl .nil)) rfl) (se_one (se_cmp2 cm_le cm_le (se_var 1 rfl (pv 1)) (se_var 0 rfl (pv 0)) (se_var 2 rfl (pv 2)))))))
  exact h
end
end My
namespace My
open PySem L2 Mi
section
variable {P : Program} {w : World} {K : PySem.W.Frag} {mg : Str → Option Value} {base : Heap}
noncomputable def m_p_is_row : MS := (seqS (sIf (mOr (mNot (mTest (mIsi "tuple" (mVar 0)))) (mNot (mBoo (mChain (mVar 1) (mCB [(mVar 0)] lenD) (mVar 2) leD leD)))) (sRet (mC (.bool false))) sNx)
    (sRet (mCB [(mComp (mSeqI (mVar 0)) (.nm 0) (rt true) (mCall f_p_is_whole [(mVar 0), (mC (.int 0)), (mVar 1)]) 1 [3])] allD)))
noncomputable def f_p_is_row : FM := runF 4 m_p_is_row
theorem ok_p_is_row (T : Wd K mg) : FnOk P w K mg base CX0 3 T.x_p_is_row.f T.x_p_is_row.d ["thing", "fewest", "most", "high"] (spM (G0 K) 4 f_p_is_row) := by
  have h : FnOk P w K mg base CX0 (3) T.x_p_is_row.f T.x_p_is_row.d ["thing", "fewest", "most", "high"] (spM (G0 K) (List.length (["thing", "fewest", "most", "high"] : List Str)) (runF (List.length (["thing", "fewest", "most", "high"] : List Str)) m_p_is_row)) := fn_M T.x_p_is_row.F sc_p_is_row rfl fun cdv A outer s H E F hr => by
    have h64 := hr.units
    exact (ss_cons (ss_if (SW.sb (sw_or (sb_not (sb_truth rfl (se_isi rfl (by decide) rfl T.n_isinstance (se_var 0 rfl (pv 0)) (pe_bltn (v := .ty "tuple") rfl T.n_tuple PyProof.Rows.Boot.«tuple» rfl)))) (sw_or1 (sb_not (sb_cmp2 cm_le cm_le (se_var 1 rfl (pv 1)) (se_cb rfl (cb_len rfl) rfl T.n_len PyProof.Rows.Boot.«len» (sa_of rfl (.cons (se_var 0 rfl (pv 0)) rfl .nil))) (se_var 2 rfl (pv 2))))))) (ss_one (ss_ret (se_c rfl pe_bl))) ss_nil)
    (ss_one (ss_ret (se_cb rfl (cb_all rfl hr.hd) rfl T.n_all PyProof.Rows.Boot.«all» (sa_of rfl (.cons (se_comp (own := ["part"]) (frees := ["high"]) (ix := [3]) rfl rfl (compOk.sc (by kernel_rfl)) (si_seq rfl (se_var 0 rfl (pv 0))) (fun _ _ _ _ _ _ _ => (sg_name (pg_name (i := 0) (show List.Nodup (["part", "high"] : List Str) by decide +kernel) rfl (Or.inl rfl)))) (fun _ _ _ _ _ _ _ => sts_nil) (fun _ _ _ _ _ _ _ => (se_call rfl ((ok_p_is_whole T).mono (by omega)) hr rfl T.x_p_is_whole.m T.x_p_is_whole.F.kp T.x_p_is_whole.b pass0 (sa_of rfl (.cons (se_var 0 rfl (pv 0)) rfl (.cons (se_c rfl pe_int) rfl (.cons (se_var 1 rfl (pv 1)) rfl .nil)))) rfl))) rfl .nil))))))
  exact h
end
end My
namespace My
open PySem L2 Mi
section
variable {P : Program} {w : World} {K : PySem.W.Frag} {mg : Str → Option Value} {base : Heap}
noncomputable def m_p_is_field : MS := (seqS (sIf (mOr (mNot (mTest (mIsi "tuple" (mVar 0)))) (mBoo (mBin (mCB [(mVar 0)] lenD) (mC (.int 2)) neD))) (sRet (mC (.bool false))) sNx)
    (sRet (mAndV (mCall f_p_is_whole [(mBin (mVar 0) (mC (.int 0)) ixD), (mC (.int 0)), (mC (.int 60))]) (mCall f_p_is_row [(mBin (mVar 0) (mC (.int 1)) ixD), (mC (.int 0)), (mC (.int 20)), (mC (.int 1039))]))))
noncomputable def f_p_is_field : FM := runF 1 m_p_is_field
theorem ok_p_is_field (T : Wd K mg) : FnOk P w K mg base CX0 4 T.x_p_is_field.f T.x_p_is_field.d ["thing"] (spM (G0 K) 1 f_p_is_field) := by
  have h : FnOk P w K mg base CX0 (4) T.x_p_is_field.f T.x_p_is_field.d ["thing"] (spM (G0 K) (List.length (["thing"] : List Str)) (runF (List.length (["thing"] : List Str)) m_p_is_field)) := fn_M T.x_p_is_field.F sc_p_is_field rfl fun cdv A outer s H E F hr => by
    have h64 := hr.units
    exact (ss_cons (ss_if (SW.sb (sw_or (sb_not (sb_truth rfl (se_isi rfl (by decide) rfl T.n_isinstance (se_var 0 rfl (pv 0)) (pe_bltn (v := .ty "tuple") rfl T.n_tuple PyProof.Rows.Boot.«tuple» rfl)))) (sw_or1 (sb_cmp (cm_ne rfl h64) (se_cb rfl (cb_len rfl) rfl T.n_len PyProof.Rows.Boot.«len» (sa_of rfl (.cons (se_var 0 rfl (pv 0)) rfl .nil))) (se_c rfl pe_int) (nomark _))))) (ss_one (ss_ret (se_c rfl pe_bl))) ss_nil)
    (ss_one (ss_ret (se_and (se_call rfl ((ok_p_is_whole T).mono (by omega)) hr rfl T.x_p_is_whole.m T.x_p_is_whole.F.kp T.x_p_is_whole.b pass0 (sa_of rfl (.cons (se_idx rfl (se_var 0 rfl (pv 0)) (se_c rfl pe_int) (fun _ _ => rfl)) rfl (.cons (se_c rfl pe_int) rfl (.cons (se_c rfl (pe_glob (v := .int 60) rfl T.c_LAST_LIMIT.choose_spec ⟨_, rfl⟩)) rfl .nil)))) rfl) (se_one (se_call rfl ((ok_p_is_row T).mono (by omega)) hr rfl T.x_p_is_row.m T.x_p_is_row.F.kp T.x_p_is_row.b pass0 (sa_of rfl (.cons (se_idx rfl (se_var 0 rfl (pv 0)) (se_c rfl pe_int) (fun _ _ => rfl)) rfl (.cons (se_c rfl pe_int) rfl (.cons (se_c rfl (pe_glob (v := .int 20) rfl T.c_MOST_BARRED.choose_spec ⟨_, rfl⟩)) rfl (.cons (se_c rfl (pe_glob (v := .int 1039) rfl T.c_LAST_SIGN.choose_spec ⟨_, rfl⟩)) rfl .nil))))) rfl))))))
  exact h
end
end My
namespace My
open PySem L2 Mi
section
variable {P : Program} {w : World} {K : PySem.W.Frag} {mg : Str → Option Value} {base : Heap}
noncomputable def m_p_free_signs : MS := (seqS (sIf (mBoo (mBin (mVar 1) (mC .non) isN)) (sRet (mVar 0)) sNx)
    (sRet (mBin (mSl (mVar 0) none (some (mBin (mVar 1) (mC (.int 0)) ixD))) (mSl (mVar 0) (some (mBin (mVar 1) (mC (.int 1)) ixD)) none) addD)))
noncomputable def f_p_free_signs : FM := runF 2 m_p_free_signs
theorem ok_p_free_signs (T : Wd K mg) : FnOk P w K mg base CX0 1 T.x_p_free_signs.f T.x_p_free_signs.d ["signs", "marked"] (spM (G0 K) 2 f_p_free_signs) := by
  have h : FnOk P w K mg base CX0 (1) T.x_p_free_signs.f T.x_p_free_signs.d ["signs", "marked"] (spM (G0 K) (List.length (["signs", "marked"] : List Str)) (runF (List.length (["signs", "marked"] : List Str)) m_p_free_signs)) := fn_M T.x_p_free_signs.F sc_p_free_signs rfl fun cdv A outer s H E F hr => by
    have h64 := hr.units
    exact (ss_cons (ss_if (sb_cmp cm_isN (se_var 1 rfl (pv 1)) (se_c rfl pe_non) (nomark _)) (ss_one (ss_ret (se_var 0 rfl (pv 0)))) ss_nil)
    (ss_one (ss_ret (se_add rfl (se_slice rfl (se_var 0 rfl (pv 0)) so_none (so_some (se_idx rfl (se_var 1 rfl (pv 1)) (se_c rfl pe_int) (fun _ _ => rfl)))) (se_slice rfl (se_var 0 rfl (pv 0)) (so_some (se_idx rfl (se_var 1 rfl (pv 1)) (se_c rfl pe_int) (fun _ _ => rfl))) so_none)))))
  exact h
end
end My
namespace My
open PySem L2 Mi
section
variable {P : Program} {w : World} {K : PySem.W.Frag} {mg : Str → Option Value} {base : Heap}
noncomputable def m_p_is_marked_stretch : MS := (seqS (sIf (mOr (mNot (mTest (mIsi "tuple" (mVar 0)))) (mBoo (mBin (mCB [(mVar 0)] lenD) (mC (.int 2)) neD))) (sRet (mC (.bool false))) sNx)
    (seqS (sAsg (.tp [(.nm 2), (.nm 3)]) (mVar 0))
    (sRet (mAndV (mCall f_p_is_whole [(mVar 2), (mC (.int 0)), (mVar 1)]) (mCall f_p_is_whole [(mVar 3), (mBin (mVar 2) (mC (.int 1)) addD), (mCB [(mVar 1), (mBin (mVar 2) (mC (.int 96)) addD)] minD)])))))
noncomputable def f_p_is_marked_stretch : FM := runF 4 m_p_is_marked_stretch
theorem ok_p_is_marked_stretch (T : Wd K mg) : FnOk P w K mg base CX0 3 T.x_p_is_marked_stretch.f T.x_p_is_marked_stretch.d ["thing", "many"] (spM (G0 K) 2 f_p_is_marked_stretch) := by
  have h : FnOk P w K mg base CX0 (3) T.x_p_is_marked_stretch.f T.x_p_is_marked_stretch.d ["thing", "many"] (spM (G0 K) (List.length (["thing", "many"] : List Str)) (runF (List.length (["thing", "many", "first", "behind"] : List Str)) m_p_is_marked_stretch)) := fn_M T.x_p_is_marked_stretch.F sc_p_is_marked_stretch rfl fun cdv A outer s H E F hr => by
    have h64 := hr.units
    exact (ss_cons (ss_if (SW.sb (sw_or (sb_not (sb_truth rfl (se_isi rfl (by decide) rfl T.n_isinstance (se_var 0 rfl (pv 0)) (pe_bltn (v := .ty "tuple") rfl T.n_tuple PyProof.Rows.Boot.«tuple» rfl)))) (sw_or1 (sb_cmp (cm_ne rfl h64) (se_cb rfl (cb_len rfl) rfl T.n_len PyProof.Rows.Boot.«len» (sa_of rfl (.cons (se_var 0 rfl (pv 0)) rfl .nil))) (se_c rfl pe_int) (nomark _))))) (ss_one (ss_ret (se_c rfl pe_bl))) ss_nil)
    (ss_cons (ss_asg (se_var 0 rfl (pv 0)) (sg_tup rfl rfl (sgs_cons (sg_name (pg_name (i := 2) sc_p_is_marked_stretch.nd rfl (Or.inl rfl))) (sgs_cons (sg_name (pg_name (i := 3) sc_p_is_marked_stretch.nd rfl (Or.inl rfl))) sgs_nil))))
    (ss_one (ss_ret (se_and (se_call rfl ((ok_p_is_whole T).mono (by omega)) hr rfl T.x_p_is_whole.m T.x_p_is_whole.F.kp T.x_p_is_whole.b pass0 (sa_of rfl (.cons (se_var 2 rfl (pv 2)) rfl (.cons (se_c rfl pe_int) rfl (.cons (se_var 1 rfl (pv 1)) rfl .nil)))) rfl) (se_one (se_call rfl ((ok_p_is_whole T).mono (by omega)) hr rfl T.x_p_is_whole.m T.x_p_is_whole.F.kp T.x_p_is_whole.b pass0 (sa_of rfl (.cons (se_var 3 rfl (pv 3)) rfl (.cons (se_add rfl (se_var 2 rfl (pv 2)) (se_c rfl pe_int)) rfl (.cons (se_cb rfl (cb_min rfl) rfl T.n_min PyProof.Rows.Boot.«min» (sa_of rfl (.cons (se_var 1 rfl (pv 1)) rfl (.cons (se_add rfl (se_var 2 rfl (pv 2)) (se_c rfl (pe_glob (v := .int 96) rfl T.c_MOST_MARKED.choose_spec ⟨_, rfl⟩))) rfl .nil)))) rfl .nil)))) rfl)))))))
  exact h
end
end My
namespace My
open PySem L2 Mi
section
variable {P : Program} {w : World} {K : PySem.W.Frag} {mg : Str → Option Value} {base : Heap}
noncomputable def m_p_has_barred : MS := (sRet (mCB [(mComp (mSeqI (mVar 1)) (.nm 0) (rt true) (mBin (mVar 0) (mVar 1) inD) 1 [0])] anyD))
noncomputable def f_p_has_barred : FM := runF 2 m_p_has_barred
theorem ok_p_has_barred (T : Wd K mg) : FnOk P w K mg base CX0 1 T.x_p_has_barred.f T.x_p_has_barred.d ["barred", "signs"] (spM (G0 K) 2 f_p_has_barred) := by
  have h : FnOk P w K mg base CX0 (1) T.x_p_has_barred.f T.x_p_has_barred.d ["barred", "signs"] (spM (G0 K) (List.length (["barred", "signs"] : List Str)) (runF (List.length (["barred", "signs"] : List Str)) m_p_has_barred)) := fn_M T.x_p_has_barred.F sc_p_has_barred rfl fun cdv A outer s H E F hr => by
    have h64 := hr.units
    exact (ss_one (ss_ret (se_cb rfl (cb_any rfl hr.hd) rfl T.n_any PyProof.Rows.Boot.«any» (sa_of rfl (.cons (se_comp (own := ["sign"]) (frees := ["barred"]) (ix := [0]) rfl rfl (compOk.sc (by kernel_rfl)) (si_seq rfl (se_var 1 rfl (pv 1))) (fun _ _ _ _ _ _ _ => (sg_name (pg_name (i := 0) (show List.Nodup (["sign", "barred"] : List Str) by decide +kernel) rfl (Or.inl rfl)))) (fun _ _ _ _ _ _ _ => sts_nil) (fun _ _ _ _ _ _ _ => (se_cmp (cm_in rfl h64) (se_var 0 rfl (pv 0)) (se_var 1 rfl (pv 1)) (by with_unfolding_all rfl)))) rfl .nil)))))
  exact h
end
end My
namespace My
open PySem L2 Mi
section
variable {P : Program} {w : World} {K : PySem.W.Frag} {mg : Str → Option Value} {base : Heap}
noncomputable def m_p_is_standing : MS := (seqS (sIf (mOr (mNot (mTest (mIsi "tuple" (mVar 1)))) (mBoo (mBin (mCB [(mVar 1)] lenD) (mC (.int 4)) neD))) (sRet (mC (.bool false))) sNx)
    (seqS (sAsg (.tp [(.nm 2), (.nm 3)]) (mVar 0))
    (seqS (sAsg (.tp [(.nm 4), (.nm 5), (.nm 6), (.nm 7)]) (mVar 1))
    (seqS (sIf (mNot (mTest (mCall f_p_is_row [(mVar 4), (mC (.int 0)), (mBin (mVar 2) (mC (.int 96)) addD), (mC (.int 1039))]))) (sRet (mC (.bool false))) sNx)
    (seqS (sIf (mOr (mNot (mTest (mCall f_p_is_whole [(mVar 5), (mC (.int 0)), (mCB [(mVar 4)] lenD)]))) (mNot (mTest (mCall f_p_is_whole [(mVar 6), (mVar 5), (mCB [(mVar 4)] lenD)])))) (sRet (mC (.bool false))) sNx)
    (seqS (sIf (mAnd (mBoo (mBin (mVar 7) (mC .non) notN)) (mNot (mTest (mCall f_p_is_marked_stretch [(mVar 7), (mCB [(mVar 4)] lenD)])))) (sRet (mC (.bool false))) sNx)
    (seqS (sAsg (.nm 8) (mCall f_p_free_signs [(mVar 4), (mVar 7)]))
    (sRet (mAndV (mBin (mCB [(mVar 8)] lenD) (mVar 2) leD) (mNotV (mCall f_p_has_barred [(mVar 3), (mVar 8)])))))))))))
noncomputable def f_p_is_standing : FM := runF 9 m_p_is_standing
theorem ok_p_is_standing (T : Wd K mg) : FnOk P w K mg base CX0 4 T.x_p_is_standing.f T.x_p_is_standing.d ["field", "thing"] (spM (G0 K) 2 f_p_is_standing) := by
  have h : FnOk P w K mg base CX0 (4) T.x_p_is_standing.f T.x_p_is_standing.d ["field", "thing"] (spM (G0 K) (List.length (["field", "thing"] : List Str)) (runF (List.length (["field", "thing", "limit", "barred", "signs", "begin", "end", "marked", "free"] : List Str)) m_p_is_standing)) := fn_M T.x_p_is_standing.F sc_p_is_standing rfl fun cdv A outer s H E F hr => by
    have h64 := hr.units
    exact (ss_cons (ss_if (SW.sb (sw_or (sb_not (sb_truth rfl (se_isi rfl (by decide) rfl T.n_isinstance (se_var 1 rfl (pv 1)) (pe_bltn (v := .ty "tuple") rfl T.n_tuple PyProof.Rows.Boot.«tuple» rfl)))) (sw_or1 (sb_cmp (cm_ne rfl h64) (se_cb rfl (cb_len rfl) rfl T.n_len PyProof.Rows.Boot.«len» (sa_of rfl (.cons (se_var 1 rfl (pv 1)) rfl .nil))) (se_c rfl pe_int) (nomark _))))) (ss_one (ss_ret (se_c rfl pe_bl))) ss_nil)
    (ss_cons (ss_asg (se_var 0 rfl (pv 0)) (sg_tup rfl rfl (sgs_cons (sg_name (pg_name (i := 2) sc_p_is_standing.nd rfl (Or.inl rfl))) (sgs_cons (sg_name (pg_name (i := 3) sc_p_is_standing.nd rfl (Or.inl rfl))) sgs_nil))))
    (ss_cons (ss_asg (se_var 1 rfl (pv 1)) (sg_tup rfl rfl (sgs_cons (sg_name (pg_name (i := 4) sc_p_is_standing.nd rfl (Or.inl rfl))) (sgs_cons (sg_name (pg_name (i := 5) sc_p_is_standing.nd rfl (Or.inl rfl))) (sgs_cons (sg_name (pg_name (i := 6) sc_p_is_standing.nd rfl (Or.inl rfl))) (sgs_cons (sg_name (pg_name (i := 7) sc_p_is_standing.nd rfl (Or.inl rfl))) sgs_nil))))))
    (ss_cons (ss_if (sb_not (sb_truth rfl (se_call rfl ((ok_p_is_row T).mono (by omega)) hr rfl T.x_p_is_row.m T.x_p_is_row.F.kp T.x_p_is_row.b pass0 (sa_of rfl (.cons (se_var 4 rfl (pv 4)) rfl (.cons (se_c rfl pe_int) rfl (.cons (se_add rfl (se_var 2 rfl (pv 2)) (se_c rfl (pe_glob (v := .int 96) rfl T.c_MOST_MARKED.choose_spec ⟨_, rfl⟩))) rfl (.cons (se_c rfl (pe_glob (v := .int 1039) rfl T.c_LAST_SIGN.choose_spec ⟨_, rfl⟩)) rfl .nil))))) rfl))) (ss_one (ss_ret (se_c rfl pe_bl))) ss_nil)
    (ss_cons (ss_if (SW.sb (sw_or (sb_not (sb_truth rfl (se_call rfl ((ok_p_is_whole T).mono (by omega)) hr rfl T.x_p_is_whole.m T.x_p_is_whole.F.kp T.x_p_is_whole.b pass0 (sa_of rfl (.cons (se_var 5 rfl (pv 5)) rfl (.cons (se_c rfl pe_int) rfl (.cons (se_cb rfl (cb_len rfl) rfl T.n_len PyProof.Rows.Boot.«len» (sa_of rfl (.cons (se_var 4 rfl (pv 4)) rfl .nil))) rfl .nil)))) rfl))) (sw_or1 (sb_not (sb_truth rfl (se_call rfl ((ok_p_is_whole T).mono (by omega)) hr rfl T.x_p_is_whole.m T.x_p_is_whole.F.kp T.x_p_is_whole.b pass0 (sa_of rfl (.cons (se_var 6 rfl (pv 6)) rfl (.cons (se_var 5 rfl (pv 5)) rfl (.cons (se_cb rfl (cb_len rfl) rfl T.n_len PyProof.Rows.Boot.«len» (sa_of rfl (.cons (se_var 4 rfl (pv 4)) rfl .nil))) rfl .nil)))) rfl)))))) (ss_one (ss_ret (se_c rfl pe_bl))) ss_nil)
    (ss_cons (ss_if (SW.sb (sw_and (sb_cmp cm_notN (se_var 7 rfl (pv 7)) (se_c rfl pe_non) (nomark _)) (sw_and1 (sb_not (sb_truth rfl (se_call rfl ((ok_p_is_marked_stretch T).mono (by omega)) hr rfl T.x_p_is_marked_stretch.m T.x_p_is_marked_stretch.F.kp T.x_p_is_marked_stretch.b pass0 (sa_of rfl (.cons (se_var 7 rfl (pv 7)) rfl (.cons (se_cb rfl (cb_len rfl) rfl T.n_len PyProof.Rows.Boot.«len» (sa_of rfl (.cons (se_var 4 rfl (pv 4)) rfl .nil))) rfl .nil))) rfl)))))) (ss_one (ss_ret (se_c rfl pe_bl))) ss_nil)
    (ss_cons (ss_set (fun {te} h => ps_set (i := 8) sc_p_is_standing.nd rfl (Or.inl rfl) h) (se_call rfl ((ok_p_free_signs T).mono (by omega)) hr rfl T.x_p_free_signs.m T.x_p_free_signs.F.kp T.x_p_free_signs.b pass0 (sa_of rfl (.cons (se_var 4 rfl (pv 4)) rfl (.cons (se_var 7 rfl (pv 7)) rfl .nil))) rfl))
    (ss_one (ss_ret (se_and (se_cmp cm_le (se_cb rfl (cb_len rfl) rfl T.n_len PyProof.Rows.Boot.«len» (sa_of rfl (.cons (se_var 8 rfl (pv 8)) rfl .nil))) (se_var 2 rfl (pv 2)) (nomark _)) (se_one (se_not (se_call rfl ((ok_p_has_barred T).mono (by omega)) hr rfl T.x_p_has_barred.m T.x_p_has_barred.F.kp T.x_p_has_barred.b pass0 (sa_of rfl (.cons (se_var 3 rfl (pv 3)) rfl (.cons (se_var 8 rfl (pv 8)) rfl .nil))) rfl)))))))))))))
  exact h
end
end My
namespace My
open PySem L2 Mi
section
variable {P : Program} {w : World} {K : PySem.W.Frag} {mg : Str → Option Value} {base : Heap}
noncomputable def m_l_bag : MS := (seqS (sAsg (.nm 2) (mC (.int 0)))
    (seqS (sIf (mBoo (mBin (mVar 1) (mCB [(mVar 0)] lenD) ltD)) (sAsg (.nm 2) (mCB [(mBin (mVar 0) (mVar 1) ixD)] absD)) sNx)
    (seqS (sAsg (.nm 3) (mBin (mBin (mBin (mBin (mBin (mVar 2) (mC (.int 2147483629)) modD) (mBin (mC (.int 104729)) (mVar 1) mulD) addD) (mC (.int 17)) addD) (mC (.int 5)) powD) (mC (.int 2147483647)) modD))
    (seqS (sFor (mRng1 [(mCB [(mCB [(mVar 0)] lenD), (mC (.int 60))] minD)]) (.nm 4) (sAsg (.nm 3) (mBin (mBin (mBin (mBin (mVar 3) (mC (.int 48271)) mulD) (mBin (mBin (mBin (mVar 0) (mVar 4) ixD) (mC (.int 2147483587)) modD) (mBin (mVar 4) (mC (.int 3)) addD) mulD) addD) (mVar 4) addD) (mC (.int 2147483629)) modD)))
    (seqS (sIf (mBoo (mBin (mVar 2) (mBin (mC (.int 10)) (mC (.int 18)) powD) ltD)) (sAsg (.nm 2) (mC (.int 0))) sNx)
    (sRet (mCB [(mVar 2), (mVar 3)] lstM)))))))
noncomputable def f_l_bag : FM := runF 5 m_l_bag
theorem ok_l_bag (T : Wd K mg) : FnOk P w K mg base CX0 1 T.x_l_bag.f T.x_l_bag.d ["_law_script", "_law_at"] (spM (G0 K) 2 f_l_bag) := by
  have h : FnOk P w K mg base CX0 (1) T.x_l_bag.f T.x_l_bag.d ["_law_script", "_law_at"] (spM (G0 K) (List.length (["_law_script", "_law_at"] : List Str)) (runF (List.length (["_law_script", "_law_at", "_law_cell", "_law_mix", "_law_k"] : List Str)) m_l_bag)) := fn_M T.x_l_bag.F sc_l_bag rfl fun cdv A outer s H E F hr => by
    have h64 := hr.units
    exact (ss_cons (ss_set (fun {te} h => ps_set (i := 2) sc_l_bag.nd rfl (Or.inl rfl) h) (se_c rfl pe_int))
    (ss_cons (ss_if (sb_cmp cm_lt (se_var 1 rfl (pv 1)) (se_cb rfl (cb_len rfl) rfl T.n_len PyProof.Rows.Boot.«len» (sa_of rfl (.cons (se_var 0 rfl (pv 0)) rfl .nil))) (nomark _)) (ss_one (ss_set (fun {te} h => ps_set (i := 2) sc_l_bag.nd rfl (Or.inl rfl) h) (se_cb rfl cb_abs rfl T.n_abs PyProof.Rows.Boot.«abs» (sa_of rfl (.cons (se_idx rfl (se_var 0 rfl (pv 0)) (se_var 1 rfl (pv 1)) (fun _ _ => rfl)) rfl .nil))))) ss_nil)
    (ss_cons (ss_set (fun {te} h => ps_set (i := 3) sc_l_bag.nd rfl (Or.inl rfl) h) (se_mod rfl (se_pow rfl (se_add rfl (se_add rfl (se_mod rfl (se_var 2 rfl (pv 2)) (se_c rfl pe_int)) (se_mul rfl (se_c rfl pe_int) (se_var 1 rfl (pv 1)))) (se_c rfl pe_int)) (se_c rfl pe_int)) (se_c rfl pe_int)))
    (ss_cons (ss_for PassesOwn.never rfl (si_rng1 rfl T.n_range (sa_of rfl (.cons (se_cb rfl (cb_min rfl) rfl T.n_min PyProof.Rows.Boot.«min» (sa_of rfl (.cons (se_cb rfl (cb_len rfl) rfl T.n_len PyProof.Rows.Boot.«len» (sa_of rfl (.cons (se_var 0 rfl (pv 0)) rfl .nil))) rfl (.cons (se_c rfl pe_int) rfl .nil)))) rfl .nil))) (sg_name (pg_name (i := 4) sc_l_bag.nd rfl (Or.inl rfl))) (ss_one (ss_set (fun {te} h => ps_set (i := 3) sc_l_bag.nd rfl (Or.inl rfl) h) (se_mod rfl (se_add rfl (se_add rfl (se_mul rfl (se_var 3 rfl (pv 3)) (se_c rfl pe_int)) (se_mul rfl (se_mod rfl (se_idx rfl (se_var 0 rfl (pv 0)) (se_var 4 rfl (pv 4)) (fun _ _ => rfl)) (se_c rfl pe_int)) (se_add rfl (se_var 4 rfl (pv 4)) (se_c rfl pe_int)))) (se_var 4 rfl (pv 4))) (se_c rfl pe_int)))))
    (ss_cons (ss_if (sb_cmp cm_lt (se_var 2 rfl (pv 2)) (se_pow rfl (se_c rfl pe_int) (se_c rfl pe_int)) (nomark _)) (ss_one (ss_set (fun {te} h => ps_set (i := 2) sc_l_bag.nd rfl (Or.inl rfl) h) (se_c rfl pe_int))) ss_nil)
    (ss_one (ss_ret (se_lst rfl (sa_of rfl (.cons (se_var 2 rfl (pv 2)) rfl (.cons (se_var 3 rfl (pv 3)) rfl .nil)))))))))))
  exact h
end
end My
namespace My
open PySem L2 Mi
section
variable {P : Program} {w : World} {K : PySem.W.Frag} {mg : Str → Option Value} {base : Heap}
noncomputable def m_l_take : MS := (seqS (sIf (mBoo (mBin (mBin (mVar 0) (mC (.int 0)) ixD) (mC (.int 0)) gtD)) (seqS (sAsg (.nm 2) (mBin (mBin (mVar 0) (mC (.int 0)) ixD) (mVar 1) modD))
    (seqS (mTri (mBin (mBin (mVar 0) (mC (.int 0)) ixD) (mVar 1) fdivD) (mVar 0) (mC (.int 0)) setD)
    (sRet (mVar 2)))) sNx)
    (seqS (mTri (mBin (mBin (mBin (mBin (mVar 0) (mC (.int 1)) ixD) (mC (.int 48271)) mulD) (mC (.int 7919)) addD) (mC (.int 2147483647)) modD) (mVar 0) (mC (.int 1)) setD)
    (sRet (mBin (mBin (mBin (mBin (mBin (mBin (mBin (mVar 0) (mC (.int 1)) ixD) (mC (.int 3)) powD) (mC (.int 2147483587)) modD) (mC (.int 7)) fdivD) (mC (.int 69621)) mulD) (mC (.int 1073741789)) modD) (mVar 1) modD))))
noncomputable def f_l_take : FM := runF 3 m_l_take
theorem ok_l_take (T : Wd K mg) : FnOk P w K mg base CX0 1 T.x_l_take.f T.x_l_take.d ["_law_bag_here", "_law_many"] (spM (G0 K) 2 f_l_take) := by
  have h : FnOk P w K mg base CX0 (1) T.x_l_take.f T.x_l_take.d ["_law_bag_here", "_law_many"] (spM (G0 K) (List.length (["_law_bag_here", "_law_many"] : List Str)) (runF (List.length (["_law_bag_here", "_law_many", "_law_digit"] : List Str)) m_l_take)) := fn_M T.x_l_take.F sc_l_take rfl fun cdv A outer s H E F hr => by
    have h64 := hr.units
    exact (ss_cons (ss_if (sb_cmp cm_gt (se_idx rfl (se_var 0 rfl (pv 0)) (se_c rfl pe_int) (fun _ _ => rfl)) (se_c rfl pe_int) (nomark _)) (ss_cons (ss_set (fun {te} h => ps_set (i := 2) sc_l_take.nd rfl (Or.inl rfl) h) (se_mod rfl (se_idx rfl (se_var 0 rfl (pv 0)) (se_c rfl pe_int) (fun _ _ => rfl)) (se_var 1 rfl (pv 1))))
    (ss_cons (ss_setI (se_fdiv rfl (se_idx rfl (se_var 0 rfl (pv 0)) (se_c rfl pe_int) (fun _ _ => rfl)) (se_var 1 rfl (pv 1))) (se_var 0 rfl (pv 0)) (se_c rfl pe_int) (fun {to ti} h1 h2 => pg_sub h1 h2 set_list))
    (ss_one (ss_ret (se_var 2 rfl (pv 2)))))) ss_nil)
    (ss_cons (ss_setI (se_mod rfl (se_add rfl (se_mul rfl (se_idx rfl (se_var 0 rfl (pv 0)) (se_c rfl pe_int) (fun _ _ => rfl)) (se_c rfl pe_int)) (se_c rfl pe_int)) (se_c rfl pe_int)) (se_var 0 rfl (pv 0)) (se_c rfl pe_int) (fun {to ti} h1 h2 => pg_sub h1 h2 set_list))
    (ss_one (ss_ret (se_mod rfl (se_mod rfl (se_mul rfl (se_fdiv rfl (se_mod rfl (se_pow rfl (se_idx rfl (se_var 0 rfl (pv 0)) (se_c rfl pe_int) (fun _ _ => rfl)) (se_c rfl pe_int)) (se_c rfl pe_int)) (se_c rfl pe_int)) (se_c rfl pe_int)) (se_c rfl pe_int)) (se_var 1 rfl (pv 1)))))))
  exact h
end
end My
namespace My
open PySem L2 Mi
section
variable {P : Program} {w : World} {K : PySem.W.Frag} {mg : Str → Option Value} {base : Heap}
noncomputable def m_l_sign : MS := (seqS (sIf (mBoo (mBin (mCall f_l_take [(mVar 0), (mC (.int 4))]) (mC (.int 0)) eqD)) (sRet (mCall f_l_take [(mVar 0), (mC (.int 1040))])) sNx)
    (sRet (mBin (mBin (mVar 1) (mCall f_l_take [(mVar 0), (mC (.int 9))]) addD) (mC (.int 1040)) modD)))
noncomputable def f_l_sign : FM := runF 2 m_l_sign
theorem ok_l_sign (T : Wd K mg) : FnOk P w K mg base CX0 2 T.x_l_sign.f T.x_l_sign.d ["_law_bag_here", "_law_far"] (spM (G0 K) 2 f_l_sign) := by
  have h : FnOk P w K mg base CX0 (2) T.x_l_sign.f T.x_l_sign.d ["_law_bag_here", "_law_far"] (spM (G0 K) (List.length (["_law_bag_here", "_law_far"] : List Str)) (runF (List.length (["_law_bag_here", "_law_far"] : List Str)) m_l_sign)) := fn_M T.x_l_sign.F sc_l_sign rfl fun cdv A outer s H E F hr => by
    have h64 := hr.units
    exact (ss_cons (ss_if (sb_cmp (cm_eq rfl h64) (se_call rfl ((ok_l_take T).mono (by omega)) hr rfl T.x_l_take.m T.x_l_take.F.kp T.x_l_take.b pass0 (sa_of rfl (.cons (se_var 0 rfl (pv 0)) rfl (.cons (se_c rfl pe_int) rfl .nil))) rfl) (se_c rfl pe_int) (nomark _)) (ss_one (ss_ret (se_call rfl ((ok_l_take T).mono (by omega)) hr rfl T.x_l_take.m T.x_l_take.F.kp T.x_l_take.b pass0 (sa_of rfl (.cons (se_var 0 rfl (pv 0)) rfl (.cons (se_c rfl pe_int) rfl .nil))) rfl))) ss_nil)
    (ss_one (ss_ret (se_mod rfl (se_add rfl (se_var 1 rfl (pv 1)) (se_call rfl ((ok_l_take T).mono (by omega)) hr rfl T.x_l_take.m T.x_l_take.F.kp T.x_l_take.b pass0 (sa_of rfl (.cons (se_var 0 rfl (pv 0)) rfl (.cons (se_c rfl pe_int) rfl .nil))) rfl)) (se_c rfl pe_int)))))
  exact h
end
end My
namespace My
open PySem L2 Mi
section
variable {P : Program} {w : World} {K : PySem.W.Frag} {mg : Str → Option Value} {base : Heap}
noncomputable def m_l_signs : MS := (sRet (mCB [(mComp (mRng1 [(mVar 2)]) (.nm 0) (rt true) (mCall f_l_sign [(mVar 1), (mVar 2)]) 1 [0, 1])] tupF))
noncomputable def f_l_signs : FM := runF 3 m_l_signs
theorem ok_l_signs (T : Wd K mg) : FnOk P w K mg base CX0 3 T.x_l_signs.f T.x_l_signs.d ["_law_bag_here", "_law_far", "_law_many"] (spM (G0 K) 3 f_l_signs) := by
  have h : FnOk P w K mg base CX0 (3) T.x_l_signs.f T.x_l_signs.d ["_law_bag_here", "_law_far", "_law_many"] (spM (G0 K) (List.length (["_law_bag_here", "_law_far", "_law_many"] : List Str)) (runF (List.length (["_law_bag_here", "_law_far", "_law_many"] : List Str)) m_l_signs)) := fn_M T.x_l_signs.F sc_l_signs rfl fun cdv A outer s H E F hr => by
    have h64 := hr.units
    exact (ss_one (ss_ret (se_ct rfl (cb_tuple rfl) rfl T.n_tuple PyProof.Rows.Boot.«tuple» (sa_of rfl (.cons (se_comp (own := ["_law_k"]) (frees := ["_law_bag_here", "_law_far"]) (ix := [0, 1]) rfl rfl (compOk.sc (by kernel_rfl)) (si_rng1 rfl T.n_range (sa_of rfl (.cons (se_var 2 rfl (pv 2)) rfl .nil))) (fun _ _ _ _ _ _ _ => (sg_name (pg_name (i := 0) (show List.Nodup (["_law_k", "_law_bag_here", "_law_far"] : List Str) by decide +kernel) rfl (Or.inl rfl)))) (fun _ _ _ _ _ _ _ => sts_nil) (fun _ _ _ _ _ _ _ => (se_call rfl ((ok_l_sign T).mono (by omega)) hr rfl T.x_l_sign.m T.x_l_sign.F.kp T.x_l_sign.b pass0 (sa_of rfl (.cons (se_var 1 rfl (pv 1)) rfl (.cons (se_var 2 rfl (pv 2)) rfl .nil))) rfl))) rfl .nil)))))
  exact h
end
end My
namespace My
open PySem L2 Mi
section
variable {P : Program} {w : World} {K : PySem.W.Frag} {mg : Str → Option Value} {base : Heap}
noncomputable def m_l_field : MS := (seqS (sAsg (.nm 2) (mCall f_l_take [(mVar 0), (mC (.int 4))]))
    (seqS (sAsg (.nm 3) (mCall f_l_take [(mVar 0), (mBin (mCB [(mC (.int 61)), (mC (.int 12)), (mC (.int 25)), (mC (.int 61))] lstM) (mVar 2) ixD)]))
    (sRet (mCB [(mVar 3), (mCall f_l_signs [(mVar 0), (mVar 1), (mCall f_l_take [(mVar 0), (mBin (mCB [(mC (.int 21)), (mC (.int 2)), (mC (.int 3)), (mC (.int 4))] lstM) (mVar 2) ixD)])])] tupD))))
noncomputable def f_l_field : FM := runF 4 m_l_field
theorem ok_l_field (T : Wd K mg) : FnOk P w K mg base CX0 4 T.x_l_field.f T.x_l_field.d ["_law_bag_here", "_law_far"] (spM (G0 K) 2 f_l_field) := by
  have h : FnOk P w K mg base CX0 (4) T.x_l_field.f T.x_l_field.d ["_law_bag_here", "_law_far"] (spM (G0 K) (List.length (["_law_bag_here", "_law_far"] : List Str)) (runF (List.length (["_law_bag_here", "_law_far", "_law_way", "_law_limit"] : List Str)) m_l_field)) := fn_M T.x_l_field.F sc_l_field rfl fun cdv A outer s H E F hr => by
    have h64 := hr.units
    exact (ss_cons (ss_set (fun {te} h => ps_set (i := 2) sc_l_field.nd rfl (Or.inl rfl) h) (se_call rfl ((ok_l_take T).mono (by omega)) hr rfl T.x_l_take.m T.x_l_take.F.kp T.x_l_take.b pass0 (sa_of rfl (.cons (se_var 0 rfl (pv 0)) rfl (.cons (se_c rfl pe_int) rfl .nil))) rfl))
    (ss_cons (ss_set (fun {te} h => ps_set (i := 3) sc_l_field.nd rfl (Or.inl rfl) h) (se_call rfl ((ok_l_take T).mono (by omega)) hr rfl T.x_l_take.m T.x_l_take.F.kp T.x_l_take.b pass0 (sa_of rfl (.cons (se_var 0 rfl (pv 0)) rfl (.cons (se_idx rfl (se_lst rfl (sa_of rfl (.cons (se_c rfl pe_int) rfl (.cons (se_c rfl pe_int) rfl (.cons (se_c rfl pe_int) rfl (.cons (se_c rfl pe_int) rfl .nil)))))) (se_var 2 rfl (pv 2)) (fun _ _ => rfl)) rfl .nil))) rfl))
    (ss_one (ss_ret (se_tup rfl (sa_of rfl (.cons (se_var 3 rfl (pv 3)) rfl (.cons (se_call rfl ((ok_l_signs T).mono (by omega)) hr rfl T.x_l_signs.m T.x_l_signs.F.kp T.x_l_signs.b pass0 (sa_of rfl (.cons (se_var 0 rfl (pv 0)) rfl (.cons (se_var 1 rfl (pv 1)) rfl (.cons (se_call rfl ((ok_l_take T).mono (by omega)) hr rfl T.x_l_take.m T.x_l_take.F.kp T.x_l_take.b pass0 (sa_of rfl (.cons (se_var 0 rfl (pv 0)) rfl (.cons (se_idx rfl (se_lst rfl (sa_of rfl (.cons (se_c rfl pe_int) rfl (.cons (se_c rfl pe_int) rfl (.cons (se_c rfl pe_int) rfl (.cons (se_c rfl pe_int) rfl .nil)))))) (se_var 2 rfl (pv 2)) (fun _ _ => rfl)) rfl .nil))) rfl) rfl .nil)))) rfl) rfl .nil))))))))
  exact h
end
end My
namespace My
open PySem L2 Mi
section
variable {P : Program} {w : World} {K : PySem.W.Frag} {mg : Str → Option Value} {base : Heap}
noncomputable def m_l_free : MS := (sRet (mBin (mComp (mRng2 [(mVar 1), (mBin (mVar 1) (mC (.int 21)) addD)]) (.nm 0) (mBoo (mBin (mBin (mVar 0) (mC (.int 1040)) modD) (mBin (mVar 1) (mC (.int 1)) ixD) ninD)) (mBin (mVar 0) (mC (.int 1040)) modD) 1 [0]) (mC (.int 0)) ixD))
noncomputable def f_l_free : FM := runF 2 m_l_free
theorem ok_l_free (T : Wd K mg) : FnOk P w K mg base CX0 1 T.x_l_free.f T.x_l_free.d ["_law_field_here", "_law_sign_here"] (spM (G0 K) 2 f_l_free) := by
  have h : FnOk P w K mg base CX0 (1) T.x_l_free.f T.x_l_free.d ["_law_field_here", "_law_sign_here"] (spM (G0 K) (List.length (["_law_field_here", "_law_sign_here"] : List Str)) (runF (List.length (["_law_field_here", "_law_sign_here"] : List Str)) m_l_free)) := fn_M T.x_l_free.F sc_l_free rfl fun cdv A outer s H E F hr => by
    have h64 := hr.units
    exact (ss_one (ss_ret (se_idx rfl (se_comp (own := ["_law_k"]) (frees := ["_law_field_here"]) (ix := [0]) rfl rfl (compOk.sc (by kernel_rfl)) (si_rng2 rfl T.n_range (sa_of rfl (.cons (se_var 1 rfl (pv 1)) rfl (.cons (se_add rfl (se_var 1 rfl (pv 1)) (se_c rfl pe_int)) rfl .nil)))) (fun _ _ _ _ _ _ _ => (sg_name (pg_name (i := 0) (show List.Nodup (["_law_k", "_law_field_here"] : List Str) by decide +kernel) rfl (Or.inl rfl)))) (fun _ _ _ _ _ _ _ => (sts_one (sb_cmp (cm_nin rfl h64) (se_mod rfl (se_var 0 rfl (pv 0)) (se_c rfl pe_int)) (se_idx rfl (se_var 1 rfl (pv 1)) (se_c rfl pe_int) (fun _ _ => rfl)) (by with_unfolding_all rfl)))) (fun _ _ _ _ _ _ _ => (se_mod rfl (se_var 0 rfl (pv 0)) (se_c rfl pe_int)))) (se_c rfl pe_int) (fun _ _ => rfl))))
  exact h
end
end My
namespace My
open PySem L2 Mi
section
variable {P : Program} {w : World} {K : PySem.W.Frag} {mg : Str → Option Value} {base : Heap}
noncomputable def m_l_standing : MS := (seqS (sAsg (.nm 3) (mCall f_l_take [(mVar 0), (mC (.int 8))]))
    (seqS (sAsg (.nm 4) (mCall f_l_take [(mVar 0), (mBin (mBin (mVar 1) (mC (.int 0)) ixD) (mC (.int 1)) addD)]))
    (seqS (sIf (mBoo (mBin (mBin (mVar 3) (mC (.int 4)) modD) (mC (.int 0)) eqD)) (sAsg (.nm 4) (mBin (mVar 1) (mC (.int 0)) ixD)) sNx)
    (seqS (sAsg (.nm 5) (mCB [(mComp (mSeqI (mCall f_l_signs [(mVar 0), (mVar 2), (mVar 4)])) (.nm 0) (rt true) (mCall f_l_free [(mVar 1), (mVar 0)]) 1 [1])] tupF))
    (seqS (sAsg (.nm 6) (mC .non))
    (seqS (sIf (mBoo (mBin (mBin (mVar 3) (mC (.int 2)) modD) (mC (.int 0)) eqD)) (seqS (sAsg (.nm 7) (mCall f_l_signs [(mVar 0), (mVar 2), (mBin (mC (.int 1)) (mCall f_l_take [(mVar 0), (mBin (mCB [(mC (.int 96)), (mC (.int 5)), (mC (.int 9)), (mC (.int 5))] lstM) (mBin (mVar 3) (mC (.int 2)) fdivD) ixD)]) addD)]))
    (seqS (sAsg (.nm 8) (mCall f_l_take [(mVar 0), (mBin (mVar 4) (mC (.int 1)) addD)]))
    (seqS (sAsg (.nm 5) (mBin (mBin (mSl (mVar 5) none (some (mVar 8))) (mVar 7) addD) (mSl (mVar 5) (some (mVar 8)) none) addD))
    (sAsg (.nm 6) (mCB [(mVar 8), (mBin (mVar 8) (mCB [(mVar 7)] lenD) addD)] tupD))))) sNx)
    (seqS (sAsg (.nm 9) (mCall f_l_take [(mVar 0), (mBin (mCB [(mVar 5)] lenD) (mC (.int 1)) addD)]))
    (sRet (mCB [(mVar 5), (mVar 9), (mBin (mVar 9) (mCall f_l_take [(mVar 0), (mBin (mBin (mCB [(mVar 5)] lenD) (mVar 9) subD) (mC (.int 1)) addD)]) addD), (mVar 6)] tupD)))))))))
noncomputable def f_l_standing : FM := runF 10 m_l_standing
theorem ok_l_standing (T : Wd K mg) : FnOk P w K mg base CX0 4 T.x_l_standing.f T.x_l_standing.d ["_law_bag_here", "_law_field_here", "_law_far"] (spM (G0 K) 3 f_l_standing) := by
  have h : FnOk P w K mg base CX0 (4) T.x_l_standing.f T.x_l_standing.d ["_law_bag_here", "_law_field_here", "_law_far"] (spM (G0 K) (List.length (["_law_bag_here", "_law_field_here", "_law_far"] : List Str)) (runF (List.length (["_law_bag_here", "_law_field_here", "_law_far", "_law_way", "_law_many", "_law_signs_here", "_law_marked", "_law_more", "_law_at", "_law_begin"] : List Str)) m_l_standing)) := fn_M T.x_l_standing.F sc_l_standing rfl fun cdv A outer s H E F hr => by
    have h64 := hr.units
    exact (ss_cons (ss_set (fun {te} h => ps_set (i := 3) sc_l_standing.nd rfl (Or.inl rfl) h) (se_call rfl ((ok_l_take T).mono (by omega)) hr rfl T.x_l_take.m T.x_l_take.F.kp T.x_l_take.b pass0 (sa_of rfl (.cons (se_var 0 rfl (pv 0)) rfl (.cons (se_c rfl pe_int) rfl .nil))) rfl))
    (ss_cons (ss_set (fun {te} h => ps_set (i := 4) sc_l_standing.nd rfl (Or.inl rfl) h) (se_call rfl ((ok_l_take T).mono (by omega)) hr rfl T.x_l_take.m T.x_l_take.F.kp T.x_l_take.b pass0 (sa_of rfl (.cons (se_var 0 rfl (pv 0)) rfl (.cons (se_add rfl (se_idx rfl (se_var 1 rfl (pv 1)) (se_c rfl pe_int) (fun _ _ => rfl)) (se_c rfl pe_int)) rfl .nil))) rfl))
    (ss_cons (ss_if (sb_cmp (cm_eq rfl h64) (se_mod rfl (se_var 3 rfl (pv 3)) (se_c rfl pe_int)) (se_c rfl pe_int) (nomark _)) (ss_one (ss_set (fun {te} h => ps_set (i := 4) sc_l_standing.nd rfl (Or.inl rfl) h) (se_idx rfl (se_var 1 rfl (pv 1)) (se_c rfl pe_int) (fun _ _ => rfl)))) ss_nil)
    (ss_cons (ss_set (fun {te} h => ps_set (i := 5) sc_l_standing.nd rfl (Or.inl rfl) h) (se_ct rfl (cb_tuple rfl) rfl T.n_tuple PyProof.Rows.Boot.«tuple» (sa_of rfl (.cons (se_comp (own := ["_law_sign_here"]) (frees := ["_law_field_here"]) (ix := [1]) rfl rfl (compOk.sc (by kernel_rfl)) (si_seq rfl (se_call rfl ((ok_l_signs T).mono (by omega)) hr rfl T.x_l_signs.m T.x_l_signs.F.kp T.x_l_signs.b pass0 (sa_of rfl (.cons (se_var 0 rfl (pv 0)) rfl (.cons (se_var 2 rfl (pv 2)) rfl (.cons (se_var 4 rfl (pv 4)) rfl .nil)))) rfl)) (fun _ _ _ _ _ _ _ => (sg_name (pg_name (i := 0) (show List.Nodup (["_law_sign_here", "_law_field_here"] : List Str) by decide +kernel) rfl (Or.inl rfl)))) (fun _ _ _ _ _ _ _ => sts_nil) (fun _ _ _ _ _ _ _ => (se_call rfl ((ok_l_free T).mono (by omega)) hr rfl T.x_l_free.m T.x_l_free.F.kp T.x_l_free.b pass0 (sa_of rfl (.cons (se_var 1 rfl (pv 1)) rfl (.cons (se_var 0 rfl (pv 0)) rfl .nil))) rfl))) rfl .nil))))
    (ss_cons (ss_set (fun {te} h => ps_set (i := 6) sc_l_standing.nd rfl (Or.inl rfl) h) (se_c rfl pe_non))
    (ss_cons (ss_if (sb_cmp (cm_eq rfl h64) (se_mod rfl (se_var 3 rfl (pv 3)) (se_c rfl pe_int)) (se_c rfl pe_int) (nomark _)) (ss_cons (ss_set (fun {te} h => ps_set (i := 7) sc_l_standing.nd rfl (Or.inl rfl) h) (se_call rfl ((ok_l_signs T).mono (by omega)) hr rfl T.x_l_signs.m T.x_l_signs.F.kp T.x_l_signs.b pass0 (sa_of rfl (.cons (se_var 0 rfl (pv 0)) rfl (.cons (se_var 2 rfl (pv 2)) rfl (.cons (se_add rfl (se_c rfl pe_int) (se_call rfl ((ok_l_take T).mono (by omega)) hr rfl T.x_l_take.m T.x_l_take.F.kp T.x_l_take.b pass0 (sa_of rfl (.cons (se_var 0 rfl (pv 0)) rfl (.cons (se_idx rfl (se_lst rfl (sa_of rfl (.cons (se_c rfl pe_int) rfl (.cons (se_c rfl pe_int) rfl (.cons (se_c rfl pe_int) rfl (.cons (se_c rfl pe_int) rfl .nil)))))) (se_fdiv rfl (se_var 3 rfl (pv 3)) (se_c rfl pe_int)) (fun _ _ => rfl)) rfl .nil))) rfl)) rfl .nil)))) rfl))
    (ss_cons (ss_set (fun {te} h => ps_set (i := 8) sc_l_standing.nd rfl (Or.inl rfl) h) (se_call rfl ((ok_l_take T).mono (by omega)) hr rfl T.x_l_take.m T.x_l_take.F.kp T.x_l_take.b pass0 (sa_of rfl (.cons (se_var 0 rfl (pv 0)) rfl (.cons (se_add rfl (se_var 4 rfl (pv 4)) (se_c rfl pe_int)) rfl .nil))) rfl))
    (ss_cons (ss_set (fun {te} h => ps_set (i := 5) sc_l_standing.nd rfl (Or.inl rfl) h) (se_add rfl (se_add rfl (se_slice rfl (se_var 5 rfl (pv 5)) so_none (so_some (se_var 8 rfl (pv 8)))) (se_var 7 rfl (pv 7))) (se_slice rfl (se_var 5 rfl (pv 5)) (so_some (se_var 8 rfl (pv 8))) so_none)))
    (ss_one (ss_set (fun {te} h => ps_set (i := 6) sc_l_standing.nd rfl (Or.inl rfl) h) (se_tup rfl (sa_of rfl (.cons (se_var 8 rfl (pv 8)) rfl (.cons (se_add rfl (se_var 8 rfl (pv 8)) (se_cb rfl (cb_len rfl) rfl T.n_len PyProof.Rows.Boot.«len» (sa_of rfl (.cons (se_var 7 rfl (pv 7)) rfl .nil)))) rfl .nil))))))))) ss_nil)
    (ss_cons (ss_set (fun {te} h => ps_set (i := 9) sc_l_standing.nd rfl (Or.inl rfl) h) (se_call rfl ((ok_l_take T).mono (by omega)) hr rfl T.x_l_take.m T.x_l_take.F.kp T.x_l_take.b pass0 (sa_of rfl (.cons (se_var 0 rfl (pv 0)) rfl (.cons (se_add rfl (se_cb rfl (cb_len rfl) rfl T.n_len PyProof.Rows.Boot.«len» (sa_of rfl (.cons (se_var 5 rfl (pv 5)) rfl .nil))) (se_c rfl pe_int)) rfl .nil))) rfl))
    (ss_one (ss_ret (se_tup rfl (sa_of rfl (.cons (se_var 5 rfl (pv 5)) rfl (.cons (se_var 9 rfl (pv 9)) rfl (.cons (se_add rfl (se_var 9 rfl (pv 9)) (se_call rfl ((ok_l_take T).mono (by omega)) hr rfl T.x_l_take.m T.x_l_take.F.kp T.x_l_take.b pass0 (sa_of rfl (.cons (se_var 0 rfl (pv 0)) rfl (.cons (se_add rfl (se_sub rfl (se_cb rfl (cb_len rfl) rfl T.n_len PyProof.Rows.Boot.«len» (sa_of rfl (.cons (se_var 5 rfl (pv 5)) rfl .nil))) (se_var 9 rfl (pv 9))) (se_c rfl pe_int)) rfl .nil))) rfl)) rfl (.cons (se_var 6 rfl (pv 6)) rfl .nil)))))))))))))))
  exact h
end
end My
namespace My
open PySem L2 Mi
section
variable {P : Program} {w : World} {K : PySem.W.Frag} {mg : Str → Option Value} {base : Heap}
noncomputable def m_l_is_from : MS := (sRet (mAndV (mIsi "int" (mVar 0)) (mAndV (mNotV (mIsi "bool" (mVar 0))) (mChain (mVar 1) (mVar 0) (mVar 2) leD leD))))
noncomputable def f_l_is_from : FM := runF 3 m_l_is_from
theorem ok_l_is_from (T : Wd K mg) : FnOk P w K mg base CX0 1 T.x_l_is_from.f T.x_l_is_from.d ["_law_thing", "_law_least", "_law_most"] (spM (G0 K) 3 f_l_is_from) := by
  have h : FnOk P w K mg base CX0 (1) T.x_l_is_from.f T.x_l_is_from.d ["_law_thing", "_law_least", "_law_most"] (spM (G0 K) (List.length (["_law_thing", "_law_least", "_law_most"] : List Str)) (runF (List.length (["_law_thing", "_law_least", "_law_most"] : List Str)) m_l_is_from)) := fn_M T.x_l_is_from.F sc_l_is_from rfl fun cdv A outer s H E F hr => by
    have h64 := hr.units
    exact (ss_one (ss_ret (se_and (se_isi rfl (by decide) rfl T.n_isinstance (se_var 0 rfl (pv 0)) (pe_bltn (v := .ty "int") rfl T.n_int PyProof.Rows.Boot.«int» rfl)) (se_and (se_not (se_isi rfl (by decide) rfl T.n_isinstance (se_var 0 rfl (pv 0)) (pe_bltn (v := .ty "bool") rfl T.n_bool PyProof.Rows.Boot.«bool» rfl))) (se_one (se_cmp2 cm_le cm_le (se_var 1 rfl (pv 1)) (se_var 0 rfl (pv 0)) (se_var 2 rfl (pv 2))))))))
  exact h
end
end My
namespace My
open PySem L2 Mi
section
variable {P : Program} {w : World} {K : PySem.W.Frag} {mg : Str → Option Value} {base : Heap}
noncomputable def m_l_are_signs : MS := (seqS (sIf (mOr (mNot (mTest (mIsi "tuple" (mVar 0)))) (mNot (mBoo (mChain (mVar 1) (mCB [(mVar 0)] lenD) (mVar 2) leD leD)))) (sRet (mC (.bool false))) sNx)
    (sRet (mCB [(mComp (mSeqI (mVar 0)) (.nm 0) (rt true) (mCall f_l_is_from [(mVar 0), (mC (.int 0)), (mC (.int 1039))]) 1 [])] allD)))
noncomputable def f_l_are_signs : FM := runF 3 m_l_are_signs
theorem ok_l_are_signs (T : Wd K mg) : FnOk P w K mg base CX0 2 T.x_l_are_signs.f T.x_l_are_signs.d ["_law_thing", "_law_least", "_law_most"] (spM (G0 K) 3 f_l_are_signs) := by
  have h : FnOk P w K mg base CX0 (2) T.x_l_are_signs.f T.x_l_are_signs.d ["_law_thing", "_law_least", "_law_most"] (spM (G0 K) (List.length (["_law_thing", "_law_least", "_law_most"] : List Str)) (runF (List.length (["_law_thing", "_law_least", "_law_most"] : List Str)) m_l_are_signs)) := fn_M T.x_l_are_signs.F sc_l_are_signs rfl fun cdv A outer s H E F hr => by
    have h64 := hr.units
    exact (ss_cons (ss_if (SW.sb (sw_or (sb_not (sb_truth rfl (se_isi rfl (by decide) rfl T.n_isinstance (se_var 0 rfl (pv 0)) (pe_bltn (v := .ty "tuple") rfl T.n_tuple PyProof.Rows.Boot.«tuple» rfl)))) (sw_or1 (sb_not (sb_cmp2 cm_le cm_le (se_var 1 rfl (pv 1)) (se_cb rfl (cb_len rfl) rfl T.n_len PyProof.Rows.Boot.«len» (sa_of rfl (.cons (se_var 0 rfl (pv 0)) rfl .nil))) (se_var 2 rfl (pv 2))))))) (ss_one (ss_ret (se_c rfl pe_bl))) ss_nil)
    (ss_one (ss_ret (se_cb rfl (cb_all rfl hr.hd) rfl T.n_all PyProof.Rows.Boot.«all» (sa_of rfl (.cons (se_comp (own := ["_law_one"]) (frees := []) (ix := []) rfl rfl (compOk.sc (by kernel_rfl)) (si_seq rfl (se_var 0 rfl (pv 0))) (fun _ _ _ _ _ _ _ => (sg_name (pg_name (i := 0) (show List.Nodup (["_law_one"] : List Str) by decide +kernel) rfl (Or.inl rfl)))) (fun _ _ _ _ _ _ _ => sts_nil) (fun _ _ _ _ _ _ _ => (se_call rfl ((ok_l_is_from T).mono (by omega)) hr rfl T.x_l_is_from.m T.x_l_is_from.F.kp T.x_l_is_from.b pass0 (sa_of rfl (.cons (se_var 0 rfl (pv 0)) rfl (.cons (se_c rfl pe_int) rfl (.cons (se_c rfl pe_int) rfl .nil)))) rfl))) rfl .nil))))))
  exact h
end
end My
namespace My
open PySem L2 Mi
section
variable {P : Program} {w : World} {K : PySem.W.Frag} {mg : Str → Option Value} {base : Heap}
noncomputable def m_l_is_stretch : MS := (seqS (sIf (mBoo (mBin (mVar 0) (mC .non) isN)) (sRet (mC (.bool true))) sNx)
    (seqS (sIf (mOr (mNot (mTest (mIsi "tuple" (mVar 0)))) (mOr (mBoo (mBin (mCB [(mVar 0)] lenD) (mC (.int 2)) neD)) (mNot (mTest (mCall f_l_is_from [(mBin (mVar 0) (mC (.int 0)) ixD), (mC (.int 0)), (mVar 1)]))))) (sRet (mC (.bool false))) sNx)
    (sRet (mAndV (mCall f_l_is_from [(mBin (mVar 0) (mC (.int 1)) ixD), (mC (.int 0)), (mVar 1)]) (mChain (mC (.int 1)) (mBin (mBin (mVar 0) (mC (.int 1)) ixD) (mBin (mVar 0) (mC (.int 0)) ixD) subD) (mC (.int 96)) leD leD)))))
noncomputable def f_l_is_stretch : FM := runF 2 m_l_is_stretch
theorem ok_l_is_stretch (T : Wd K mg) : FnOk P w K mg base CX0 2 T.x_l_is_stretch.f T.x_l_is_stretch.d ["_law_thing", "_law_many"] (spM (G0 K) 2 f_l_is_stretch) := by
  have h : FnOk P w K mg base CX0 (2) T.x_l_is_stretch.f T.x_l_is_stretch.d ["_law_thing", "_law_many"] (spM (G0 K) (List.length (["_law_thing", "_law_many"] : List Str)) (runF (List.length (["_law_thing", "_law_many"] : List Str)) m_l_is_stretch)) := fn_M T.x_l_is_stretch.F sc_l_is_stretch rfl fun cdv A outer s H E F hr => by
    have h64 := hr.units
    exact (ss_cons (ss_if (sb_cmp cm_isN (se_var 0 rfl (pv 0)) (se_c rfl pe_non) (nomark _)) (ss_one (ss_ret (se_c rfl pe_bl))) ss_nil)
    (ss_cons (ss_if (SW.sb (sw_or (sb_not (sb_truth rfl (se_isi rfl (by decide) rfl T.n_isinstance (se_var 0 rfl (pv 0)) (pe_bltn (v := .ty "tuple") rfl T.n_tuple PyProof.Rows.Boot.«tuple» rfl)))) (sw_or (sb_cmp (cm_ne rfl h64) (se_cb rfl (cb_len rfl) rfl T.n_len PyProof.Rows.Boot.«len» (sa_of rfl (.cons (se_var 0 rfl (pv 0)) rfl .nil))) (se_c rfl pe_int) (nomark _)) (sw_or1 (sb_not (sb_truth rfl (se_call rfl ((ok_l_is_from T).mono (by omega)) hr rfl T.x_l_is_from.m T.x_l_is_from.F.kp T.x_l_is_from.b pass0 (sa_of rfl (.cons (se_idx rfl (se_var 0 rfl (pv 0)) (se_c rfl pe_int) (fun _ _ => rfl)) rfl (.cons (se_c rfl pe_int) rfl (.cons (se_var 1 rfl (pv 1)) rfl .nil)))) rfl))))))) (ss_one (ss_ret (se_c rfl pe_bl))) ss_nil)
    (ss_one (ss_ret (se_and (se_call rfl ((ok_l_is_from T).mono (by omega)) hr rfl T.x_l_is_from.m T.x_l_is_from.F.kp T.x_l_is_from.b pass0 (sa_of rfl (.cons (se_idx rfl (se_var 0 rfl (pv 0)) (se_c rfl pe_int) (fun _ _ => rfl)) rfl (.cons (se_c rfl pe_int) rfl (.cons (se_var 1 rfl (pv 1)) rfl .nil)))) rfl) (se_one (se_cmp2 cm_le cm_le (se_c rfl pe_int) (se_sub rfl (se_idx rfl (se_var 0 rfl (pv 0)) (se_c rfl pe_int) (fun _ _ => rfl)) (se_idx rfl (se_var 0 rfl (pv 0)) (se_c rfl pe_int) (fun _ _ => rfl))) (se_c rfl pe_int))))))))
  exact h
end
end My
namespace My
open PySem L2 Mi
section
variable {P : Program} {w : World} {K : PySem.W.Frag} {mg : Str → Option Value} {base : Heap}
noncomputable def m_l_is_standing : MS := (seqS (sIf (mOr (mNot (mTest (mIsi "tuple" (mVar 1)))) (mOr (mBoo (mBin (mCB [(mVar 1)] lenD) (mC (.int 4)) neD)) (mNot (mTest (mCall f_l_are_signs [(mBin (mVar 1) (mC (.int 0)) ixD), (mC (.int 0)), (mC (.int 999))]))))) (sRet (mC (.bool false))) sNx)
    (seqS (sAsg (.tp [(.nm 2), (.nm 3), (.nm 4), (.nm 5)]) (mVar 1))
    (seqS (sAsg (.nm 6) (mCB [(mVar 2)] lenD))
    (seqS (sIf (mOr (mNot (mTest (mCall f_l_is_from [(mVar 3), (mC (.int 0)), (mVar 6)]))) (mOr (mNot (mTest (mCall f_l_is_from [(mVar 4), (mC (.int 0)), (mVar 6)]))) (mBoo (mBin (mVar 3) (mVar 4) gtD)))) (sRet (mC (.bool false))) sNx)
    (seqS (sIf (mNot (mTest (mCall f_l_is_stretch [(mVar 5), (mVar 6)]))) (sRet (mC (.bool false))) sNx)
    (seqS (sAsg (.tp [(.nm 7), (.nm 8)]) (mOrX (mVar 5) (mCB [(mC (.int 0)), (mC (.int 0))] tupD)))
    (seqS (sAsg (.nm 9) (mComp (mEnm [(mVar 2)]) (.tp [(.nm 0), (.nm 1)]) (mNot (mBoo (mChain (mVar 2) (mVar 0) (mVar 3) leD ltD))) (mVar 1) 2 [7, 8]))
    (sRet (mAndV (mBin (mCB [(mVar 9)] lenD) (mBin (mVar 0) (mC (.int 0)) ixD) leD) (mBin (mComp (mSeqI (mVar 9)) (.nm 0) (mBoo (mBin (mVar 0) (mBin (mVar 1) (mC (.int 1)) ixD) inD)) (mVar 0) 1 [0]) (mCB [] lstM) eqD))))))))))
noncomputable def f_l_is_standing : FM := runF 10 m_l_is_standing
theorem ok_l_is_standing (T : Wd K mg) : FnOk P w K mg base CX0 3 T.x_l_is_standing.f T.x_l_is_standing.d ["_law_field_here", "_law_thing"] (spM (G0 K) 2 f_l_is_standing) := by
  have h : FnOk P w K mg base CX0 (3) T.x_l_is_standing.f T.x_l_is_standing.d ["_law_field_here", "_law_thing"] (spM (G0 K) (List.length (["_law_field_here", "_law_thing"] : List Str)) (runF (List.length (["_law_field_here", "_law_thing", "_law_signs_here", "_law_begin", "_law_end", "_law_marked", "_law_many", "_law_first", "_law_behind", "_law_left"] : List Str)) m_l_is_standing)) := fn_M T.x_l_is_standing.F sc_l_is_standing rfl fun cdv A outer s H E F hr => by
    have h64 := hr.units
    exact (ss_cons (ss_if (SW.sb (sw_or (sb_not (sb_truth rfl (se_isi rfl (by decide) rfl T.n_isinstance (se_var 1 rfl (pv 1)) (pe_bltn (v := .ty "tuple") rfl T.n_tuple PyProof.Rows.Boot.«tuple» rfl)))) (sw_or (sb_cmp (cm_ne rfl h64) (se_cb rfl (cb_len rfl) rfl T.n_len PyProof.Rows.Boot.«len» (sa_of rfl (.cons (se_var 1 rfl (pv 1)) rfl .nil))) (se_c rfl pe_int) (nomark _)) (sw_or1 (sb_not (sb_truth rfl (se_call rfl ((ok_l_are_signs T).mono (by omega)) hr rfl T.x_l_are_signs.m T.x_l_are_signs.F.kp T.x_l_are_signs.b pass0 (sa_of rfl (.cons (se_idx rfl (se_var 1 rfl (pv 1)) (se_c rfl pe_int) (fun _ _ => rfl)) rfl (.cons (se_c rfl pe_int) rfl (.cons (se_c rfl pe_int) rfl .nil)))) rfl))))))) (ss_one (ss_ret (se_c rfl pe_bl))) ss_nil)
    (ss_cons (ss_asg (se_var 1 rfl (pv 1)) (sg_tup rfl rfl (sgs_cons (sg_name (pg_name (i := 2) sc_l_is_standing.nd rfl (Or.inl rfl))) (sgs_cons (sg_name (pg_name (i := 3) sc_l_is_standing.nd rfl (Or.inl rfl))) (sgs_cons (sg_name (pg_name (i := 4) sc_l_is_standing.nd rfl (Or.inl rfl))) (sgs_cons (sg_name (pg_name (i := 5) sc_l_is_standing.nd rfl (Or.inl rfl))) sgs_nil))))))
    (ss_cons (ss_set (fun {te} h => ps_set (i := 6) sc_l_is_standing.nd rfl (Or.inl rfl) h) (se_cb rfl (cb_len rfl) rfl T.n_len PyProof.Rows.Boot.«len» (sa_of rfl (.cons (se_var 2 rfl (pv 2)) rfl .nil))))
    (ss_cons (ss_if (SW.sb (sw_or (sb_not (sb_truth rfl (se_call rfl ((ok_l_is_from T).mono (by omega)) hr rfl T.x_l_is_from.m T.x_l_is_from.F.kp T.x_l_is_from.b pass0 (sa_of rfl (.cons (se_var 3 rfl (pv 3)) rfl (.cons (se_c rfl pe_int) rfl (.cons (se_var 6 rfl (pv 6)) rfl .nil)))) rfl))) (sw_or (sb_not (sb_truth rfl (se_call rfl ((ok_l_is_from T).mono (by omega)) hr rfl T.x_l_is_from.m T.x_l_is_from.F.kp T.x_l_is_from.b pass0 (sa_of rfl (.cons (se_var 4 rfl (pv 4)) rfl (.cons (se_c rfl pe_int) rfl (.cons (se_var 6 rfl (pv 6)) rfl .nil)))) rfl))) (sw_or1 (sb_cmp cm_gt (se_var 3 rfl (pv 3)) (se_var 4 rfl (pv 4)) (nomark _)))))) (ss_one (ss_ret (se_c rfl pe_bl))) ss_nil)
    (ss_cons (ss_if (sb_not (sb_truth rfl (se_call rfl ((ok_l_is_stretch T).mono (by omega)) hr rfl T.x_l_is_stretch.m T.x_l_is_stretch.F.kp T.x_l_is_stretch.b pass0 (sa_of rfl (.cons (se_var 5 rfl (pv 5)) rfl (.cons (se_var 6 rfl (pv 6)) rfl .nil))) rfl))) (ss_one (ss_ret (se_c rfl pe_bl))) ss_nil)
    (ss_cons (ss_asg (se_orX rfl (se_var 5 rfl (pv 5)) (se_one (se_tup rfl (sa_of rfl (.cons (se_c rfl pe_int) rfl (.cons (se_c rfl pe_int) rfl .nil)))))) (sg_tup rfl rfl (sgs_cons (sg_name (pg_name (i := 7) sc_l_is_standing.nd rfl (Or.inr rfl))) (sgs_cons (sg_name (pg_name (i := 8) sc_l_is_standing.nd rfl (Or.inr rfl))) sgs_nil))))
    (ss_cons (ss_comp (i := 9) (own := ["_law_k", "_law_sign_here"]) (frees := ["_law_first", "_law_behind"]) (ix := [7, 8]) rfl sc_l_is_standing.nd rfl (Or.inl rfl) (Or.inl rfl) rfl rfl (compOk.sc (by kernel_rfl)) (si_enm rfl rfl T.n_enumerate (sa_of rfl (.cons (se_var 2 rfl (pv 2)) rfl .nil))) (fun _ _ _ _ _ _ _ => (sg_tup rfl rfl (sgs_cons (sg_name (pg_name (i := 0) (show List.Nodup (["_law_k", "_law_sign_here", "_law_first", "_law_behind"] : List Str) by decide +kernel) rfl (Or.inl rfl))) (sgs_cons (sg_name (pg_name (i := 1) (show List.Nodup (["_law_k", "_law_sign_here", "_law_first", "_law_behind"] : List Str) by decide +kernel) rfl (Or.inl rfl))) sgs_nil)))) (fun _ _ _ _ _ _ _ => (sts_one (sb_not (sb_cmp2 cm_le cm_lt (se_var 2 rfl (pv 2)) (se_var 0 rfl (pv 0)) (se_var 3 rfl (pv 3)))))) (fun _ _ _ _ _ _ _ => (se_var 1 rfl (pv 1))))
    (ss_one (ss_ret (se_and (se_cmp cm_le (se_cb rfl (cb_len rfl) rfl T.n_len PyProof.Rows.Boot.«len» (sa_of rfl (.cons (se_var 9 rfl (pv 9)) rfl .nil))) (se_idx rfl (se_var 0 rfl (pv 0)) (se_c rfl pe_int) (fun _ _ => rfl)) (nomark _)) (se_one (se_cmp (cm_eq rfl h64) (se_comp (own := ["_law_sign_here"]) (frees := ["_law_field_here"]) (ix := [0]) rfl rfl (compOk.sc (by kernel_rfl)) (si_seq rfl (se_var 9 rfl (pv 9))) (fun _ _ _ _ _ _ _ => (sg_name (pg_name (i := 0) (show List.Nodup (["_law_sign_here", "_law_field_here"] : List Str) by decide +kernel) rfl (Or.inl rfl)))) (fun _ _ _ _ _ _ _ => (sts_one (sb_cmp (cm_in rfl h64) (se_var 0 rfl (pv 0)) (se_idx rfl (se_var 1 rfl (pv 1)) (se_c rfl pe_int) (fun _ _ => rfl)) (by with_unfolding_all rfl)))) (fun _ _ _ _ _ _ _ => (se_var 0 rfl (pv 0)))) (se_lst rfl (sa_of rfl .nil)) (nomark _)))))))))))))
  exact h
end
end My
namespace My
open PySem L2 Mi
section
variable {P : Program} {w : World} {K : PySem.W.Frag} {mg : Str → Option Value} {base : Heap}
noncomputable def m_l_is_field : MS := (seqS (sIf (mOr (mNot (mTest (mIsi "tuple" (mVar 0)))) (mBoo (mBin (mCB [(mVar 0)] lenD) (mC (.int 2)) neD))) (sRet (mC (.bool false))) sNx)
    (sRet (mAndV (mCall f_l_is_from [(mBin (mVar 0) (mC (.int 0)) ixD), (mC (.int 0)), (mC (.int 60))]) (mCall f_l_are_signs [(mBin (mVar 0) (mC (.int 1)) ixD), (mC (.int 0)), (mC (.int 20))]))))
noncomputable def f_l_is_field : FM := runF 1 m_l_is_field
theorem ok_l_is_field (T : Wd K mg) : FnOk P w K mg base CX0 3 T.x_l_is_field.f T.x_l_is_field.d ["_law_thing"] (spM (G0 K) 1 f_l_is_field) := by
  have h : FnOk P w K mg base CX0 (3) T.x_l_is_field.f T.x_l_is_field.d ["_law_thing"] (spM (G0 K) (List.length (["_law_thing"] : List Str)) (runF (List.length (["_law_thing"] : List Str)) m_l_is_field)) := fn_M T.x_l_is_field.F sc_l_is_field rfl fun cdv A outer s H E F hr => by
    have h64 := hr.units
    exact (ss_cons (ss_if (SW.sb (sw_or (sb_not (sb_truth rfl (se_isi rfl (by decide) rfl T.n_isinstance (se_var 0 rfl (pv 0)) (pe_bltn (v := .ty "tuple") rfl T.n_tuple PyProof.Rows.Boot.«tuple» rfl)))) (sw_or1 (sb_cmp (cm_ne rfl h64) (se_cb rfl (cb_len rfl) rfl T.n_len PyProof.Rows.Boot.«len» (sa_of rfl (.cons (se_var 0 rfl (pv 0)) rfl .nil))) (se_c rfl pe_int) (nomark _))))) (ss_one (ss_ret (se_c rfl pe_bl))) ss_nil)
    (ss_one (ss_ret (se_and (se_call rfl ((ok_l_is_from T).mono (by omega)) hr rfl T.x_l_is_from.m T.x_l_is_from.F.kp T.x_l_is_from.b pass0 (sa_of rfl (.cons (se_idx rfl (se_var 0 rfl (pv 0)) (se_c rfl pe_int) (fun _ _ => rfl)) rfl (.cons (se_c rfl pe_int) rfl (.cons (se_c rfl pe_int) rfl .nil)))) rfl) (se_one (se_call rfl ((ok_l_are_signs T).mono (by omega)) hr rfl T.x_l_are_signs.m T.x_l_are_signs.F.kp T.x_l_are_signs.b pass0 (sa_of rfl (.cons (se_idx rfl (se_var 0 rfl (pv 0)) (se_c rfl pe_int) (fun _ _ => rfl)) rfl (.cons (se_c rfl pe_int) rfl (.cons (se_c rfl pe_int) rfl .nil)))) rfl))))))
  exact h
end
end My
namespace My
open PySem L2 Mi
section
variable {P : Program} {w : World} {K : PySem.W.Frag} {mg : Str → Option Value} {base : Heap}
noncomputable def m_l_odd : MS := (seqS (sAsg (.nm 1) (mCB [(mC .non), (mC (.bool true)), (mC (.bool false)), (mC (.str ("" : Str))), (mC (.str ("mark" : Str))), (bd (mC (.int 1)) negD), (mC (.int 0)), (mC (.int 1)), (mC (.int 20)), (mC (.int 21)), (mC (.int 60)), (mC (.int 61)), (mC (.int 96)), (mC (.int 97)), (mC (.int 1039)), (mC (.int 1040)), (mBin (mC (.int 10)) (mC (.int 59)) powD), (mCB [] lstM), (mCB [] tupD), (mCB [(mC (.int 0))] tupD), (mCB [(mC (.int 0))] lstM)] lstM))
    (sRet (mBin (mBin (mVar 1) (mCB [(mCB [(mC (.int 0)), (mC (.int 0))] tupD), (mCB [(mC (.int 0)), (mC (.int 1))] tupD), (mCB [(mC (.int 1)), (mC (.int 0))] tupD), (mCB [(mC (.int 0)), (mC (.int 0)), (mC .non)] tupD), (mCB [(mCB [] tupD)] tupD)] lstM) addD) (mCall f_l_take [(mVar 0), (mC (.int 26))]) ixD)))
noncomputable def f_l_odd : FM := runF 2 m_l_odd
theorem ok_l_odd (T : Wd K mg) : FnOk P w K mg base CX0 2 T.x_l_odd.f T.x_l_odd.d ["_law_bag_here"] (spM (G0 K) 1 f_l_odd) := by
  have h : FnOk P w K mg base CX0 (2) T.x_l_odd.f T.x_l_odd.d ["_law_bag_here"] (spM (G0 K) (List.length (["_law_bag_here"] : List Str)) (runF (List.length (["_law_bag_here", "_law_odd_here"] : List Str)) m_l_odd)) := fn_M T.x_l_odd.F sc_l_odd rfl fun cdv A outer s H E F hr => by
    have h64 := hr.units
    exact (ss_cons (ss_set (fun {te} h => ps_set (i := 1) sc_l_odd.nd rfl (Or.inl rfl) h) (se_lst rfl (sa_of rfl (.cons (se_c rfl pe_non) rfl (.cons (se_c rfl pe_bl) rfl (.cons (se_c rfl pe_bl) rfl (.cons (se_c rfl pe_str) rfl (.cons (se_c rfl pe_str) rfl (.cons (se_neg rfl (se_c rfl pe_int)) rfl (.cons (se_c rfl pe_int) rfl (.cons (se_c rfl pe_int) rfl (.cons (se_c rfl pe_int) rfl (.cons (se_c rfl pe_int) rfl (.cons (se_c rfl pe_int) rfl (.cons (se_c rfl pe_int) rfl (.cons (se_c rfl pe_int) rfl (.cons (se_c rfl pe_int) rfl (.cons (se_c rfl pe_int) rfl (.cons (se_c rfl pe_int) rfl (.cons (se_pow rfl (se_c rfl pe_int) (se_c rfl pe_int)) rfl (.cons (se_lst rfl (sa_of rfl .nil)) rfl (.cons (se_tup rfl (sa_of rfl .nil)) rfl (.cons (se_tup rfl (sa_of rfl (.cons (se_c rfl pe_int) rfl .nil))) rfl (.cons (se_lst rfl (sa_of rfl (.cons (se_c rfl pe_int) rfl .nil))) rfl .nil))))))))))))))))))))))))
    (ss_one (ss_ret (se_idx rfl (se_add rfl (se_var 1 rfl (pv 1)) (se_lst rfl (sa_of rfl (.cons (se_tup rfl (sa_of rfl (.cons (se_c rfl pe_int) rfl (.cons (se_c rfl pe_int) rfl .nil)))) rfl (.cons (se_tup rfl (sa_of rfl (.cons (se_c rfl pe_int) rfl (.cons (se_c rfl pe_int) rfl .nil)))) rfl (.cons (se_tup rfl (sa_of rfl (.cons (se_c rfl pe_int) rfl (.cons (se_c rfl pe_int) rfl .nil)))) rfl (.cons (se_tup rfl (sa_of rfl (.cons (se_c rfl pe_int) rfl (.cons (se_c rfl pe_int) rfl (.cons (se_c rfl pe_non) rfl .nil))))) rfl (.cons (se_tup rfl (sa_of rfl (.cons (se_tup rfl (sa_of rfl .nil)) rfl .nil))) rfl .nil)))))))) (se_call rfl ((ok_l_take T).mono (by omega)) hr rfl T.x_l_take.m T.x_l_take.F.kp T.x_l_take.b pass0 (sa_of rfl (.cons (se_var 0 rfl (pv 0)) rfl (.cons (se_c rfl pe_int) rfl .nil))) rfl) (fun _ _ => rfl)))))
  exact h
end
end My
namespace My
open PySem L2 Mi
section
variable {P : Program} {w : World} {K : PySem.W.Frag} {mg : Str → Option Value} {base : Heap}
noncomputable def m_l_spoilt (self : FM) : MS := (seqS (sAsg (.nm 2) (mCall f_l_take [(mVar 0), (mC (.int 8))]))
    (seqS (sAsg (.nm 3) (mCall f_l_odd [(mVar 0)]))
    (seqS (sIf (mOr (mNot (mTest (mIsi "tuple" (mVar 1)))) (mBoo (mBin (mCB [(mVar 1)] lenD) (mC (.int 0)) eqD))) (seqS (sIf (mAnd (mTest (mIsi "int" (mVar 1))) (mBoo (mBin (mVar 2) (mC (.int 5)) ltD))) (sRet (mBin (mVar 1) (mBin (mCB [(mC (.int 1)), (bd (mC (.int 1)) negD), (mC (.int 2)), (mC (.int 97)), (mC (.int 1))] lstM) (mVar 2) ixD) addE)) sNx)
    (sRet (mVar 3))) sNx)
    (seqS (sAsg (.nm 4) (mCall f_l_take [(mVar 0), (mCB [(mVar 1)] lenD)]))
    (seqS (sIf (mBoo (mBin (mVar 2) (mC (.int 0)) eqD)) (sRet (mBin (mSl (mVar 1) none (some (mVar 4))) (mSl (mVar 1) (some (mBin (mVar 4) (mC (.int 1)) addD)) none) addD)) sNx)
    (seqS (sIf (mBoo (mBin (mVar 2) (mC (.int 1)) eqD)) (sRet (mBin (mBin (mSl (mVar 1) none (some (mVar 4))) (mCB [(mVar 3)] tupD) addD) (mSl (mVar 1) (some (mVar 4)) none) addD)) sNx)
    (seqS (sIf (mBoo (mBin (mVar 2) (mC (.int 2)) eqD)) (sRet (mBin (mBin (mSl (mVar 1) none (some (mVar 4))) (mSl (mVar 1) (some (mVar 4)) (some (mBin (mVar 4) (mC (.int 1)) addD))) addD) (mSl (mVar 1) (some (mVar 4)) none) addD)) sNx)
    (seqS (sIf (mBoo (mBin (mVar 2) (mC (.int 3)) eqD)) (sRet (mBin (mBin (mSl (mVar 1) none (some (mVar 4))) (mCB [(mVar 3)] tupD) addD) (mSl (mVar 1) (some (mBin (mVar 4) (mC (.int 1)) addD)) none) addD)) sNx)
    (seqS (sIf (mBoo (mBin (mVar 2) (mC (.int 4)) eqD)) (sRet (mCB [(mVar 1)] listF)) sNx)
    (sRet (mBin (mBin (mSl (mVar 1) none (some (mVar 4))) (mCB [(mCall self [(mVar 0), (mBin (mVar 1) (mVar 4) ixD)])] tupD) addD) (mSl (mVar 1) (some (mBin (mVar 4) (mC (.int 1)) addD)) none) addD)))))))))))
noncomputable def f_l_spoilt : Nat → FM
  | 0 => fun _ _ => .no
  | k + 1 => runF 5 (m_l_spoilt (f_l_spoilt k))
theorem ok_l_spoilt (T : Wd K mg) : ∀ k, FnOk P w K mg base CX0 (3 + k) T.x_l_spoilt.f T.x_l_spoilt.d ["_law_bag_here", "_law_thing"] (spM (G0 K) 2 (f_l_spoilt k))
  | 0 => fnOk_no
  | k + 1 => by
    have ih := ok_l_spoilt T k
    have h : FnOk P w K mg base CX0 (3 + k + 1) T.x_l_spoilt.f T.x_l_spoilt.d ["_law_bag_here", "_law_thing"] (spM (G0 K) (List.length (["_law_bag_here", "_law_thing"] : List Str)) (runF (List.length (["_law_bag_here", "_law_thing", "_law_way", "_law_odd_here", "_law_at"] : List Str)) (m_l_spoilt (f_l_spoilt k)))) := fn_M T.x_l_spoilt.F sc_l_spoilt rfl fun cdv A outer s H E F hr => by
      have h64 := hr.units
      exact (ss_cons (ss_set (fun {te} h => ps_set (i := 2) sc_l_spoilt.nd rfl (Or.inl rfl) h) (se_call rfl ((ok_l_take T).mono (by omega)) hr rfl T.x_l_take.m T.x_l_take.F.kp T.x_l_take.b pass0 (sa_of rfl (.cons (se_var 0 rfl (pv 0)) rfl (.cons (se_c rfl pe_int) rfl .nil))) rfl))
    (ss_cons (ss_set (fun {te} h => ps_set (i := 3) sc_l_spoilt.nd rfl (Or.inl rfl) h) (se_call rfl ((ok_l_odd T).mono (by omega)) hr rfl T.x_l_odd.m T.x_l_odd.F.kp T.x_l_odd.b pass0 (sa_of rfl (.cons (se_var 0 rfl (pv 0)) rfl .nil)) rfl))
    (ss_cons (ss_if (SW.sb (sw_or (sb_not (sb_truth rfl (se_isi rfl (by decide) rfl T.n_isinstance (se_var 1 rfl (pv 1)) (pe_bltn (v := .ty "tuple") rfl T.n_tuple PyProof.Rows.Boot.«tuple» rfl)))) (sw_or1 (sb_cmp (cm_eq rfl h64) (se_cb rfl (cb_len rfl) rfl T.n_len PyProof.Rows.Boot.«len» (sa_of rfl (.cons (se_var 1 rfl (pv 1)) rfl .nil))) (se_c rfl pe_int) (nomark _))))) (ss_cons (ss_if (SW.sb (sw_and (sb_truth rfl (se_isi rfl (by decide) rfl T.n_isinstance (se_var 1 rfl (pv 1)) (pe_bltn (v := .ty "int") rfl T.n_int PyProof.Rows.Boot.«int» rfl))) (sw_and1 (sb_cmp cm_lt (se_var 2 rfl (pv 2)) (se_c rfl pe_int) (nomark _))))) (ss_one (ss_ret (se_addE rfl (se_var 1 rfl (pv 1)) (se_idx rfl (se_lst rfl (sa_of rfl (.cons (se_c rfl pe_int) rfl (.cons (se_neg rfl (se_c rfl pe_int)) rfl (.cons (se_c rfl pe_int) rfl (.cons (se_c rfl pe_int) rfl (.cons (se_c rfl pe_int) rfl .nil))))))) (se_var 2 rfl (pv 2)) (fun _ _ => rfl))))) ss_nil)
    (ss_one (ss_ret (se_var 3 rfl (pv 3))))) ss_nil)
    (ss_cons (ss_set (fun {te} h => ps_set (i := 4) sc_l_spoilt.nd rfl (Or.inl rfl) h) (se_call rfl ((ok_l_take T).mono (by omega)) hr rfl T.x_l_take.m T.x_l_take.F.kp T.x_l_take.b pass0 (sa_of rfl (.cons (se_var 0 rfl (pv 0)) rfl (.cons (se_cb rfl (cb_len rfl) rfl T.n_len PyProof.Rows.Boot.«len» (sa_of rfl (.cons (se_var 1 rfl (pv 1)) rfl .nil))) rfl .nil))) rfl))
    (ss_cons (ss_if (sb_cmp (cm_eq rfl h64) (se_var 2 rfl (pv 2)) (se_c rfl pe_int) (nomark _)) (ss_one (ss_ret (se_add rfl (se_slice rfl (se_var 1 rfl (pv 1)) so_none (so_some (se_var 4 rfl (pv 4)))) (se_slice rfl (se_var 1 rfl (pv 1)) (so_some (se_add rfl (se_var 4 rfl (pv 4)) (se_c rfl pe_int))) so_none)))) ss_nil)
    (ss_cons (ss_if (sb_cmp (cm_eq rfl h64) (se_var 2 rfl (pv 2)) (se_c rfl pe_int) (nomark _)) (ss_one (ss_ret (se_add rfl (se_add rfl (se_slice rfl (se_var 1 rfl (pv 1)) so_none (so_some (se_var 4 rfl (pv 4)))) (se_tup rfl (sa_of rfl (.cons (se_var 3 rfl (pv 3)) rfl .nil)))) (se_slice rfl (se_var 1 rfl (pv 1)) (so_some (se_var 4 rfl (pv 4))) so_none)))) ss_nil)
    (ss_cons (ss_if (sb_cmp (cm_eq rfl h64) (se_var 2 rfl (pv 2)) (se_c rfl pe_int) (nomark _)) (ss_one (ss_ret (se_add rfl (se_add rfl (se_slice rfl (se_var 1 rfl (pv 1)) so_none (so_some (se_var 4 rfl (pv 4)))) (se_slice rfl (se_var 1 rfl (pv 1)) (so_some (se_var 4 rfl (pv 4))) (so_some (se_add rfl (se_var 4 rfl (pv 4)) (se_c rfl pe_int))))) (se_slice rfl (se_var 1 rfl (pv 1)) (so_some (se_var 4 rfl (pv 4))) so_none)))) ss_nil)
    (ss_cons (ss_if (sb_cmp (cm_eq rfl h64) (se_var 2 rfl (pv 2)) (se_c rfl pe_int) (nomark _)) (ss_one (ss_ret (se_add rfl (se_add rfl (se_slice rfl (se_var 1 rfl (pv 1)) so_none (so_some (se_var 4 rfl (pv 4)))) (se_tup rfl (sa_of rfl (.cons (se_var 3 rfl (pv 3)) rfl .nil)))) (se_slice rfl (se_var 1 rfl (pv 1)) (so_some (se_add rfl (se_var 4 rfl (pv 4)) (se_c rfl pe_int))) so_none)))) ss_nil)
    (ss_cons (ss_if (sb_cmp (cm_eq rfl h64) (se_var 2 rfl (pv 2)) (se_c rfl pe_int) (nomark _)) (ss_one (ss_ret (se_ct rfl (cb_list rfl) rfl T.n_list PyProof.Rows.Boot.«list» (sa_of rfl (.cons (se_var 1 rfl (pv 1)) rfl .nil))))) ss_nil)
    (ss_one (ss_ret (se_add rfl (se_add rfl (se_slice rfl (se_var 1 rfl (pv 1)) so_none (so_some (se_var 4 rfl (pv 4)))) (se_tup rfl (sa_of rfl (.cons (se_call rfl ih hr rfl T.x_l_spoilt.m T.x_l_spoilt.F.kp T.x_l_spoilt.b pass0 (sa_of rfl (.cons (se_var 0 rfl (pv 0)) rfl (.cons (se_idx rfl (se_var 1 rfl (pv 1)) (se_var 4 rfl (pv 4)) (fun _ _ => rfl)) rfl .nil))) rfl) rfl .nil)))) (se_slice rfl (se_var 1 rfl (pv 1)) (so_some (se_add rfl (se_var 4 rfl (pv 4)) (se_c rfl pe_int))) so_none)))))))))))))
    exact h
end
end My
namespace My
open PySem L2 Mi
section
variable {P : Program} {w : World} {K : PySem.W.Frag} {mg : Str → Option Value} {base : Heap}
noncomputable def m_l_over : MS := (seqS (sAsg (.tp [(.nm 3), (.nm 4), (.nm 5), (.nm 6)]) (mCall f_l_standing [(mVar 0), (mVar 1), (mVar 2)]))
    (seqS (sAsg (.nm 7) (mCall f_l_take [(mVar 0), (mC (.int 5))]))
    (seqS (sAsg (.nm 8) (mCall f_l_signs [(mVar 0), (mVar 2), (mC (.int 1))]))
    (seqS (sIf (mAnd (mBoo (mBin (mVar 7) (mC (.int 1)) eqD)) (mBoo (mBin (mBin (mVar 1) (mC (.int 1)) ixD) (mCB [] tupD) neD))) (sAsg (.nm 8) (mCB [(mBin (mBin (mVar 1) (mC (.int 1)) ixD) (mCall f_l_take [(mVar 0), (mCB [(mBin (mVar 1) (mC (.int 1)) ixD)] lenD)]) ixD)] tupD)) sNx)
    (seqS (sAsg (.nm 9) (mCall f_l_take [(mVar 0), (mBin (mCB [(mVar 3)] lenD) (mC (.int 1)) addD)]))
    (seqS (sIf (mAnd (mBoo (mBin (mVar 7) (mC (.int 2)) ltD)) (mOr (mBoo (mBin (mVar 6) (mC .non) isN)) (mBoo (mBin (mVar 9) (mBin (mVar 6) (mC (.int 0)) ixD) leD)))) (sRet (mCB [(mBin (mBin (mSl (mVar 3) none (some (mVar 9))) (mVar 8) addD) (mSl (mVar 3) (some (mVar 9)) none) addD), (mVar 4), (mVar 5), (mC .non)] tupD)) sNx)
    (seqS (sIf (mAnd (mBoo (mBin (mVar 7) (mC (.int 2)) eqD)) (mBoo (mBin (mVar 6) (mC .non) notN))) (seqS (sAsg (.nm 10) (mBin (mBin (mSl (mVar 3) none (some (mBin (mVar 6) (mC (.int 1)) ixD))) (mCall f_l_signs [(mVar 0), (mVar 2), (mBin (mBin (mC (.int 97)) (mBin (mVar 6) (mC (.int 1)) ixD) subD) (mBin (mVar 6) (mC (.int 0)) ixD) addD)]) addD) (mSl (mVar 3) (some (mBin (mVar 6) (mC (.int 1)) ixD)) none) addD))
    (sRet (mCB [(mVar 10), (mVar 4), (mVar 5), (mCB [(mBin (mVar 6) (mC (.int 0)) ixD), (mBin (mBin (mVar 6) (mC (.int 0)) ixD) (mC (.int 97)) addD)] tupD)] tupD))) sNx)
    (sRet (mCB [(mVar 3), (mVar 4), (mVar 5), (mVar 6)] tupD)))))))))
noncomputable def f_l_over : FM := runF 11 m_l_over
theorem ok_l_over (T : Wd K mg) : FnOk P w K mg base CX0 5 T.x_l_over.f T.x_l_over.d ["_law_bag_here", "_law_field_here", "_law_far"] (spM (G0 K) 3 f_l_over) := by
  have h : FnOk P w K mg base CX0 (5) T.x_l_over.f T.x_l_over.d ["_law_bag_here", "_law_field_here", "_law_far"] (spM (G0 K) (List.length (["_law_bag_here", "_law_field_here", "_law_far"] : List Str)) (runF (List.length (["_law_bag_here", "_law_field_here", "_law_far", "_law_signs_here", "_law_begin", "_law_end", "_law_marked", "_law_way", "_law_more", "_law_at", "_law_wide"] : List Str)) m_l_over)) := fn_M T.x_l_over.F sc_l_over rfl fun cdv A outer s H E F hr => by
    have h64 := hr.units
    exact (ss_cons (ss_asg (se_call rfl ((ok_l_standing T).mono (by omega)) hr rfl T.x_l_standing.m T.x_l_standing.F.kp T.x_l_standing.b pass0 (sa_of rfl (.cons (se_var 0 rfl (pv 0)) rfl (.cons (se_var 1 rfl (pv 1)) rfl (.cons (se_var 2 rfl (pv 2)) rfl .nil)))) rfl) (sg_tup rfl rfl (sgs_cons (sg_name (pg_name (i := 3) sc_l_over.nd rfl (Or.inl rfl))) (sgs_cons (sg_name (pg_name (i := 4) sc_l_over.nd rfl (Or.inl rfl))) (sgs_cons (sg_name (pg_name (i := 5) sc_l_over.nd rfl (Or.inl rfl))) (sgs_cons (sg_name (pg_name (i := 6) sc_l_over.nd rfl (Or.inl rfl))) sgs_nil))))))
    (ss_cons (ss_set (fun {te} h => ps_set (i := 7) sc_l_over.nd rfl (Or.inl rfl) h) (se_call rfl ((ok_l_take T).mono (by omega)) hr rfl T.x_l_take.m T.x_l_take.F.kp T.x_l_take.b pass0 (sa_of rfl (.cons (se_var 0 rfl (pv 0)) rfl (.cons (se_c rfl pe_int) rfl .nil))) rfl))
    (ss_cons (ss_set (fun {te} h => ps_set (i := 8) sc_l_over.nd rfl (Or.inl rfl) h) (se_call rfl ((ok_l_signs T).mono (by omega)) hr rfl T.x_l_signs.m T.x_l_signs.F.kp T.x_l_signs.b pass0 (sa_of rfl (.cons (se_var 0 rfl (pv 0)) rfl (.cons (se_var 2 rfl (pv 2)) rfl (.cons (se_c rfl pe_int) rfl .nil)))) rfl))
    (ss_cons (ss_if (SW.sb (sw_and (sb_cmp (cm_eq rfl h64) (se_var 7 rfl (pv 7)) (se_c rfl pe_int) (nomark _)) (sw_and1 (sb_cmp (cm_ne rfl h64) (se_idx rfl (se_var 1 rfl (pv 1)) (se_c rfl pe_int) (fun _ _ => rfl)) (se_tup rfl (sa_of rfl .nil)) (nomark _))))) (ss_one (ss_set (fun {te} h => ps_set (i := 8) sc_l_over.nd rfl (Or.inl rfl) h) (se_tup rfl (sa_of rfl (.cons (se_idx rfl (se_idx rfl (se_var 1 rfl (pv 1)) (se_c rfl pe_int) (fun _ _ => rfl)) (se_call rfl ((ok_l_take T).mono (by omega)) hr rfl T.x_l_take.m T.x_l_take.F.kp T.x_l_take.b pass0 (sa_of rfl (.cons (se_var 0 rfl (pv 0)) rfl (.cons (se_cb rfl (cb_len rfl) rfl T.n_len PyProof.Rows.Boot.«len» (sa_of rfl (.cons (se_idx rfl (se_var 1 rfl (pv 1)) (se_c rfl pe_int) (fun _ _ => rfl)) rfl .nil))) rfl .nil))) rfl) (fun _ _ => rfl)) rfl .nil))))) ss_nil)
    (ss_cons (ss_set (fun {te} h => ps_set (i := 9) sc_l_over.nd rfl (Or.inl rfl) h) (se_call rfl ((ok_l_take T).mono (by omega)) hr rfl T.x_l_take.m T.x_l_take.F.kp T.x_l_take.b pass0 (sa_of rfl (.cons (se_var 0 rfl (pv 0)) rfl (.cons (se_add rfl (se_cb rfl (cb_len rfl) rfl T.n_len PyProof.Rows.Boot.«len» (sa_of rfl (.cons (se_var 3 rfl (pv 3)) rfl .nil))) (se_c rfl pe_int)) rfl .nil))) rfl))
    (ss_cons (ss_if (SW.sb (sw_and (sb_cmp cm_lt (se_var 7 rfl (pv 7)) (se_c rfl pe_int) (nomark _)) (sw_and1 (SW.sb (sw_or (sb_cmp cm_isN (se_var 6 rfl (pv 6)) (se_c rfl pe_non) (nomark _)) (sw_or1 (sb_cmp cm_le (se_var 9 rfl (pv 9)) (se_idx rfl (se_var 6 rfl (pv 6)) (se_c rfl pe_int) (fun _ _ => rfl)) (nomark _)))))))) (ss_one (ss_ret (se_tup rfl (sa_of rfl (.cons (se_add rfl (se_add rfl (se_slice rfl (se_var 3 rfl (pv 3)) so_none (so_some (se_var 9 rfl (pv 9)))) (se_var 8 rfl (pv 8))) (se_slice rfl (se_var 3 rfl (pv 3)) (so_some (se_var 9 rfl (pv 9))) so_none)) rfl (.cons (se_var 4 rfl (pv 4)) rfl (.cons (se_var 5 rfl (pv 5)) rfl (.cons (se_c rfl pe_non) rfl .nil)))))))) ss_nil)
    (ss_cons (ss_if (SW.sb (sw_and (sb_cmp (cm_eq rfl h64) (se_var 7 rfl (pv 7)) (se_c rfl pe_int) (nomark _)) (sw_and1 (sb_cmp cm_notN (se_var 6 rfl (pv 6)) (se_c rfl pe_non) (nomark _))))) (ss_cons (ss_set (fun {te} h => ps_set (i := 10) sc_l_over.nd rfl (Or.inl rfl) h) (se_add rfl (se_add rfl (se_slice rfl (se_var 3 rfl (pv 3)) so_none (so_some (se_idx rfl (se_var 6 rfl (pv 6)) (se_c rfl pe_int) (fun _ _ => rfl)))) (se_call rfl ((ok_l_signs T).mono (by omega)) hr rfl T.x_l_signs.m T.x_l_signs.F.kp T.x_l_signs.b pass0 (sa_of rfl (.cons (se_var 0 rfl (pv 0)) rfl (.cons (se_var 2 rfl (pv 2)) rfl (.cons (se_add rfl (se_sub rfl (se_c rfl pe_int) (se_idx rfl (se_var 6 rfl (pv 6)) (se_c rfl pe_int) (fun _ _ => rfl))) (se_idx rfl (se_var 6 rfl (pv 6)) (se_c rfl pe_int) (fun _ _ => rfl))) rfl .nil)))) rfl)) (se_slice rfl (se_var 3 rfl (pv 3)) (so_some (se_idx rfl (se_var 6 rfl (pv 6)) (se_c rfl pe_int) (fun _ _ => rfl))) so_none)))
    (ss_one (ss_ret (se_tup rfl (sa_of rfl (.cons (se_var 10 rfl (pv 10)) rfl (.cons (se_var 4 rfl (pv 4)) rfl (.cons (se_var 5 rfl (pv 5)) rfl (.cons (se_tup rfl (sa_of rfl (.cons (se_idx rfl (se_var 6 rfl (pv 6)) (se_c rfl pe_int) (fun _ _ => rfl)) rfl (.cons (se_add rfl (se_idx rfl (se_var 6 rfl (pv 6)) (se_c rfl pe_int) (fun _ _ => rfl)) (se_c rfl pe_int)) rfl .nil)))) rfl .nil))))))))) ss_nil)
    (ss_one (ss_ret (se_tup rfl (sa_of rfl (.cons (se_var 3 rfl (pv 3)) rfl (.cons (se_var 4 rfl (pv 4)) rfl (.cons (se_var 5 rfl (pv 5)) rfl (.cons (se_var 6 rfl (pv 6)) rfl .nil)))))))))))))))
  exact h
end
end My
namespace My
open PySem L2 Mi
section
variable {P : Program} {w : World} {K : PySem.W.Frag} {mg : Str → Option Value} {base : Heap}
noncomputable def m_l_copy (self : FM) : MS := (seqS (sIf (mTest (mIsi "list" (mVar 0))) (sRet (mComp (mSeqI (mVar 0)) (.nm 0) (rt true) (mCall self [(mVar 0)]) 1 [])) sNx)
    (seqS (sIf (mTest (mIsi "tuple" (mVar 0))) (sRet (mCB [(mComp (mSeqI (mVar 0)) (.nm 0) (rt true) (mCall self [(mVar 0)]) 1 [])] tupF)) sNx)
    (sRet (mVar 0))))
noncomputable def f_l_copy : Nat → FM
  | 0 => fun _ _ => .no
  | k + 1 => runF 1 (m_l_copy (f_l_copy k))
theorem ok_l_copy (T : Wd K mg) : ∀ k, FnOk P w K mg base CX0 (1 + k) T.x_l_copy.f T.x_l_copy.d ["_law_thing"] (spM (G0 K) 1 (f_l_copy k))
  | 0 => fnOk_no
  | k + 1 => by
    have ih := ok_l_copy T k
    have h : FnOk P w K mg base CX0 (1 + k + 1) T.x_l_copy.f T.x_l_copy.d ["_law_thing"] (spM (G0 K) (List.length (["_law_thing"] : List Str)) (runF (List.length (["_law_thing"] : List Str)) (m_l_copy (f_l_copy k)))) := fn_M T.x_l_copy.F sc_l_copy rfl fun cdv A outer s H E F hr => by
      have h64 := hr.units
      exact (ss_cons (ss_if (sb_truth rfl (se_isi rfl (by decide) rfl T.n_isinstance (se_var 0 rfl (pv 0)) (pe_bltn (v := .ty "list") rfl T.n_list PyProof.Rows.Boot.«list» rfl))) (ss_one (ss_ret (se_comp (own := ["_law_one"]) (frees := []) (ix := []) rfl rfl (compOk.sc (by kernel_rfl)) (si_seq rfl (se_var 0 rfl (pv 0))) (fun _ _ _ _ _ _ _ => (sg_name (pg_name (i := 0) (show List.Nodup (["_law_one"] : List Str) by decide +kernel) rfl (Or.inl rfl)))) (fun _ _ _ _ _ _ _ => sts_nil) (fun _ _ _ _ _ _ _ => (se_call rfl ih hr rfl T.x_l_copy.m T.x_l_copy.F.kp T.x_l_copy.b pass0 (sa_of rfl (.cons (se_var 0 rfl (pv 0)) rfl .nil)) rfl))))) ss_nil)
    (ss_cons (ss_if (sb_truth rfl (se_isi rfl (by decide) rfl T.n_isinstance (se_var 0 rfl (pv 0)) (pe_bltn (v := .ty "tuple") rfl T.n_tuple PyProof.Rows.Boot.«tuple» rfl))) (ss_one (ss_ret (se_ct rfl (cb_tuple rfl) rfl T.n_tuple PyProof.Rows.Boot.«tuple» (sa_of rfl (.cons (se_comp (own := ["_law_one"]) (frees := []) (ix := []) rfl rfl (compOk.sc (by kernel_rfl)) (si_seq rfl (se_var 0 rfl (pv 0))) (fun _ _ _ _ _ _ _ => (sg_name (pg_name (i := 0) (show List.Nodup (["_law_one"] : List Str) by decide +kernel) rfl (Or.inl rfl)))) (fun _ _ _ _ _ _ _ => sts_nil) (fun _ _ _ _ _ _ _ => (se_call rfl ih hr rfl T.x_l_copy.m T.x_l_copy.F.kp T.x_l_copy.b pass0 (sa_of rfl (.cons (se_var 0 rfl (pv 0)) rfl .nil)) rfl))) rfl .nil))))) ss_nil)
    (ss_one (ss_ret (se_var 0 rfl (pv 0))))))
    exact h
end
end My
namespace My
open PySem L2 Mi
section
variable {P : Program} {w : World} {K : PySem.W.Frag} {mg : Str → Option Value} {base : Heap}
noncomputable def m_l_right : MS := (seqS (sAsg (.nm 3) (mCall (f_l_copy 12) [(mCB [(mVar 1), (mVar 2)] tupD)]))
    (seqS (sAsg (.nm 4) (mCB [(mCall f_l_is_field [(mVar 1)]), (mCall f_l_is_standing [(mVar 0), (mVar 2)])] lstM))
    (seqS (sFor (mRng1 [(mC (.int 2))]) (.nm 5) (seqS (sAsg (.nm 6) (mCB [(mCall f_p_is_field [(mBin (mVar 3) (mC (.int 0)) ixD)]), (mCall f_p_is_standing [(mVar 0), (mBin (mVar 3) (mC (.int 1)) ixD)])] lstM))
    (sIf (mOr (mBoo (mBin (mVar 6) (mVar 4) neD)) (mNot (mTest (mCB [(mComp (mSeqI (mVar 6)) (.nm 0) (rt true) (mIsi "bool" (mVar 0)) 1 [])] allD)))) (sRet (mC (.bool false))) sNx)))
    (sRet (mBin (mCB [(mVar 3)] strD) (mCB [(mCB [(mVar 1), (mVar 2)] tupD)] strD) eqS)))))
noncomputable def f_l_right : FM := runF 7 m_l_right
theorem ok_l_right (T : Wd K mg) : FnOk P w K mg base CX0 14 T.x_l_right.f T.x_l_right.d ["_law_field_here", "_law_thing", "_law_other"] (spM (G0 K) 3 f_l_right) := by
  have h : FnOk P w K mg base CX0 (14) T.x_l_right.f T.x_l_right.d ["_law_field_here", "_law_thing", "_law_other"] (spM (G0 K) (List.length (["_law_field_here", "_law_thing", "_law_other"] : List Str)) (runF (List.length (["_law_field_here", "_law_thing", "_law_other", "_law_handed", "_law_dues", "_law_turn", "_law_found"] : List Str)) m_l_right)) := fn_M T.x_l_right.F sc_l_right rfl fun cdv A outer s H E F hr => by
    have h64 := hr.units
    exact (ss_cons (ss_set (fun {te} h => ps_set (i := 3) sc_l_right.nd rfl (Or.inl rfl) h) (se_call rfl ((ok_l_copy T 12).mono (by omega)) hr rfl T.x_l_copy.m T.x_l_copy.F.kp T.x_l_copy.b pass0 (sa_of rfl (.cons (se_tup rfl (sa_of rfl (.cons (se_var 1 rfl (pv 1)) rfl (.cons (se_var 2 rfl (pv 2)) rfl .nil)))) rfl .nil)) rfl))
    (ss_cons (ss_set (fun {te} h => ps_set (i := 4) sc_l_right.nd rfl (Or.inl rfl) h) (se_lst rfl (sa_of rfl (.cons (se_call rfl ((ok_l_is_field T).mono (by omega)) hr rfl T.x_l_is_field.m T.x_l_is_field.F.kp T.x_l_is_field.b pass0 (sa_of rfl (.cons (se_var 1 rfl (pv 1)) rfl .nil)) rfl) rfl (.cons (se_call rfl ((ok_l_is_standing T).mono (by omega)) hr rfl T.x_l_is_standing.m T.x_l_is_standing.F.kp T.x_l_is_standing.b pass0 (sa_of rfl (.cons (se_var 0 rfl (pv 0)) rfl (.cons (se_var 2 rfl (pv 2)) rfl .nil))) rfl) rfl .nil)))))
    (ss_cons (ss_for PassesOwn.never rfl (si_rng1 rfl T.n_range (sa_of rfl (.cons (se_c rfl pe_int) rfl .nil))) (sg_name (pg_name (i := 5) sc_l_right.nd rfl (Or.inl rfl))) (ss_cons (ss_set (fun {te} h => ps_set (i := 6) sc_l_right.nd rfl (Or.inl rfl) h) (se_lst rfl (sa_of rfl (.cons (se_call rfl ((ok_p_is_field T).mono (by omega)) hr rfl T.x_p_is_field.m T.x_p_is_field.F.kp T.x_p_is_field.b pass0 (sa_of rfl (.cons (se_idx rfl (se_var 3 rfl (pv 3)) (se_c rfl pe_int) (fun _ _ => rfl)) rfl .nil)) rfl) rfl (.cons (se_call rfl ((ok_p_is_standing T).mono (by omega)) hr rfl T.x_p_is_standing.m T.x_p_is_standing.F.kp T.x_p_is_standing.b pass0 (sa_of rfl (.cons (se_var 0 rfl (pv 0)) rfl (.cons (se_idx rfl (se_var 3 rfl (pv 3)) (se_c rfl pe_int) (fun _ _ => rfl)) rfl .nil))) rfl) rfl .nil)))))
    (ss_one (ss_if (SW.sb (sw_or (sb_cmp (cm_ne rfl h64) (se_var 6 rfl (pv 6)) (se_var 4 rfl (pv 4)) (nomark _)) (sw_or1 (sb_not (sb_truth rfl (se_cb rfl (cb_all rfl hr.hd) rfl T.n_all PyProof.Rows.Boot.«all» (sa_of rfl (.cons (se_comp (own := ["_law_one"]) (frees := []) (ix := []) rfl rfl (compOk.sc (by kernel_rfl)) (si_seq rfl (se_var 6 rfl (pv 6))) (fun _ _ _ _ _ _ _ => (sg_name (pg_name (i := 0) (show List.Nodup (["_law_one"] : List Str) by decide +kernel) rfl (Or.inl rfl)))) (fun _ _ _ _ _ _ _ => sts_nil) (fun _ _ _ _ _ _ _ => (se_isi rfl (by decide) rfl T.n_isinstance (se_var 0 rfl (pv 0)) (pe_bltn (v := .ty "bool") rfl T.n_bool PyProof.Rows.Boot.«bool» rfl)))) rfl .nil)))))))) (ss_one (ss_ret (se_c rfl pe_bl))) ss_nil))))
    (ss_one (ss_ret (se_cmp cm_eqS (se_ct rfl (cb_str rfl hr.gd h64) rfl T.n_str PyProof.Rows.Boot.«str» (sa_of rfl (.cons (se_var 3 rfl (pv 3)) rfl .nil))) (se_ct rfl (cb_str rfl hr.gd h64) rfl T.n_str PyProof.Rows.Boot.«str» (sa_of rfl (.cons (se_tup rfl (sa_of rfl (.cons (se_var 1 rfl (pv 1)) rfl (.cons (se_var 2 rfl (pv 2)) rfl .nil)))) rfl .nil))) (nomark _)))))))
  exact h
end
end My
namespace My
open PySem L2 Mi
section
variable {P : Program} {w : World} {K : PySem.W.Frag} {mg : Str → Option Value} {base : Heap}
noncomputable def m_law : MS := (seqS (sFor (mRng1 [(mCB [(mC (.int 2)), (mCB [(mCB [(mVar 0)] lenD), (mC (.int 6))] minD)] maxD)]) (.nm 1) (seqS (sAsg (.nm 2) (mCall f_l_bag [(mVar 0), (mVar 1)]))
    (seqS (sAsg (.nm 3) (mCall f_l_take [(mVar 2), (mC (.int 1040))]))
    (seqS (sAsg (.nm 4) (mCall f_l_field [(mVar 2), (mVar 3)]))
    (seqS (sAsg (.nm 5) (mCall f_l_over [(mVar 2), (mVar 4), (mVar 3)]))
    (seqS (sIf (mOr (mNot (mTest (mCall f_l_right [(mVar 4), (mVar 4), (mVar 5)]))) (mNot (mTest (mCall f_l_right [(mCall f_l_field [(mVar 2), (mVar 3)]), (mVar 5), (mVar 5)])))) (sRet (mC (.bool false))) sNx)
    (seqS (sFor (mRng1 [(mC (.int 8))]) (.nm 6) (seqS (sAsg (.tp [.nm 7, .nm 8]) (mCB [(mVar 4), (mVar 5)] tupD))
    (seqS (sFor (mRng1 [(mBin (mC (.int 1)) (mCall f_l_take [(mVar 2), (mC (.int 3))]) addD)]) (.nm 9) (sAsg (.tp [.nm 7, .nm 8]) (mCB [(mCall (f_l_spoilt 12) [(mVar 2), (mVar 7)]), (mCall (f_l_spoilt 12) [(mVar 2), (mVar 8)])] tupD)))
    (sIf (mOr (mNot (mTest (mCall f_l_right [(mVar 4), (mVar 7), (mVar 8)]))) (mNot (mTest (mCall f_l_right [(mVar 4), (mVar 8), (mVar 7)])))) (sRet (mC (.bool false))) sNx))))
    (sFor (mSeqI (mCB [(mC .non), (mCB [] tupD), (mCB [] lstM), (mCB [(mC (.int 0)), (mCB [] tupD)] lstM), (mCB [(mC (.int 0)), (mCB [] tupD)] tupD), (mCB [(mCB [] tupD), (mC (.int 0)), (mC (.int 0)), (mC .non)] tupD), (mCall f_l_odd [(mVar 2)]), (mCB [(mC (.int 60)), (mBin (mBin (mVar 4) (mC (.int 1)) ixD) (mC (.int 2)) mulT)] tupD)] lstM)) (.nm 7) (sIf (mNot (mTest (mCall f_l_right [(mVar 4), (mVar 7), (mVar 7)]))) (sRet (mC (.bool false))) sNx)))))))))
    (sRet (mC (.bool true))))
noncomputable def f_law : FM := runF 10 m_law
theorem ok_law (T : Wd K mg) : FnOk P w K mg base CX0 16 T.x_law.f T.x_law.d ["_law_script"] (spM (G0 K) 1 f_law) := by
  have h : FnOk P w K mg base CX0 (16) T.x_law.f T.x_law.d ["_law_script"] (spM (G0 K) (List.length (["_law_script"] : List Str)) (runF (List.length (["_law_script", "_law_at", "_law_bag_here", "_law_far", "_law_field_here", "_law_standing_here", "_law_turn", "_law_thing", "_law_other", "_law_again"] : List Str)) m_law)) := fn_M T.x_law.F sc_law rfl fun cdv A outer s H E F hr => by
    have h64 := hr.units
    exact (ss_cons (ss_for PassesOwn.never rfl (si_rng1 rfl T.n_range (sa_of rfl (.cons (se_cb rfl (cb_max rfl) rfl T.n_max PyProof.Rows.Boot.«max» (sa_of rfl (.cons (se_c rfl pe_int) rfl (.cons (se_cb rfl (cb_min rfl) rfl T.n_min PyProof.Rows.Boot.«min» (sa_of rfl (.cons (se_cb rfl (cb_len rfl) rfl T.n_len PyProof.Rows.Boot.«len» (sa_of rfl (.cons (se_var 0 rfl (pv 0)) rfl .nil))) rfl (.cons (se_c rfl pe_int) rfl .nil)))) rfl .nil)))) rfl .nil))) (sg_name (pg_name (i := 1) sc_law.nd rfl (Or.inl rfl))) (ss_cons (ss_set (fun {te} h => ps_set (i := 2) sc_law.nd rfl (Or.inl rfl) h) (se_call rfl ((ok_l_bag T).mono (by omega)) hr rfl T.x_l_bag.m T.x_l_bag.F.kp T.x_l_bag.b pass0 (sa_of rfl (.cons (se_var 0 rfl (pv 0)) rfl (.cons (se_var 1 rfl (pv 1)) rfl .nil))) rfl))
    (ss_cons (ss_set (fun {te} h => ps_set (i := 3) sc_law.nd rfl (Or.inl rfl) h) (se_call rfl ((ok_l_take T).mono (by omega)) hr rfl T.x_l_take.m T.x_l_take.F.kp T.x_l_take.b pass0 (sa_of rfl (.cons (se_var 2 rfl (pv 2)) rfl (.cons (se_c rfl pe_int) rfl .nil))) rfl))
    (ss_cons (ss_set (fun {te} h => ps_set (i := 4) sc_law.nd rfl (Or.inl rfl) h) (se_call rfl ((ok_l_field T).mono (by omega)) hr rfl T.x_l_field.m T.x_l_field.F.kp T.x_l_field.b pass0 (sa_of rfl (.cons (se_var 2 rfl (pv 2)) rfl (.cons (se_var 3 rfl (pv 3)) rfl .nil))) rfl))
    (ss_cons (ss_set (fun {te} h => ps_set (i := 5) sc_law.nd rfl (Or.inl rfl) h) (se_call rfl ((ok_l_over T).mono (by omega)) hr rfl T.x_l_over.m T.x_l_over.F.kp T.x_l_over.b pass0 (sa_of rfl (.cons (se_var 2 rfl (pv 2)) rfl (.cons (se_var 4 rfl (pv 4)) rfl (.cons (se_var 3 rfl (pv 3)) rfl .nil)))) rfl))
    (ss_cons (ss_if (SW.sb (sw_or (sb_not (sb_truth rfl (se_call rfl ((ok_l_right T).mono (by omega)) hr rfl T.x_l_right.m T.x_l_right.F.kp T.x_l_right.b pass0 (sa_of rfl (.cons (se_var 4 rfl (pv 4)) rfl (.cons (se_var 4 rfl (pv 4)) rfl (.cons (se_var 5 rfl (pv 5)) rfl .nil)))) rfl))) (sw_or1 (sb_not (sb_truth rfl (se_call rfl ((ok_l_right T).mono (by omega)) hr rfl T.x_l_right.m T.x_l_right.F.kp T.x_l_right.b pass0 (sa_of rfl (.cons (se_call rfl ((ok_l_field T).mono (by omega)) hr rfl T.x_l_field.m T.x_l_field.F.kp T.x_l_field.b pass0 (sa_of rfl (.cons (se_var 2 rfl (pv 2)) rfl (.cons (se_var 3 rfl (pv 3)) rfl .nil))) rfl) rfl (.cons (se_var 5 rfl (pv 5)) rfl (.cons (se_var 5 rfl (pv 5)) rfl .nil)))) rfl)))))) (ss_one (ss_ret (se_c rfl pe_bl))) ss_nil)
    (ss_cons (ss_for PassesOwn.never rfl (si_rng1 rfl T.n_range (sa_of rfl (.cons (se_c rfl pe_int) rfl .nil))) (sg_name (pg_name (i := 6) sc_law.nd rfl (Or.inl rfl))) (ss_cons (ss_par (i := 7) (j := 8) rfl sc_law.nd rfl rfl (by decide) rfl rfl (sa_of rfl (.cons (se_var 4 rfl (pv 4)) rfl (.cons (se_var 5 rfl (pv 5)) rfl .nil))))
    (ss_cons (ss_for PassesOwn.never rfl (si_rng1 rfl T.n_range (sa_of rfl (.cons (se_add rfl (se_c rfl pe_int) (se_call rfl ((ok_l_take T).mono (by omega)) hr rfl T.x_l_take.m T.x_l_take.F.kp T.x_l_take.b pass0 (sa_of rfl (.cons (se_var 2 rfl (pv 2)) rfl (.cons (se_c rfl pe_int) rfl .nil))) rfl)) rfl .nil))) (sg_name (pg_name (i := 9) sc_law.nd rfl (Or.inl rfl))) (ss_one (ss_par (i := 7) (j := 8) rfl sc_law.nd rfl rfl (by decide) rfl rfl (sa_of rfl (.cons (se_call rfl ((ok_l_spoilt T 12).mono (by omega)) hr rfl T.x_l_spoilt.m T.x_l_spoilt.F.kp T.x_l_spoilt.b pass0 (sa_of rfl (.cons (se_var 2 rfl (pv 2)) rfl (.cons (se_var 7 rfl (pv 7)) rfl .nil))) rfl) rfl (.cons (se_call rfl ((ok_l_spoilt T 12).mono (by omega)) hr rfl T.x_l_spoilt.m T.x_l_spoilt.F.kp T.x_l_spoilt.b pass0 (sa_of rfl (.cons (se_var 2 rfl (pv 2)) rfl (.cons (se_var 8 rfl (pv 8)) rfl .nil))) rfl) rfl .nil))))))
    (ss_one (ss_if (SW.sb (sw_or (sb_not (sb_truth rfl (se_call rfl ((ok_l_right T).mono (by omega)) hr rfl T.x_l_right.m T.x_l_right.F.kp T.x_l_right.b pass0 (sa_of rfl (.cons (se_var 4 rfl (pv 4)) rfl (.cons (se_var 7 rfl (pv 7)) rfl (.cons (se_var 8 rfl (pv 8)) rfl .nil)))) rfl))) (sw_or1 (sb_not (sb_truth rfl (se_call rfl ((ok_l_right T).mono (by omega)) hr rfl T.x_l_right.m T.x_l_right.F.kp T.x_l_right.b pass0 (sa_of rfl (.cons (se_var 4 rfl (pv 4)) rfl (.cons (se_var 8 rfl (pv 8)) rfl (.cons (se_var 7 rfl (pv 7)) rfl .nil)))) rfl)))))) (ss_one (ss_ret (se_c rfl pe_bl))) ss_nil)))))
    (ss_one (ss_for PassesOwn.never rfl (si_seq rfl (se_lst rfl (sa_of rfl (.cons (se_c rfl pe_non) rfl (.cons (se_tup rfl (sa_of rfl .nil)) rfl (.cons (se_lst rfl (sa_of rfl .nil)) rfl (.cons (se_lst rfl (sa_of rfl (.cons (se_c rfl pe_int) rfl (.cons (se_tup rfl (sa_of rfl .nil)) rfl .nil)))) rfl (.cons (se_tup rfl (sa_of rfl (.cons (se_c rfl pe_int) rfl (.cons (se_tup rfl (sa_of rfl .nil)) rfl .nil)))) rfl (.cons (se_tup rfl (sa_of rfl (.cons (se_tup rfl (sa_of rfl .nil)) rfl (.cons (se_c rfl pe_int) rfl (.cons (se_c rfl pe_int) rfl (.cons (se_c rfl pe_non) rfl .nil)))))) rfl (.cons (se_call rfl ((ok_l_odd T).mono (by omega)) hr rfl T.x_l_odd.m T.x_l_odd.F.kp T.x_l_odd.b pass0 (sa_of rfl (.cons (se_var 2 rfl (pv 2)) rfl .nil)) rfl) rfl (.cons (se_tup rfl (sa_of rfl (.cons (se_c rfl pe_int) rfl (.cons (se_mulT rfl (se_idx rfl (se_var 4 rfl (pv 4)) (se_c rfl pe_int) (fun _ _ => rfl)) (se_c rfl pe_int)) rfl .nil)))) rfl .nil))))))))))) (sg_name (pg_name (i := 7) sc_law.nd rfl (Or.inl rfl))) (ss_one (ss_if (sb_not (sb_truth rfl (se_call rfl ((ok_l_right T).mono (by omega)) hr rfl T.x_l_right.m T.x_l_right.F.kp T.x_l_right.b pass0 (sa_of rfl (.cons (se_var 4 rfl (pv 4)) rfl (.cons (se_var 7 rfl (pv 7)) rfl (.cons (se_var 7 rfl (pv 7)) rfl .nil)))) rfl))) (ss_one (ss_ret (se_c rfl pe_bl))) ss_nil)))))))))))
    (ss_one (ss_ret (se_c rfl pe_bl))))
  exact h
end
end My
namespace Mi
open PySem L2
theorem drop_len {α : Type} (xs ys : List α) (k : Nat) (h : xs.length = k) : (xs ++ ys).drop k = ys := by subst h; simp
theorem take_len {α : Type} (xs ys : List α) (k : Nat) (h : xs.length = k) : (xs ++ ys).take k = xs := by subst h; simp
theorem allSome_map : ∀ ds : List D, allSome (ds.map some) = some ds
  | [] => rfl
  | d :: ds => by simp [allSome, allSome_map ds]
theorem compGo_tup {me : M D} {g : D → D} {ds : List D} {fr σ0 tm0 : List (Option D)} {ol : Nat} (hol : σ0.length = ol) (hz : ds.length < sizeLine)
    (hme : ∀ d ∈ ds, ∀ tm n, ∃ n', n ≤ n' ∧ me ⟨some d :: fr, tm, n⟩ = .ok (g d) ⟨some d :: fr, tm, n'⟩) :
    ∀ (f i : Nat) (o : Option D) (n : Nat), i + f = ds.length → ∃ n', n ≤ n' ∧ compGo kTup (.nm 0) (rt true) me ol f i i ⟨o :: fr, (((ds.take i).map g).reverse.map some) ++ (σ0 ++ (some (.tup ds) :: tm0)), n⟩ = .ok (.lst n' (ds.map g)) ⟨σ0, tm0, n' + 1⟩ := by
  intro f
  induction f with
  | zero =>
    intro i o n hi
    have hi : i = ds.length := by omega
    subst hi
    refine ⟨n, Nat.le_refl _, ?_⟩
    have l1 : (((ds.take ds.length).map g).reverse.map some).length = ds.length := by simp
    unfold compGo
    have e1 : (((((ds.take ds.length).map g).reverse.map some) ++ (σ0 ++ (some (D.tup ds) :: tm0))).drop (ds.length + ol)) = some (D.tup ds) :: tm0 := by
      rw [← List.append_assoc]; exact drop_len _ _ _ (by simp [hol])
    simp only [e1, kTup, tupAt, List.getElem?_eq_none (Nat.le_refl ds.length)]
    rw [take_len _ _ _ l1]
    have e2 : (((ds.take ds.length).map g).reverse.map some).reverse = (ds.map g).map some := by simp
    rw [e2, allSome_map]
    simp only [Res.ok.injEq, true_and, Stt.mk.injEq, and_true]
    constructor
    · rw [drop_len _ _ _ l1, take_len _ _ _ hol]
    · rw [← List.append_assoc]
      have : (((((ds.take ds.length).map g).reverse.map some) ++ σ0) ++ (some (D.tup ds) :: tm0)).drop (ds.length + ol + 1) = ((((((ds.take ds.length).map g).reverse.map some) ++ σ0) ++ (some (D.tup ds) :: tm0)).drop (ds.length + ol)).drop 1 := by rw [List.drop_drop]
      rw [this, drop_len _ _ _ (by simp [hol])]
      rfl
  | succ f ih =>
    intro i o n hi
    have hlt : i < ds.length := by omega
    have l1 : (((ds.take i).map g).reverse.map some).length = i := by simp; omega
    unfold compGo
    have e1 : (((((ds.take i).map g).reverse.map some) ++ (σ0 ++ (some (D.tup ds) :: tm0))).drop (i + ol)) = some (D.tup ds) :: tm0 := by
      rw [← List.append_assoc]; exact drop_len _ _ _ (by simp [hol]; omega)
    simp only [e1, kTup, tupAt, List.getElem?_eq_getElem hlt, asg, List.set_cons_zero, rt]
    rw [if_pos (by omega)]
    obtain ⟨n1, hn1, h1⟩ := hme ds[i] (List.getElem_mem hlt) ((((ds.take i).map g).reverse.map some) ++ (σ0 ++ (some (D.tup ds) :: tm0))) n
    rw [h1]
    obtain ⟨n2, hn2, h2⟩ := ih (i + 1) (some ds[i]) n1 (by omega)
    refine ⟨n2, by omega, ?_⟩
    rw [← h2]
    simp only [Stt.psh]
    have e3 : ds.take (i + 1) = ds.take i ++ [ds[i]] := by rw [List.take_add_one, List.getElem?_eq_getElem hlt]; rfl
    rw [e3]
    simp only [List.map_append, List.map_cons, List.map_nil, List.reverse_append, List.reverse_cons, List.reverse_nil, List.nil_append, List.cons_append]
    rfl
theorem mComp_tup {mc me : M D} {g : D → D} {ds : List D} {ix : List Nat} {s s1 : Stt} (hc : mc s = .ok (.tup ds) s1) (hz : ds.length < sizeLine)
    (hme : ∀ d ∈ ds, ∀ tm n, ∃ n', n ≤ n' ∧ me ⟨some d :: (ix.map fun i => (s1.σ[i]?).getD none), tm, n⟩ = .ok (g d) ⟨some d :: (ix.map fun i => (s1.σ[i]?).getD none), tm, n'⟩) :
    ∃ n', s1.n ≤ n' ∧ mComp (mSeqI mc) (.nm 0) (rt true) me 1 ix s = .ok (.lst n' (ds.map g)) { s1 with n := n' + 1 } := by
  obtain ⟨n', h1, h2⟩ := compGo_tup (me := me) (g := g) (ds := ds) (σ0 := s1.σ) (tm0 := s1.tm) rfl hz hme ds.length 0 none s1.n (by omega)
  refine ⟨n', h1, ?_⟩
  unfold mComp mSeqI
  simp only [bd, hc, Stt.psh]
  simp only [List.take_zero, List.map_nil, List.reverse_nil, List.nil_append] at h2
  simp only [kTup, seqLen, compIn, List.replicate] at h2 ⊢
  exact h2
theorem bools_map (ds : List D) (g : D → Bool) : boolsD (ds.map fun d => .bool (g d)) = some (ds.map g) := by
  induction ds with
  | nil => rfl
  | cons d ds ih => simp [boolsD, ih]
theorem callK_pure {t : D} {ts : List D} {n' : Nat} {s : Stt} : callK (.ok t ts n') ts s = .ok t { s with n := n' } := by
  unfold callK; simp
end Mi
set_option maxHeartbeats 40000
namespace Mi
open PySem L2
structure Kq {α : Type} (f : α) : Type where
noncomputable def Res.bnd {α β : Type} (r : Res α) (f : α → Stt → Res β) (_ : Kq f := ⟨⟩) : Res β := match r with
  | .ok a s => f a s
  | .ex d s => .ex d s
  | .no => .no
theorem bnd_ok {α β : Type} {a : α} {s : Stt} {f : α → Stt → Res β} : ((Res.ok a s).bnd f : Res β) = f a s := (rfl)
theorem bnd_ex {α β : Type} {d : D} {s : Stt} {f : α → Stt → Res β} : ((Res.ex d s : Res α).bnd f : Res β) = .ex d s := (rfl)
theorem bnd_no {α β : Type} {f : α → Stt → Res β} : ((Res.no : Res α).bnd f : Res β) = .no := (rfl)
noncomputable def Res.lf {α : Type} (r : Res α) (f : α → MS) (_ : Kq f := ⟨⟩) : RS := match r with
  | .ok a s => f a s
  | .ex d s => .ex d s
  | .no => .no
theorem lf_ok {α : Type} {a : α} {s : Stt} {f : α → MS} : ((Res.ok a s).lf f : RS) = f a s := (rfl)
theorem lf_no {α : Type} {f : α → MS} : ((Res.no : Res α).lf f : RS) = .no := (rfl)
noncomputable def RS.sq (r : RS) (m : MS) (_ : Kq m := ⟨⟩) : RS := match r with
  | .nx s => m s
  | r => r
theorem sq_nx {s : Stt} {m : MS} : ((RS.nx s).sq m : RS) = m s := (rfl)
theorem sq_rt {d : D} {s : Stt} {m : MS} : ((RS.rt d s).sq m : RS) = .rt d s := (rfl)
theorem sq_bk {s : Stt} {m : MS} : ((RS.bk s).sq m : RS) = .bk s := (rfl)
theorem sq_ct {s : Stt} {m : MS} : ((RS.ct s).sq m : RS) = .ct s := (rfl)
theorem sq_no {m : MS} : (RS.no.sq m : RS) = .no := (rfl)
noncomputable def RS.fin (r : RS) : RF := match r with
  | .nx s' => match allSome s'.tm with | some ts' => .ok .non ts' s'.n | none => .no
  | .rt t s' => match allSome s'.tm with | some ts' => .ok t ts' s'.n | none => .no
  | .ex d s' => match allSome s'.tm with | some ts' => .ex d ts' s'.n | none => .no
  | _ => .no
noncomputable def finO (o : Option (List D)) (t : D) (n : Nat) : RF := match o with | some ts => .ok t ts n | none => .no
theorem finO_some {ts : List D} {t : D} {n : Nat} : finO (some ts) t n = .ok t ts n := (rfl)
theorem fn_rt {t : D} {σ tm : List (Option D)} {n : Nat} : (RS.rt t ⟨σ, tm, n⟩).fin = finO (allSome tm) t n := (rfl)
theorem fn_nx {σ tm : List (Option D)} {n : Nat} : (RS.nx ⟨σ, tm, n⟩).fin = finO (allSome tm) .non n := (rfl)
theorem x_run {nl : Nat} {mb : MS} {ts : List D} {n : Nat} : runF nl mb ts n = (mb ⟨ts.map some ++ List.replicate (nl - ts.length) none, ts.map some, n⟩).fin := (rfl)
section
variable {α β : Type} {m ma mb mc : M D} {s : Stt} {ms : List (M D)} {σ tm : List (Option D)} {n : Nat}
theorem x_bd {m : M α} {f : α → M β} : bd m f s = (m s).bnd f := (rfl)
theorem x_rt {a : α} : rt a s = .ok a s := (rfl)
theorem x_fl : (fl : M α) s = .no := (rfl)
theorem x_psh {t : D} : psh t s = .ok () (s.psh t) := (rfl)
theorem x_pshs {t : D} : Stt.psh ⟨σ, tm, n⟩ t = ⟨σ, some t :: tm, n⟩ := (rfl)
theorem x_nxt : Stt.nxt ⟨σ, tm, n⟩ = ⟨σ, tm, n + 1⟩ := (rfl)
theorem x_pop {t : D} {r : List (Option D)} : pop ⟨σ, some t :: r, n⟩ = .ok t ⟨σ, r, n⟩ := (rfl)
noncomputable def vOf (o : Option (Option D)) (s : Stt) : Res D := match o with
  | some (some t) => .ok t s
  | _ => .no
theorem vOf_some {t : D} : vOf (some (some t)) s = .ok t s := (rfl)
theorem x_var {i : Nat} : mVar i ⟨σ, tm, n⟩ = vOf (σ[i]?) ⟨σ, tm, n⟩ := by
  unfold mVar vOf
  cases σ[i]? with
  | none => rfl
  | some o => cases o <;> rfl
theorem x_C {d : D} : mC d s = .ok d s := (rfl)
theorem x_bin {g : D → D → M D} : mBin ma mb g s = (ma s).bnd fun x s1 => (mb (s1.psh x)).bnd fun y s2 => (pop s2).bnd fun x' s3 => g x' y s3 := (rfl)
theorem x_boo : mBoo m s = (m s).bnd booD := (rfl)
theorem x_booD {b : Bool} : booD (.bool b) s = .ok b s := (rfl)
theorem x_test : mTest m s = (m s).bnd truD := (rfl)
theorem x_tB {b : Bool} : truD (.bool b) s = .ok b s := (rfl)
theorem x_tI {i : Int} : truD (.int i) s = .ok (i != 0) s := (rfl)
theorem x_tT {ds : List D} : truD (.tup ds) s = .ok (!ds.isEmpty) s := (rfl)
theorem x_tL {l : Nat} {ds : List D} : truD (.lst l ds) s = .ok (!ds.isEmpty) s := (rfl)
theorem x_and {m m' : M Bool} : mAnd m m' s = (m s).bnd fun b => iteM b m' (rt false) := (rfl)
theorem x_or {m m' : M Bool} : mOr m m' s = (m s).bnd fun b => iteM b (rt true) m' := (rfl)
theorem x_not {m : M Bool} : mNot m s = (m s).bnd fun b s1 => .ok (!b) s1 := (rfl)
theorem x_andV {m m' : M D} : mAndV m m' s = (m s).bnd fun d s1 => (booD d s1).bnd fun b => iteM b m' (rt (.bool false)) := by
  unfold mAndV mBoo bd Res.bnd
  cases m s <;> rfl
theorem x_orV {m m' : M D} : mOrV m m' s = (m s).bnd fun d s1 => (booD d s1).bnd fun b => iteM b (rt (.bool true)) m' := by
  unfold mOrV mBoo bd Res.bnd
  cases m s <;> rfl
theorem x_notV {m : M D} : mNotV m s = (m s).bnd fun d s1 => (booD d s1).bnd fun b => rt (.bool (!b)) := by
  unfold mNotV mBoo bd Res.bnd
  cases m s <;> rfl
theorem x_mif {c : M Bool} {m m' : M D} : mIf c m m' s = (c s).bnd fun b => iteM b m m' := (rfl)
theorem x_it {m m' : M α} : iteM true m m' s = m s := (rfl)
theorem x_if {m m' : M α} : iteM false m m' s = m' s := (rfl)
theorem x_args0 : mArgs [] s = .ok [] s := (rfl)
theorem x_args1 : mArgs (m :: ms) s = (m s).bnd fun x s1 => (mArgs ms (s1.psh x)).bnd fun ys s2 => (pop s2).bnd fun x' s3 => .ok (x' :: ys) s3 := (rfl)
theorem x_cb {g : List D → M D} : mCB ms g s = (mArgs ms s).bnd g := (rfl)
theorem x_call {f : FM} : mCall f ms s = (mArgs ms s).bnd fun ts s1 => callK (f ts s1.n) ts s1 := (rfl)
noncomputable def isiK (o : Option Bool) (s : Stt) : Res D := match o with
  | some b => .ok (.bool b) s
  | none => .no
theorem isiK_some {b : Bool} : isiK (some b) s = .ok (.bool b) s := (rfl)
theorem x_isi {T : String} : mIsi T m s = (m s).bnd fun d s1 => isiK (isiD T d) s1 := by
  unfold mIsi bd Res.bnd isiK
  cases m s with
  | ok d s1 => dsimp only; cases isiD T d <;> rfl
  | ex d s1 => rfl
  | no => rfl
theorem x_isiT {Ts : List String} : mIsiT Ts m s = (m s).bnd fun d s1 => isiK (isiAny Ts d) s1 := by
  unfold mIsiT bd Res.bnd isiK
  cases m s with
  | ok d s1 => dsimp only; cases isiAny Ts d <;> rfl
  | ex d s1 => rfl
  | no => rfl
theorem x_chain {g g' : D → D → M D} : mChain ma mb mc g g' s = (ma s).bnd fun x s1 => (mb (s1.psh x)).bnd fun y s2 => (pop s2).bnd fun x' s3 => flatM y (bd (mBoo (g x' y)) fun k => iteM k (bd mc fun z => g' y z) (rt (.bool false))) s3 := (rfl)
theorem x_flI {i : Int} {m : M D} : flatM (.int i) m s = m s := (rfl)
noncomputable def intK (o : Option Int) (s : Stt) : Res (Option Int) := match o with
  | some i => .ok (some i) s
  | none => .no
theorem intK_some {i : Int} : intK (some i) s = .ok (some i) s := (rfl)
theorem x_part0 : mPart none s = .ok none s := (rfl)
theorem x_part1 : mPart (some m) s = (m s).bnd fun d s1 => intK (mInt d) s1 := by
  show bd m (fun d => match mInt d with | some i => rt (some i) | none => fl) s = _
  unfold bd Res.bnd
  cases m s with
  | ok d s1 => show (match mInt d with | some i => rt (some i) | none => fl : M (Option Int)) s1 = intK (mInt d) s1; cases mInt d <;> rfl
  | ex d s1 => rfl
  | no => rfl
theorem x_mInt {i : Int} : mInt (.int i) = some i := (rfl)
theorem x_sl {lo hi : Option (M D)} : mSl m lo hi s = (m s).bnd fun x s1 => (mPart lo (s1.psh x)).bnd fun l s2 => (mPart hi s2).bnd fun h s3 => (pop s3).bnd fun x' s4 => slD x' l h s4 := (rfl)
theorem y_addI {i j : Int} : addD (.int i) (.int j) s = .ok (.int (i + j)) s := (rfl)
theorem y_addT {a b : List D} (h : a.length + b.length ≤ sizeLine) : addD (.tup a) (.tup b) s = .ok (.tup (a ++ b)) s := by simp only [addD, if_pos h]; rfl
theorem y_addL {k l : Nat} {a b : List D} (h : a.length + b.length ≤ sizeLine) : addD (.lst k a) (.lst l b) s = .ok (.lst s.n (a ++ b)) s.nxt := by simp only [addD, if_pos h]; rfl
theorem y_sub {i j : Int} : subD (.int i) (.int j) s = .ok (.int (i - j)) s := (rfl)
theorem y_mul {i j : Int} (h : CMul i j) : mulD (.int i) (.int j) s = .ok (.int (i * j)) s := by simp only [mulD, if_pos h]; rfl
theorem y_fdiv {i j : Int} (h : CDiv i j) : fdivD (.int i) (.int j) s = .ok (.int (i / j)) s := by simp only [fdivD, if_pos h]; rfl
theorem y_mod {i j : Int} (h : 0 < j) : modD (.int i) (.int j) s = .ok (.int (i % j)) s := by simp only [modD, if_pos h]; rfl
theorem y_pow {i j : Int} (h : CPow i j) : powD (.int i) (.int j) s = .ok (.int (i ^ j.toNat)) s := by simp only [powD, if_pos h]; rfl
theorem y_lt {i j : Int} : ltD (.int i) (.int j) s = .ok (.bool (decide (i < j))) s := (rfl)
theorem y_le {i j : Int} : leD (.int i) (.int j) s = .ok (.bool (decide (i ≤ j))) s := (rfl)
theorem y_gt {i j : Int} : gtD (.int i) (.int j) s = .ok (.bool (decide (j < i))) s := (rfl)
theorem y_ge {i j : Int} : geD (.int i) (.int j) s = .ok (.bool (decide (j ≤ i))) s := (rfl)
theorem y_neg {i : Int} : negD (.int i) s = .ok (.int (-i)) s := (rfl)
theorem y_eq {t t' : D} (h : eqC t t' = true) : eqD t t' s = .ok (.bool (PyData.eqv (er t) (er t'))) s := by simp only [eqD, if_pos h]; rfl
theorem y_ne {t t' : D} (h : eqC t t' = true) : neD t t' s = .ok (.bool (!PyData.eqv (er t) (er t'))) s := by simp only [neD, if_pos h]; rfl
theorem y_in {t t' : D} {ds : List D} (e : seqD t' = some ds) (h : inC t ds = true) : inD t t' s = .ok (.bool ((erL ds).any fun y => PyData.eqv y (er t))) s := by simp only [inD, e, if_pos h]; rfl
theorem y_nin {t t' : D} {ds : List D} (e : seqD t' = some ds) (h : inC t ds = true) : ninD t t' s = .ok (.bool (!(erL ds).any fun y => PyData.eqv y (er t))) s := by simp only [ninD, e, if_pos h]; rfl
theorem y_ixT {ds : List D} {i : Int} : ixD (.tup ds) (.int i) s = optM (atI ds i) s := (rfl)
theorem y_ixL {l : Nat} {ds : List D} {i : Int} : ixD (.lst l ds) (.int i) s = optM (atI ds i) s := (rfl)
theorem y_ixR {ds : List D} {i : Int} : ixD (.ro ds) (.int i) s = optM (atI ds i) s := (rfl)
theorem y_opt {d : D} : optM (some d) s = .ok d s := (rfl)
theorem y_slT {ds : List D} {lo hi : Option Int} : slD (.tup ds) lo hi s = .ok (.tup (cutA ds lo hi)) s := (rfl)
theorem y_slL {l : Nat} {ds : List D} {lo hi : Option Int} : slD (.lst l ds) lo hi s = .ok (.lst s.n (cutA ds lo hi)) s.nxt := (rfl)
theorem y_tup {ts : List D} (h : ts.length ≤ sizeLine) : tupD ts s = .ok (.tup ts) s := by simp only [tupD, if_pos h]; rfl
theorem y_lst {ts : List D} (h : ts.length ≤ sizeLine) : lstM ts s = .ok (.lst s.n ts) s.nxt := by simp only [lstM, if_pos h]; rfl
theorem y_lenT {ds : List D} : lenD [.tup ds] s = .ok (.int ds.length) s := (rfl)
theorem y_lenL {l : Nat} {ds : List D} : lenD [.lst l ds] s = .ok (.int ds.length) s := (rfl)
theorem y_lenR {ds : List D} : lenD [.ro ds] s = .ok (.int ds.length) s := (rfl)
theorem y_abs {i : Int} : absD [.int i] s = .ok (.int (if i < 0 then -i else i)) s := (rfl)
theorem y_min {i j : Int} : minD [.int i, .int j] s = .ok (.int (if j < i then j else i)) s := (rfl)
theorem y_max {i j : Int} : maxD [.int i, .int j] s = .ok (.int (if j > i then j else i)) s := (rfl)
theorem y_int {i : Int} : intD [.int i] s = .ok (.int i) s := (rfl)
theorem y_intB {b : Bool} : intD [.bool b] s = .ok (.int (if b then 1 else 0)) s := (rfl)
theorem y_tupT {ds : List D} : tupF [.tup ds] s = .ok (.tup ds) s := (rfl)
theorem y_tupL {l : Nat} {ds : List D} : tupF [.lst l ds] s = .ok (.tup ds) s := (rfl)
theorem y_listT {ds : List D} : listF [.tup ds] s = .ok (.lst s.n ds) s.nxt := (rfl)
theorem y_listL {l : Nat} {ds : List D} : listF [.lst l ds] s = .ok (.lst s.n ds) s.nxt := (rfl)
theorem y_all {l : Nat} {ds : List D} {bs : List Bool} (h : boolsD ds = some bs) : allD [.lst l ds] s = .ok (.bool (bs.all id)) s := by simp only [allD, h]; rfl
theorem y_any {l : Nat} {ds : List D} {bs : List Bool} (h : boolsD ds = some bs) : anyD [.lst l ds] s = .ok (.bool (bs.any id)) s := by simp only [anyD, h]; rfl
theorem x_seq {a b : MS} : seqS a b s = (a s).sq b := by
  unfold seqS RS.sq
  cases a s <;> rfl
theorem x_lift {m : M α} {f : α → MS} : lift m f s = (m s).lf f := (rfl)
theorem x_sNx : sNx s = .nx s := (rfl)
theorem x_sBk : sBk s = .bk s := (rfl)
theorem x_sCt : sCt s = .ct s := (rfl)
theorem x_sRet : sRet m s = (m s).lf fun d s1 => .rt d s1 := (rfl)
theorem x_sRetN : sRetN s = .rt .non s := (rfl)
theorem x_sExpr : sExpr m s = (m s).lf fun _ s1 => .nx s1 := (rfl)
theorem x_sIf {c : M Bool} {a b : MS} : sIf c a b s = (c s).lf fun k => iteS k a b := (rfl)
theorem x_sT {a b : MS} : iteS true a b s = a s := (rfl)
theorem x_sF {a b : MS} : iteS false a b s = b s := (rfl)
noncomputable def asgK (o : Option (List (Option D))) (s : Stt) : RS := match o with
  | some σ' => .nx { s with σ := σ' }
  | none => .no
theorem asgK_some {σ' : List (Option D)} : asgK (some σ') ⟨σ, tm, n⟩ = .nx ⟨σ', tm, n⟩ := (rfl)
theorem x_asg {g : Tg} : sAsg g m s = (m s).lf fun d s1 => asgK (asg g d s1.σ) s1 := by
  unfold sAsg lift Res.lf asgK
  cases m s with
  | ok d s1 => first | (dsimp only; cases asg g d s1.σ <;> rfl) | (dsimp only; done) | rfl
  | ex d s1 => rfl
  | no => rfl
theorem x_tri {me mo mi : M D} {g : D → D → D → MS} : mTri me mo mi g s = (me s).lf fun v s1 => (mo (s1.psh v)).lf fun o s2 => (mi (s2.psh o)).lf fun i s3 => (pop s3).lf fun o' s4 => (pop s4).lf fun v' s5 => g o' i v' s5 := (rfl)
theorem y_set {l : Nat} {ds : List D} {k : Int} {v : D} {j : Nat} (e : ixN ds.length k = some j) (h : l ∉ labs v) : setD (.lst l ds) (.int k) v s = .nx (s.put l (.lst l (ds.set j v))) := by simp only [setD, e, if_pos h]
theorem x_meth {mo : M D} {g : D → List D → M D} : mMeth mo ms g s = (mo s).bnd fun x s1 => (isL x s1).bnd fun _ s2 => (mArgs ms (s2.psh x)).bnd fun ys s3 => (pop s3).bnd fun x' s4 => g x' ys s4 := (rfl)
theorem x_isL {l : Nat} {ds : List D} : isL (.lst l ds) s = .ok () s := (rfl)
end
theorem at_nat {α : Type} {xs : List α} {i : Int} {d : α} (h0 : 0 ≤ i) (h : xs[i.toNat]? = some d) : atI xs i = some d := by
  obtain ⟨j, rfl⟩ := Int.eq_ofNat_of_zero_le h0
  exact atI_nat (by simpa using h)
end Mi
set_option maxHeartbeats 400000
namespace Mi
open PySem L2
noncomputable def pl (l : Nat) (d : D) : Nat → Option D := fun k => if k = l then some d else none
theorem put_pl {σ tm : List (Option D)} {n l : Nat} {d : D} : Stt.put ⟨σ, tm, n⟩ l d = ⟨rpO (pl l d) σ, rpO (pl l d) tm, n⟩ := (rfl)
theorem rp_fresh {l : Nat} {d t : D} (h : l ∉ labs t) : rp (pl l d) t = t := rp_id t fun k hk => by
  unfold pl; rw [if_neg]; intro e; subst e; exact h hk
theorem rpO_nil {f : Nat → Option D} : rpO f [] = [] := (rfl)
theorem rpO_none {f : Nat → Option D} {r : List (Option D)} : rpO f (none :: r) = none :: rpO f r := (rfl)
theorem rpO_some {f : Nat → Option D} {d : D} {r : List (Option D)} : rpO f (some d :: r) = some (rp f d) :: rpO f r := (rfl)
theorem rp_bag {l : Nat} {d : D} {b : List D} : rp (pl l d) (.lst l b) = d := by simp only [rp, pl, if_true]
theorem rp_int {f : Nat → Option D} {i : Int} : rp f (.int i) = .int i := (rfl)
theorem rp_str {f : Nat → Option D} {i : Str} : rp f (.str i) = .str i := (rfl)
theorem rp_bool {f : Nat → Option D} {i : Bool} : rp f (.bool i) = .bool i := (rfl)
theorem rp_non {f : Nat → Option D} : rp f .non = .non := (rfl)
theorem rp_tup {f : Nat → Option D} {ds : List D} : rp f (.tup ds) = .tup (rpL f ds) := (rfl)
theorem rpL_nil {f : Nat → Option D} : rpL f [] = [] := (rfl)
theorem rpL_cons {f : Nat → Option D} {d : D} {ds : List D} : rpL f (d :: ds) = rp f d :: rpL f ds := (rfl)
mutual
theorem findT_none {l : Nat} : ∀ t : D, l ∉ labs t → findT l t = none
  | .non, _ => rfl
  | .bool _, _ => rfl
  | .int _, _ => rfl
  | .str _, _ => rfl
  | .tup ds, h => by simp only [labs] at h; simp only [findT]; exact findL_none ds h
  | .ro ds, h => by simp only [labs] at h; simp only [findT]; exact findL_none ds h
  | .lst k ds, h => by
    simp only [labs, List.mem_cons, not_or] at h; simp only [findT]; rw [if_neg fun e => h.1 e.symm]; exact findL_none ds h.2
  | .dct k ks ds, h => by
    simp only [labs, List.mem_cons, List.mem_append, not_or] at h; simp only [findT]; rw [if_neg fun e => h.1 e.symm]; exact findL_none ds h.2.2
  | .obj k c ks ds, h => by
    simp only [labs, List.mem_cons, not_or] at h; simp only [findT]; rw [if_neg fun e => h.1 e.symm]; exact findL_none ds h.2
theorem findL_none {l : Nat} : ∀ t : List D, l ∉ labsL t → findL l t = none
  | [], _ => rfl
  | d :: ds, h => by
    simp only [labsL, List.mem_append, not_or] at h
    simp only [findL, findT_none d h.1, findL_none ds h.2]
end
theorem callK_bag {t : D} {l n' n : Nat} {b b' r : List D} {σ tm : List (Option D)} (hb : labsL b = []) (hb' : labsL b' = []) (hr : labsL r = []) (f1 : rpO (pl l (.lst l b)) σ = σ) (f2 : rpO (pl l (.lst l b)) tm = tm) :
    callK (.ok t (.lst l b' :: r) n') (.lst l b :: r) ⟨σ, tm, n⟩ = .ok t ⟨rpO (pl l (.lst l b')) σ, rpO (pl l (.lst l b')) tm, n'⟩ := by
  have e : (fun k => findL k (.lst l b' :: r)) = pl l (.lst l b') := by
    funext k
    simp only [findL, findT, pl]
    by_cases h : l = k
    · subst h; rw [if_pos rfl, if_pos rfl]
    · rw [if_neg h, if_neg fun q => h q.symm, findL_none b' (by rw [hb']; exact List.not_mem_nil), findL_none r (by rw [hr]; exact List.not_mem_nil)]
  unfold callK
  by_cases h : (D.lst l b' :: r) = (D.lst l b :: r)
  · have hh : b' = b := by injection h with h _; injection h
    subst hh
    simp only [if_true]
    rw [f1, f2]
  · simp only [if_neg h]
    rw [if_pos, e]
    intro k _ hk
    simp only [labsL, labs, hb, hr, List.append_nil, List.mem_singleton] at hk
    subst hk
    have := congrFun e k
    rw [show findL k (D.lst k b' :: r) = pl k (D.lst k b') k from this]; simp [pl]
end Mi
namespace Mi
open PySem L2
theorem x_for {mi : M ItK} {g : Tg} {b : MS} {s : Stt} : sFor mi g b s = (mi s).lf fun K s => forGo K g b (K.len s.tm) 0 s := (rfl)
theorem x_rng1 {ms : List (M D)} {s : Stt} : mRng1 ms s = (mArgs ms s).bnd rng1 := (rfl)
theorem y_rng1 {j : Int} {s : Stt} (h : -(2 ^ 62) ≤ j ∧ j < 2 ^ 62) : rng1 [.int j] s = .ok (kRng 0 j.toNat) s := by simp only [rng1, if_pos h]; rfl
theorem x_rlen {lo : Int} {N : Nat} {tm : List (Option D)} : (kRng lo N).len tm = N := (rfl)
theorem for_rng {P : Nat → Stt → Prop} {lo : Int} {N : Nat} {g : Tg} {b : MS}
    (body : ∀ i, i < N → ∀ s, P i s → ∃ σ', asg g (.int (lo + i)) s.σ = some σ' ∧ ∃ s', b { s with σ := σ' } = .nx s' ∧ P (i + 1) s') :
    ∀ (f i : Nat) (s : Stt), i + f = N → P i s → ∃ s', forGo (kRng lo N) g b f i s = .nx s' ∧ P N s' := by
  intro f
  induction f with
  | zero =>
    intro i s hi h
    have e : i = N := by omega
    subst e
    refine ⟨s, ?_, h⟩
    unfold forGo
    simp only [kRng, Nat.lt_irrefl, if_false]
    rfl
  | succ f ih =>
    intro i s hi h
    have hl : i < N := by omega
    obtain ⟨σ', e1, s', e2, h'⟩ := body i hl s h
    obtain ⟨s2, e3, h2⟩ := ih (i + 1) s' (by omega) h'
    refine ⟨s2, ?_, h2⟩
    unfold forGo
    simp only [kRng, if_pos hl, e1, e2]
    exact e3
mutual
theorem rp_rp {l : Nat} {b : List D} {d : D} : ∀ t : D, rp (pl l d) (rp (pl l (.lst l b)) t) = rp (pl l d) t
  | .non => rfl
  | .bool _ => rfl
  | .int _ => rfl
  | .str _ => rfl
  | .tup ds => by simp only [rp]; rw [rpL_rp ds]
  | .ro ds => by simp only [rp]; rw [rpL_rp ds]
  | .lst k ds => by
    by_cases h : k = l
    · subst h; simp only [rp, pl, if_true]
    · have e : ∀ x, pl l x k = none := fun x => by simp only [pl, if_neg h]
      simp only [rp, e]; rw [rpL_rp ds]
  | .dct k ks ds => by
    by_cases h : k = l
    · subst h; simp only [rp, pl, if_true]
    · have e : ∀ x, pl l x k = none := fun x => by simp only [pl, if_neg h]
      simp only [rp, e]; rw [rpL_rp ds]
  | .obj k c ks ds => by
    by_cases h : k = l
    · subst h; simp only [rp, pl, if_true]
    · have e : ∀ x, pl l x k = none := fun x => by simp only [pl, if_neg h]
      simp only [rp, e]; rw [rpL_rp ds]
theorem rpL_rp {l : Nat} {b : List D} {d : D} : ∀ t : List D, rpL (pl l d) (rpL (pl l (.lst l b)) t) = rpL (pl l d) t
  | [] => rfl
  | t :: ts => by simp only [rpL]; rw [rp_rp t, rpL_rp ts]
end
theorem rpO_rp {l : Nat} {b : List D} {d : D} : ∀ t : List (Option D), rpO (pl l d) (rpO (pl l (.lst l b)) t) = rpO (pl l d) t
  | [] => rfl
  | none :: ts => by simp only [rpO]; rw [rpO_rp ts]
  | some t :: ts => by simp only [rpO]; rw [rp_rp t, rpO_rp ts]
theorem rpO_app {f : Nat → Option D} : ∀ (a b : List (Option D)), rpO f (a ++ b) = rpO f a ++ rpO f b
  | [], b => rfl
  | none :: a, b => by simp only [List.cons_append, rpO, rpO_app a b]
  | some d :: a, b => by simp only [List.cons_append, rpO, rpO_app a b]
theorem rpO_len {f : Nat → Option D} : ∀ (a : List (Option D)), (rpO f a).length = a.length
  | [] => rfl
  | none :: a => by simp only [rpO, List.length_cons, rpO_len a]
  | some d :: a => by simp only [rpO, List.length_cons, rpO_len a]
theorem labsO_map : ∀ ds : List D, labsO (ds.map some) = labsL ds
  | [] => rfl
  | d :: ds => by simp only [List.map_cons, labsO, labsL, labsO_map ds]
theorem labsL_app : ∀ a b : List D, labsL (a ++ b) = labsL a ++ labsL b
  | [], b => rfl
  | d :: ds, b => by simp only [List.cons_append, labsL, labsL_app ds b, List.append_assoc]
theorem mem_rev {l : Nat} : ∀ ds : List D, l ∈ labsL ds.reverse ↔ l ∈ labsL ds
  | [] => Iff.rfl
  | d :: ds => by simp only [List.reverse_cons, labsL_app, labsL, List.mem_append, mem_rev ds, List.append_nil]; exact Or.comm
theorem rpO_fresh {l : Nat} {d : D} {ds : List D} (h : l ∉ labsL ds) : rpO (pl l d) (ds.reverse.map some) = ds.reverse.map some := rpO_id _ fun k hk => by
  rw [labsO_map, mem_rev] at hk
  unfold pl; rw [if_neg]; intro e; subst e; exact h hk
theorem compGo_rng {me : M D} {N : Nat} {cap σ0 tm0 : List (Option D)} {l ol : Nat} {Bg : List D → Prop} {Q : Nat → D → Prop} (mono : ∀ a b, a ≤ b → ∀ y, Q a y → Q b y) (hol : σ0.length = ol) (hz : N < sizeLine)
    (hme : ∀ i, i < N → ∀ b tm n, Bg b → l < n → rpO (pl l (.lst l b)) tm = tm → ∃ y b' n', Bg b' ∧ Q n' y ∧ n ≤ n' ∧ l ∉ labs y ∧ me ⟨some (.int (0 + (i : Nat))) :: rpO (pl l (.lst l b)) cap, tm, n⟩ = .ok y ⟨some (.int (0 + (i : Nat))) :: rpO (pl l (.lst l b')) cap, rpO (pl l (.lst l b')) tm, n'⟩) :
    ∀ (f : Nat) (acc : List D) (o : Option D) (b : List D) (n : Nat), acc.length + f = N → Bg b → l < n → (∀ y ∈ acc, Q n y) → l ∉ labsL acc →
      ∃ ys b' n', ys.length = N ∧ (∀ y ∈ ys, Q n' y) ∧ l ∉ labsL ys ∧ Bg b' ∧ n ≤ n' ∧
        compGo (kRng 0 N) (.nm 0) (rt true) me ol f acc.length acc.length ⟨o :: rpO (pl l (.lst l b)) cap, (acc.reverse.map some) ++ (rpO (pl l (.lst l b)) σ0 ++ rpO (pl l (.lst l b)) tm0), n⟩ = .ok (.lst n' ys) ⟨rpO (pl l (.lst l b')) σ0, rpO (pl l (.lst l b')) tm0, n' + 1⟩ := by
  intro f
  induction f with
  | zero =>
    intro acc o b n hi hb hn hq hf
    have hi : acc.length = N := by omega
    refine ⟨acc, b, n, hi, hq, hf, hb, Nat.le_refl _, ?_⟩
    have l1 : (acc.reverse.map some).length = acc.length := by simp
    unfold compGo
    simp only [kRng, hi, Nat.lt_irrefl, if_false]
    rw [← hi, take_len _ _ _ l1]
    have e2 : (acc.reverse.map some).reverse = acc.map some := by simp
    rw [e2, allSome_map]
    simp only [Res.ok.injEq, true_and, Stt.mk.injEq, and_true]
    constructor
    · rw [drop_len _ _ _ l1, take_len _ _ _ (by rw [rpO_len]; exact hol)]
    · rw [← List.append_assoc, Nat.add_zero]
      exact drop_len _ _ _ (by simp [rpO_len, hol])
  | succ f ih =>
    intro acc o b n hi hb hn hq hf
    have hlt : acc.length < N := by omega
    unfold compGo
    simp only [kRng, if_pos hlt, asg, List.set_cons_zero, rt]
    rw [if_pos (by omega)]
    obtain ⟨y, b', n', h1, h2, h3, h4, h5⟩ := hme acc.length hlt b ((acc.reverse.map some) ++ (rpO (pl l (.lst l b)) σ0 ++ rpO (pl l (.lst l b)) tm0)) n hb hn (by rw [rpO_app, rpO_app, rpO_rp, rpO_rp, rpO_fresh hf])
    rw [h5]
    obtain ⟨ys, b2, n2, g1, g2, g3, g4, g5, g6⟩ := ih (acc ++ [y]) (some (.int (0 + (acc.length : Nat)))) b' n' (by simp; omega) h1 (by omega) (by
      intro z hz
      rcases List.mem_append.mp hz with hz | hz
      · exact mono _ _ h3 z (hq z hz)
      · rw [List.mem_singleton.mp hz]; exact h2) (by
      rw [labsL_app]
      simp only [labsL, List.append_nil, List.mem_append, not_or]
      exact ⟨hf, h4⟩)
    refine ⟨ys, b2, n2, g1, g2, g3, g4, by omega, ?_⟩
    rw [← g6]
    simp only [Stt.psh, rpO_app, rpO_rp, rpO_fresh hf, List.length_append, List.length_cons, List.length_nil, Nat.zero_add, List.reverse_append, List.reverse_cons, List.reverse_nil, List.nil_append, List.map_append, List.map_cons, List.map_nil, List.cons_append]
    rfl
theorem mComp_rng {ms : List (M D)} {me : M D} {N : Nat} {ix : List Nat} {s : Stt} {l n : Nat} {j : Int} {σ0 tm0 : List (Option D)} {b : List D} {Bg : List D → Prop} {Q : Nat → D → Prop} (mono : ∀ a b, a ≤ b → ∀ y, Q a y → Q b y) (hms : mArgs ms s = .ok [.int j] ⟨σ0, tm0, n⟩) (hj : j.toNat = N) (hj' : -(2 ^ 62) ≤ j ∧ j < 2 ^ 62) (hz : N < sizeLine)
    (hb : Bg b) (hn : l < n) (f1 : rpO (pl l (.lst l b)) σ0 = σ0) (f2 : rpO (pl l (.lst l b)) tm0 = tm0) (f3 : rpO (pl l (.lst l b)) (ix.map fun i => (σ0[i]?).getD none) = ix.map fun i => (σ0[i]?).getD none)
    (hme : ∀ i, i < N → ∀ b tm n, Bg b → l < n → rpO (pl l (.lst l b)) tm = tm → ∃ y b' n', Bg b' ∧ Q n' y ∧ n ≤ n' ∧ l ∉ labs y ∧ me ⟨some (.int (0 + (i : Nat))) :: rpO (pl l (.lst l b)) (ix.map fun i => (σ0[i]?).getD none), tm, n⟩ = .ok y ⟨some (.int (0 + (i : Nat))) :: rpO (pl l (.lst l b')) (ix.map fun i => (σ0[i]?).getD none), rpO (pl l (.lst l b')) tm, n'⟩) :
    ∃ ys b' n', ys.length = N ∧ (∀ y ∈ ys, Q n' y) ∧ l ∉ labsL ys ∧ Bg b' ∧ n ≤ n' ∧ mComp (mRng1 ms) (.nm 0) (rt true) me 1 ix s = .ok (.lst n' ys) ⟨rpO (pl l (.lst l b')) σ0, rpO (pl l (.lst l b')) tm0, n' + 1⟩ := by
  obtain ⟨ys, b', n', h1, h2, h3, h4, h5, h6⟩ := compGo_rng (me := me) (N := N) (cap := ix.map fun i => (σ0[i]?).getD none) (σ0 := σ0) (tm0 := tm0) (l := l) (Bg := Bg) (Q := Q) mono rfl hz hme N [] none b n (by simp) hb hn (by intro y h; cases h) (by simp [labsL])
  refine ⟨ys, b', n', h1, h2, h3, h4, h5, ?_⟩
  unfold mComp
  rw [x_bd, x_rng1, hms, bnd_ok, y_rng1 hj', bnd_ok, hj]
  rw [f1, f2, f3] at h6
  exact h6
end Mi
namespace Mi
open PySem L2
inductive All2 (Q : D → D → Prop) : List D → List D → Prop
  | nil : All2 Q [] []
  | cons {a b : D} {as bs : List D} : Q a b → All2 Q as bs → All2 Q (a :: as) (b :: bs)
theorem All2.snoc {Q : D → D → Prop} {a b : D} : ∀ {as bs : List D}, All2 Q as bs → Q a b → All2 Q (as ++ [a]) (bs ++ [b])
  | _, _, .nil, h => .cons h .nil
  | _, _, .cons h1 h2, h => .cons h1 (h2.snoc h)
theorem All2.len {Q : D → D → Prop} : ∀ {as bs : List D}, All2 Q as bs → as.length = bs.length
  | _, _, .nil => rfl
  | _, _, .cons _ h => by simp only [List.length_cons, h.len]
theorem All2.mono {Q R : D → D → Prop} (h : ∀ a b, Q a b → R a b) : ∀ {as bs : List D}, All2 Q as bs → All2 R as bs
  | _, _, .nil => .nil
  | _, _, .cons h1 h2 => .cons (h _ _ h1) (h2.mono h)
theorem compGo_lst {me : M D} {Q : Nat → D → D → Prop} (mono : ∀ a b, a ≤ b → ∀ d y, Q a d y → Q b d y) {l : Nat} {ds : List D} {fr σ0 tm0 : List (Option D)} {ol : Nat} (hol : σ0.length = ol) (hz : ds.length < sizeLine)
    (hme : ∀ d ∈ ds, ∀ tm n, ∃ y n', n ≤ n' ∧ Q n' d y ∧ me ⟨some d :: fr, tm, n⟩ = .ok y ⟨some d :: fr, tm, n'⟩) :
    ∀ (f : Nat) (acc : List D) (o : Option D) (n : Nat), acc.length + f = ds.length → All2 (Q n) (ds.take acc.length) acc → ∃ ys n', All2 (Q n') ds ys ∧ n ≤ n' ∧ compGo kLst (.nm 0) (rt true) me ol f acc.length acc.length ⟨o :: fr, (acc.reverse.map some) ++ (σ0 ++ (some (.lst l ds) :: tm0)), n⟩ = .ok (.lst n' ys) ⟨σ0, tm0, n' + 1⟩ := by
  intro f
  induction f with
  | zero =>
    intro acc o n hi hq
    have hi : acc.length = ds.length := by omega
    rw [hi, List.take_length] at hq
    refine ⟨acc, n, hq, Nat.le_refl _, ?_⟩
    have l1 : (acc.reverse.map some).length = acc.length := by simp
    have e1 : ((acc.reverse.map some) ++ (σ0 ++ (some (D.lst l ds) :: tm0))).drop (acc.length + ol) = some (D.lst l ds) :: tm0 := by
      rw [← List.append_assoc]; exact drop_len _ _ _ (by simp [hol])
    have e0 : kLst.at' acc.length (((acc.reverse.map some) ++ (σ0 ++ (some (D.lst l ds) :: tm0))).drop (acc.length + ol)) = some none := by
      rw [e1]; show some ds[acc.length]? = _; rw [List.getElem?_eq_none (by omega)]
    unfold compGo
    simp only [e0, show kLst.k = 1 from rfl]
    rw [take_len _ _ _ l1]
    have e2 : (acc.reverse.map some).reverse = acc.map some := by simp
    rw [e2, allSome_map]
    simp only [Res.ok.injEq, true_and, Stt.mk.injEq, and_true]
    constructor
    · rw [drop_len _ _ _ l1, take_len _ _ _ hol]
    · have : ((acc.reverse.map some) ++ (σ0 ++ (some (D.lst l ds) :: tm0))).drop (acc.length + ol + 1) = (((acc.reverse.map some) ++ (σ0 ++ (some (D.lst l ds) :: tm0))).drop (acc.length + ol)).drop 1 := by rw [List.drop_drop]
      rw [this, e1]
      rfl
  | succ f ih =>
    intro acc o n hi hq
    have hlt : acc.length < ds.length := by omega
    have e1 : ((acc.reverse.map some) ++ (σ0 ++ (some (D.lst l ds) :: tm0))).drop (acc.length + ol) = some (D.lst l ds) :: tm0 := by
      rw [← List.append_assoc]; exact drop_len _ _ _ (by simp [hol])
    unfold compGo
    simp only [e1, kLst, lstAt, lstD, Option.map_some, List.getElem?_eq_getElem hlt, asg, List.set_cons_zero, rt]
    rw [if_pos (by omega)]
    obtain ⟨y, n1, hn1, q1, h1⟩ := hme ds[acc.length] (List.getElem_mem hlt) ((acc.reverse.map some) ++ (σ0 ++ (some (D.lst l ds) :: tm0))) n
    rw [h1]
    obtain ⟨ys, n2, g1, g2, g3⟩ := ih (acc ++ [y]) (some ds[acc.length]) n1 (by simp; omega) (by
      have e3 : ds.take (acc ++ [y]).length = ds.take acc.length ++ [ds[acc.length]] := by
        rw [List.length_append, List.length_singleton, List.take_add_one, List.getElem?_eq_getElem hlt]; rfl
      rw [e3]; exact (hq.mono (mono _ _ hn1)).snoc q1)
    refine ⟨ys, n2, g1, by omega, ?_⟩
    rw [← g3]
    simp only [Stt.psh, List.length_append, List.length_cons, List.length_nil, Nat.zero_add, List.reverse_append, List.reverse_cons, List.reverse_nil, List.nil_append, List.map_append, List.map_cons, List.map_nil, List.cons_append]
    rfl
theorem mComp_lst {mc me : M D} {Q : Nat → D → D → Prop} (mono : ∀ a b, a ≤ b → ∀ d y, Q a d y → Q b d y) {l : Nat} {ds : List D} {ix : List Nat} {s : Stt} {σ tm : List (Option D)} {n : Nat} (hc : mc s = .ok (.lst l ds) ⟨σ, tm, n⟩) (hz : ds.length < sizeLine)
    (hme : ∀ d ∈ ds, ∀ tm n, ∃ y n', n ≤ n' ∧ Q n' d y ∧ me ⟨some d :: (ix.map fun i => (σ[i]?).getD none), tm, n⟩ = .ok y ⟨some d :: (ix.map fun i => (σ[i]?).getD none), tm, n'⟩) :
    ∃ ys n', All2 (Q n') ds ys ∧ n ≤ n' ∧ mComp (mSeqI mc) (.nm 0) (rt true) me 1 ix s = .ok (.lst n' ys) ⟨σ, tm, n' + 1⟩ := by
  obtain ⟨ys, n', h1, h2, h3⟩ := compGo_lst (me := me) (Q := Q) mono (l := l) (ds := ds) (σ0 := σ) (tm0 := tm) rfl hz hme ds.length [] none n (by simp) .nil
  refine ⟨ys, n', h1, h2, ?_⟩
  unfold mComp mSeqI
  simp only [bd, hc, Stt.psh]
  simp only [List.map_nil, List.reverse_nil, List.nil_append, List.length_nil] at h3
  simp only [kLst, seqLen, compIn, List.replicate] at h3 ⊢
  exact h3
theorem x_seqI {m : M D} {s : Stt} {l : Nat} {ds : List D} {σ tm : List (Option D)} {n : Nat} (h : m s = .ok (.lst l ds) ⟨σ, tm, n⟩) : mSeqI m s = .ok kLst ⟨σ, some (.lst l ds) :: tm, n⟩ := by
  unfold mSeqI; rw [x_bd, h]; rfl
theorem for_lst {P : Stt → Prop} {l : Nat} {ds : List D} {g : Tg} {b : MS} {tm : List (Option D)} (hP : ∀ s, P s → s.tm = some (.lst l ds) :: tm)
    (body : ∀ d ∈ ds, ∀ s, P s → ∃ σ', asg g d s.σ = some σ' ∧ ∃ s', b { s with σ := σ' } = .nx s' ∧ P s') :
    ∀ (f i : Nat) (s : Stt), i + f = ds.length → P s → ∃ s', forGo kLst g b f i s = .nx (s'.popn 1) ∧ P s' := by
  intro f
  induction f with
  | zero =>
    intro i s hi h
    refine ⟨s, ?_, h⟩
    unfold forGo
    have e : kLst.at' i s.tm = some none := by rw [hP s h]; show some ds[i]? = _; rw [List.getElem?_eq_none (by omega)]
    simp only [e]
    rfl
  | succ f ih =>
    intro i s hi h
    have hl : i < ds.length := by omega
    obtain ⟨σ', e1, s', e2, h'⟩ := body ds[i] (List.getElem_mem hl) s h
    obtain ⟨s2, e3, h2⟩ := ih (i + 1) s' (by omega) h'
    refine ⟨s2, ?_, h2⟩
    unfold forGo
    have e : kLst.at' i s.tm = some (some ds[i]) := by rw [hP s h]; show some ds[i]? = _; rw [List.getElem?_eq_getElem hl]
    simp only [e, e1, e2]
    exact e3
end Mi
namespace Mi
open PySem L2
theorem compGo_gen {K : ItK} {mt : M Bool} {me : M D} {p : D → Bool} {g : D → D} {items : List D} {its fr σ0 tm0 : List (Option D)} {ol : Nat} (hk : its.length = K.k) (hol : σ0.length = ol) (hz : items.length < sizeLine) (hat : ∀ i rest, K.at' i (its ++ rest) = some items[i]?)
    (hmt : ∀ d ∈ items, ∀ tm n, ∃ n', n ≤ n' ∧ mt ⟨some d :: fr, tm, n⟩ = .ok (p d) ⟨some d :: fr, tm, n'⟩)
    (hme : ∀ d ∈ items, p d = true → ∀ tm n, ∃ n', n ≤ n' ∧ me ⟨some d :: fr, tm, n⟩ = .ok (g d) ⟨some d :: fr, tm, n'⟩) :
    ∀ (f i : Nat) (acc : List D) (o : Option D) (n : Nat), i + f = items.length → acc.length ≤ i → ∃ n', n ≤ n' ∧ compGo K (.nm 0) mt me ol f i acc.length ⟨o :: fr, (acc.reverse.map some) ++ (σ0 ++ (its ++ tm0)), n⟩ = .ok (.lst n' (acc ++ ((items.drop i).filter p).map g)) ⟨σ0, tm0, n' + 1⟩ := by
  intro f
  induction f with
  | zero =>
    intro i acc o n hi ha
    have hi : i = items.length := by omega
    refine ⟨n, Nat.le_refl _, ?_⟩
    have l1 : (acc.reverse.map some).length = acc.length := by simp
    have e1 : ((acc.reverse.map some) ++ (σ0 ++ (its ++ tm0))).drop (acc.length + ol) = its ++ tm0 := by
      rw [← List.append_assoc]; exact drop_len _ _ _ (by simp [hol])
    unfold compGo
    simp only [e1, hat, List.getElem?_eq_none (show items.length ≤ i by omega)]
    rw [take_len _ _ _ l1]
    have e2 : (acc.reverse.map some).reverse = acc.map some := by simp
    rw [e2, allSome_map]
    simp only [Res.ok.injEq, Stt.mk.injEq, and_true, List.drop_eq_nil_of_le (show items.length ≤ i by omega), List.filter_nil, List.map_nil, List.append_nil, true_and]
    constructor
    · rw [drop_len _ _ _ l1, take_len _ _ _ hol]
    · have : ((acc.reverse.map some) ++ (σ0 ++ (its ++ tm0))).drop (acc.length + ol + K.k) = (((acc.reverse.map some) ++ (σ0 ++ (its ++ tm0))).drop (acc.length + ol)).drop K.k := by rw [List.drop_drop]
      rw [this, e1]
      exact drop_len _ _ _ hk
  | succ f ih =>
    intro i acc o n hi ha
    have hlt : i < items.length := by omega
    have e1 : ((acc.reverse.map some) ++ (σ0 ++ (its ++ tm0))).drop (acc.length + ol) = its ++ tm0 := by
      rw [← List.append_assoc]; exact drop_len _ _ _ (by simp [hol])
    obtain ⟨n1, hn1, h1⟩ := hmt items[i] (List.getElem_mem hlt) ((acc.reverse.map some) ++ (σ0 ++ (its ++ tm0))) n
    rw [List.drop_eq_getElem_cons hlt, List.filter_cons]
    unfold compGo
    simp only [e1, hat, List.getElem?_eq_getElem hlt, asg, List.set_cons_zero, h1]
    cases hp : p items[i] with
    | false =>
      obtain ⟨n2, hn2, h2⟩ := ih (i + 1) acc (some items[i]) n1 (by omega) (by omega)
      exact ⟨n2, by omega, h2⟩
    | true =>
      obtain ⟨n2, hn2, h2⟩ := hme items[i] (List.getElem_mem hlt) hp ((acc.reverse.map some) ++ (σ0 ++ (its ++ tm0))) n1
      obtain ⟨n3, hn3, h3⟩ := ih (i + 1) (acc ++ [g items[i]]) (some items[i]) n2 (by omega) (by simp; omega)
      refine ⟨n3, by omega, ?_⟩
      simp only [if_pos (show acc.length < sizeLine by omega), h2]
      simp only [List.length_append, List.length_cons, List.length_nil, Nat.zero_add, List.reverse_append, List.reverse_cons, List.reverse_nil, List.nil_append, List.map_append, List.map_cons, List.map_nil, List.cons_append, List.append_assoc] at h3 ⊢
      exact h3
theorem mComp_gen {mi : M ItK} {K : ItK} {mt : M Bool} {me : M D} {p : D → Bool} {g : D → D} {items : List D} {its : List (Option D)} {ix : List Nat} {s : Stt} {σ tm : List (Option D)} {n : Nat} (hc : mi s = .ok K ⟨σ, its ++ tm, n⟩) (hk : its.length = K.k) (hz : items.length < sizeLine) (hat : ∀ i rest, K.at' i (its ++ rest) = some items[i]?) (hlen : K.len (its ++ tm) = items.length)
    (hmt : ∀ d ∈ items, ∀ tm n, ∃ n', n ≤ n' ∧ mt ⟨some d :: (ix.map fun i => (σ[i]?).getD none), tm, n⟩ = .ok (p d) ⟨some d :: (ix.map fun i => (σ[i]?).getD none), tm, n'⟩)
    (hme : ∀ d ∈ items, p d = true → ∀ tm n, ∃ n', n ≤ n' ∧ me ⟨some d :: (ix.map fun i => (σ[i]?).getD none), tm, n⟩ = .ok (g d) ⟨some d :: (ix.map fun i => (σ[i]?).getD none), tm, n'⟩) :
    ∃ n', n ≤ n' ∧ mComp mi (.nm 0) mt me 1 ix s = .ok (.lst n' ((items.filter p).map g)) ⟨σ, tm, n' + 1⟩ := by
  obtain ⟨n', h2, h3⟩ := compGo_gen (K := K) (mt := mt) (me := me) (σ0 := σ) (tm0 := tm) hk rfl hz hat hmt hme items.length 0 [] none n (by simp) (by simp)
  refine ⟨n', h2, ?_⟩
  unfold mComp
  simp only [bd, hc, hlen]
  simp only [List.map_nil, List.reverse_nil, List.nil_append, List.length_nil, List.drop_zero] at h3
  exact h3
theorem mComp_lstG {mc : M D} {mt : M Bool} {me : M D} {p : D → Bool} {g : D → D} {l : Nat} {ds : List D} {ix : List Nat} {s : Stt} {σ tm : List (Option D)} {n : Nat} (hc : mc s = .ok (.lst l ds) ⟨σ, tm, n⟩) (hz : ds.length < sizeLine)
    (hmt : ∀ d ∈ ds, ∀ tm n, ∃ n', n ≤ n' ∧ mt ⟨some d :: (ix.map fun i => (σ[i]?).getD none), tm, n⟩ = .ok (p d) ⟨some d :: (ix.map fun i => (σ[i]?).getD none), tm, n'⟩)
    (hme : ∀ d ∈ ds, p d = true → ∀ tm n, ∃ n', n ≤ n' ∧ me ⟨some d :: (ix.map fun i => (σ[i]?).getD none), tm, n⟩ = .ok (g d) ⟨some d :: (ix.map fun i => (σ[i]?).getD none), tm, n'⟩) :
    ∃ n', n ≤ n' ∧ mComp (mSeqI mc) (.nm 0) mt me 1 ix s = .ok (.lst n' ((ds.filter p).map g)) ⟨σ, tm, n' + 1⟩ :=
  mComp_gen (K := kLst) (its := [some (.lst l ds)]) (items := ds) (by unfold mSeqI; rw [x_bd, hc]; rfl) rfl hz (fun i rest => rfl) rfl hmt hme
end Mi
namespace Mi
open PySem L2
noncomputable def enu (ds : List D) (i : Nat) : List (Nat × D) := ((ds.drop i).zipIdx i).map fun q => (q.2, q.1)
theorem compGo_enu {mt : M Bool} {me : M D} {p : Nat → D → Bool} {g : Nat → D → D} {ds : List D} {fr σ0 tm0 : List (Option D)} {ol : Nat} (hol : σ0.length = ol) (hz : ds.length < sizeLine)
    (hmt : ∀ (k : Nat) (d : D), d ∈ ds → ∀ tm n, ∃ n', n ≤ n' ∧ mt ⟨some (.int k) :: some d :: fr, tm, n⟩ = .ok (p k d) ⟨some (.int k) :: some d :: fr, tm, n'⟩)
    (hme : ∀ (k : Nat) (d : D), d ∈ ds → p k d = true → ∀ tm n, ∃ n', n ≤ n' ∧ me ⟨some (.int k) :: some d :: fr, tm, n⟩ = .ok (g k d) ⟨some (.int k) :: some d :: fr, tm, n'⟩) :
    ∀ (f i : Nat) (acc : List D) (o o' : Option D) (n : Nat), i + f = ds.length → acc.length ≤ i → ∃ n', n ≤ n' ∧ compGo kEnmT (.tp [.nm 0, .nm 1]) mt me ol f i acc.length ⟨o :: o' :: fr, (acc.reverse.map some) ++ (σ0 ++ (some (.tup ds) :: tm0)), n⟩ = .ok (.lst n' (acc ++ ((enu ds i).filter fun q => p q.1 q.2).map fun q => g q.1 q.2)) ⟨σ0, tm0, n' + 1⟩ := by
  intro f
  induction f with
  | zero =>
    intro i acc o o' n hi ha
    have hi : i = ds.length := by omega
    refine ⟨n, Nat.le_refl _, ?_⟩
    have l1 : (acc.reverse.map some).length = acc.length := by simp
    have e1 : ((acc.reverse.map some) ++ (σ0 ++ (some (D.tup ds) :: tm0))).drop (acc.length + ol) = some (D.tup ds) :: tm0 := by
      rw [← List.append_assoc]; exact drop_len _ _ _ (by simp [hol])
    have e0 : kEnmT.at' i (some (D.tup ds) :: tm0) = some none := by
      show some ((ds[i]?).map _) = _
      rw [List.getElem?_eq_none (show ds.length ≤ i by omega)]; rfl
    unfold compGo
    simp only [e1, e0]
    rw [take_len _ _ _ l1]
    have e2 : (acc.reverse.map some).reverse = acc.map some := by simp
    rw [e2, allSome_map]
    simp only [Res.ok.injEq, Stt.mk.injEq, and_true, enu, List.drop_eq_nil_of_le (show ds.length ≤ i by omega), List.zipIdx_nil, List.filter_nil, List.map_nil, List.append_nil, true_and]
    constructor
    · rw [drop_len _ _ _ l1, take_len _ _ _ hol]
    · have : ((acc.reverse.map some) ++ (σ0 ++ (some (D.tup ds) :: tm0))).drop (acc.length + ol + kEnmT.k) = (((acc.reverse.map some) ++ (σ0 ++ (some (D.tup ds) :: tm0))).drop (acc.length + ol)).drop kEnmT.k := by rw [List.drop_drop]
      rw [this, e1]
      rfl
  | succ f ih =>
    intro i acc o o' n hi ha
    have hlt : i < ds.length := by omega
    have e1 : ((acc.reverse.map some) ++ (σ0 ++ (some (D.tup ds) :: tm0))).drop (acc.length + ol) = some (D.tup ds) :: tm0 := by
      rw [← List.append_assoc]; exact drop_len _ _ _ (by simp [hol])
    have e0 : kEnmT.at' i (some (D.tup ds) :: tm0) = some (some (.tup [.int i, ds[i]])) := by
      show some ((ds[i]?).map _) = _
      rw [List.getElem?_eq_getElem hlt]; rfl
    obtain ⟨n1, hn1, h1⟩ := hmt i ds[i] (List.getElem_mem hlt) ((acc.reverse.map some) ++ (σ0 ++ (some (D.tup ds) :: tm0))) n
    have e3 : enu ds i = (i, ds[i]) :: enu ds (i + 1) := by
      unfold enu
      rw [List.drop_eq_getElem_cons hlt, List.zipIdx_cons, List.map_cons]
    rw [e3, List.filter_cons]
    unfold compGo
    simp only [e1, e0, asg, asgL, List.set_cons_zero, List.set_cons_succ, h1]
    cases hp : p i ds[i] with
    | false =>
      obtain ⟨n2, hn2, h2⟩ := ih (i + 1) acc (some (.int i)) (some ds[i]) n1 (by omega) (by omega)
      exact ⟨n2, by omega, h2⟩
    | true =>
      obtain ⟨n2, hn2, h2⟩ := hme i ds[i] (List.getElem_mem hlt) hp ((acc.reverse.map some) ++ (σ0 ++ (some (D.tup ds) :: tm0))) n1
      obtain ⟨n3, hn3, h3⟩ := ih (i + 1) (acc ++ [g i ds[i]]) (some (.int i)) (some ds[i]) n2 (by omega) (by simp; omega)
      refine ⟨n3, by omega, ?_⟩
      simp only [if_pos (show acc.length < sizeLine by omega), h2]
      simp only [List.length_append, List.length_cons, List.length_nil, Nat.zero_add, List.reverse_append, List.reverse_cons, List.reverse_nil, List.nil_append, List.map_append, List.map_cons, List.map_nil, List.cons_append, List.append_assoc] at h3 ⊢
      exact h3
theorem mComp_enu {ms : List (M D)} {mt : M Bool} {me : M D} {p : Nat → D → Bool} {g : Nat → D → D} {ds : List D} {ix : List Nat} {s : Stt} {σ tm : List (Option D)} {n : Nat} (hc : mArgs ms s = .ok [.tup ds] ⟨σ, tm, n⟩) (hz : ds.length < sizeLine)
    (hmt : ∀ (k : Nat) (d : D), d ∈ ds → ∀ tm n, ∃ n', n ≤ n' ∧ mt ⟨some (.int k) :: some d :: (ix.map fun i => (σ[i]?).getD none), tm, n⟩ = .ok (p k d) ⟨some (.int k) :: some d :: (ix.map fun i => (σ[i]?).getD none), tm, n'⟩)
    (hme : ∀ (k : Nat) (d : D), d ∈ ds → p k d = true → ∀ tm n, ∃ n', n ≤ n' ∧ me ⟨some (.int k) :: some d :: (ix.map fun i => (σ[i]?).getD none), tm, n⟩ = .ok (g k d) ⟨some (.int k) :: some d :: (ix.map fun i => (σ[i]?).getD none), tm, n'⟩) :
    ∃ n', n ≤ n' ∧ mComp (mEnm ms) (.tp [.nm 0, .nm 1]) mt me 2 ix s = .ok (.lst n' (((enu ds 0).filter fun q => p q.1 q.2).map fun q => g q.1 q.2)) ⟨σ, tm, n' + 1⟩ := by
  obtain ⟨n', h2, h3⟩ := compGo_enu (mt := mt) (me := me) (σ0 := σ) (tm0 := tm) rfl hz hmt hme ds.length 0 [] none none n (by simp) (by simp)
  refine ⟨n', h2, ?_⟩
  have e1 : mEnm ms s = .ok kEnmT ⟨σ, some (.tup ds) :: tm, n⟩ := by
    show bd (mArgs ms) enmI s = _
    rw [x_bd, hc, bnd_ok]; rfl
  have e2 : kEnmT.len (some (D.tup ds) :: tm) = ds.length := rfl
  unfold mComp
  simp only [bd, e1, e2]
  simp only [List.map_nil, List.reverse_nil, List.nil_append, List.length_nil, List.drop_zero] at h3
  exact h3
theorem enu_cut : ∀ (ds : List D) (j a b : Nat), a ≤ b → ((ds.zipIdx j).filter fun q => !(decide (a ≤ q.2) && decide (q.2 < b))).map (fun q => q.1) = ds.take (a - j) ++ ds.drop (b - j)
  | [], j, a, b, _ => by simp
  | d :: ds, j, a, b, h => by
    rw [List.zipIdx_cons, List.filter_cons]
    have ih := enu_cut ds (j + 1) a b h
    by_cases h1 : a ≤ j
    · by_cases h2 : j < b
      · simp only [h1, h2, decide_true, Bool.and_self, Bool.not_true, Bool.false_eq_true, if_false]
        rw [ih, show a - j = 0 by omega, show a - (j + 1) = 0 by omega, show b - j = (b - (j + 1)) + 1 by omega]
        simp
      · simp only [h2, decide_false, Bool.and_false, Bool.not_false, if_true, List.map_cons]
        rw [ih, show a - j = 0 by omega, show a - (j + 1) = 0 by omega, show b - j = 0 by omega, show b - (j + 1) = 0 by omega]
        simp
    · simp only [h1, decide_false, Bool.false_and, Bool.not_false, if_true, List.map_cons]
      rw [ih, show a - j = (a - (j + 1)) + 1 by omega, show b - j = (b - (j + 1)) + 1 by omega]
      simp
theorem enu_out (ds : List D) (a b : Nat) (h : a ≤ b) : ((enu ds 0).filter fun q => !(decide ((a : Int) ≤ (q.1 : Int)) && decide ((q.1 : Int) < (b : Int)))).map (fun q => q.2) = ds.take a ++ ds.drop b := by
  have := enu_cut ds 0 a b h
  simp only [Nat.sub_zero] at this
  rw [← this]
  unfold enu
  rw [List.drop_zero, List.filter_map, List.map_map]
  simp only [Function.comp_def, Int.ofNat_le, Int.ofNat_lt]
theorem compGo_rel {K : ItK} {me : M D} {Q : Nat → D → D → Prop} (mono : ∀ a b, a ≤ b → ∀ d y, Q a d y → Q b d y) {items : List D} {its fr σ0 tm0 : List (Option D)} {ol : Nat} (hk : its.length = K.k) (hol : σ0.length = ol) (hz : items.length < sizeLine) (hat : ∀ i rest, K.at' i (its ++ rest) = some items[i]?)
    (hme : ∀ d ∈ items, ∀ tm n, ∃ y n', n ≤ n' ∧ Q n' d y ∧ me ⟨some d :: fr, tm, n⟩ = .ok y ⟨some d :: fr, tm, n'⟩) :
    ∀ (f i : Nat) (acc : List D) (o : Option D) (n : Nat), i + f = items.length → All2 (Q n) (items.take i) acc → ∃ ys n', All2 (Q n') items ys ∧ n ≤ n' ∧ compGo K (.nm 0) (rt true) me ol f i acc.length ⟨o :: fr, (acc.reverse.map some) ++ (σ0 ++ (its ++ tm0)), n⟩ = .ok (.lst n' ys) ⟨σ0, tm0, n' + 1⟩ := by
  intro f
  induction f with
  | zero =>
    intro i acc o n hi ha
    have hi : i = items.length := by omega
    refine ⟨acc, n, by rw [hi, List.take_length] at ha; exact ha, Nat.le_refl _, ?_⟩
    have l1 : (acc.reverse.map some).length = acc.length := by simp
    have e1 : ((acc.reverse.map some) ++ (σ0 ++ (its ++ tm0))).drop (acc.length + ol) = its ++ tm0 := by
      rw [← List.append_assoc]; exact drop_len _ _ _ (by simp [hol])
    unfold compGo
    simp only [e1, hat, List.getElem?_eq_none (show items.length ≤ i by omega)]
    rw [take_len _ _ _ l1]
    have e2 : (acc.reverse.map some).reverse = acc.map some := by simp
    rw [e2, allSome_map]
    simp only [Res.ok.injEq, Stt.mk.injEq, and_true, true_and]
    constructor
    · rw [drop_len _ _ _ l1, take_len _ _ _ hol]
    · have : ((acc.reverse.map some) ++ (σ0 ++ (its ++ tm0))).drop (acc.length + ol + K.k) = (((acc.reverse.map some) ++ (σ0 ++ (its ++ tm0))).drop (acc.length + ol)).drop K.k := by rw [List.drop_drop]
      rw [this, e1]
      exact drop_len _ _ _ hk
  | succ f ih =>
    intro i acc o n hi ha
    have hlt : i < items.length := by omega
    have hla : acc.length = i := by rw [← ha.len, List.length_take]; omega
    have e1 : ((acc.reverse.map some) ++ (σ0 ++ (its ++ tm0))).drop (acc.length + ol) = its ++ tm0 := by
      rw [← List.append_assoc]; exact drop_len _ _ _ (by simp [hol])
    obtain ⟨y, n1, hn1, q1, h1⟩ := hme items[i] (List.getElem_mem hlt) ((acc.reverse.map some) ++ (σ0 ++ (its ++ tm0))) n
    have e3 : items.take (i + 1) = items.take i ++ [items[i]] := by rw [List.take_add_one, List.getElem?_eq_getElem hlt]; rfl
    obtain ⟨ys, n2, g1, g2, g3⟩ := ih (i + 1) (acc ++ [y]) (some items[i]) n1 (by omega) (by rw [e3]; exact (ha.mono (mono _ _ hn1)).snoc q1)
    refine ⟨ys, n2, g1, by omega, ?_⟩
    unfold compGo
    simp only [e1, hat, List.getElem?_eq_getElem hlt, asg, List.set_cons_zero, rt]
    simp only [if_pos (show acc.length < sizeLine by omega), h1]
    simp only [List.length_append, List.length_cons, List.length_nil, Nat.zero_add, List.reverse_append, List.reverse_cons, List.reverse_nil, List.nil_append, List.map_append, List.map_cons, List.map_nil, List.cons_append, List.append_assoc] at g3 ⊢
    exact g3
theorem mComp_tupQ {mc me : M D} {Q : Nat → D → D → Prop} (mono : ∀ a b, a ≤ b → ∀ d y, Q a d y → Q b d y) {ds : List D} {ix : List Nat} {s : Stt} {σ tm : List (Option D)} {n : Nat} (hc : mc s = .ok (.tup ds) ⟨σ, tm, n⟩) (hz : ds.length < sizeLine)
    (hme : ∀ d ∈ ds, ∀ tm n, ∃ y n', n ≤ n' ∧ Q n' d y ∧ me ⟨some d :: (ix.map fun i => (σ[i]?).getD none), tm, n⟩ = .ok y ⟨some d :: (ix.map fun i => (σ[i]?).getD none), tm, n'⟩) :
    ∃ ys n', All2 (Q n') ds ys ∧ n ≤ n' ∧ mComp (mSeqI mc) (.nm 0) (rt true) me 1 ix s = .ok (.lst n' ys) ⟨σ, tm, n' + 1⟩ := by
  obtain ⟨ys, n', h1, h2, h3⟩ := compGo_rel (K := kTup) (me := me) (Q := Q) mono (items := ds) (its := [some (.tup ds)]) (σ0 := σ) (tm0 := tm) rfl rfl hz (fun i rest => rfl) hme ds.length 0 [] none n (by simp) .nil
  refine ⟨ys, n', h1, h2, ?_⟩
  have e1 : mSeqI mc s = .ok kTup ⟨σ, some (.tup ds) :: tm, n⟩ := by unfold mSeqI; rw [x_bd, hc]; rfl
  have e2 : kTup.len (some (D.tup ds) :: tm) = ds.length := rfl
  unfold mComp
  simp only [bd, e1, e2]
  simp only [List.map_nil, List.reverse_nil, List.nil_append, List.length_nil] at h3
  exact h3
theorem All2.right {Q : D → D → Prop} {P : D → Prop} : ∀ {as bs : List D}, All2 Q as bs → (∀ a b, a ∈ as → Q a b → P b) → ∀ b ∈ bs, P b
  | _, _, .nil, _, b, h => by cases h
  | _, _, .cons q r, k, b, h => by
    rcases List.mem_cons.mp h with rfl | h
    · exact k _ _ (by simp) q
    · exact All2.right r (fun a b ha hq => k a b (List.mem_cons_of_mem _ ha) hq) b h
end Mi
set_option maxHeartbeats 1000000
namespace My
open PySem L2 Mi
theorem at0 {a : D} {l : List D} : atI (a :: l) 0 = some a := at_nat (by decide) rfl
theorem at1 {a b : D} {l : List D} : atI (a :: b :: l) 1 = some b := at_nat (by decide) rfl
theorem at2 {a b c : D} {l : List D} : atI (a :: b :: c :: l) 2 = some c := at_nat (by decide) rfl
theorem at3 {a b c d : D} {l : List D} : atI (a :: b :: c :: d :: l) 3 = some d := at_nat (by decide) rfl
theorem y_eqI {i j : Int} {s : Stt} : eqD (.int i) (.int j) s = .ok (.bool (i == j)) s := by
  rw [y_eq (by simp [eqC, Mi.plain, er, PyData.canLay0, PyData.depth])]; simp only [er, PyData.eqv]
theorem zl : sizeLine = 16777216 := rfl
section
variable {a b c d : D} {s : Stt}
theorem t0 : tupD [] s = .ok (.tup []) s := y_tup (by decide)
theorem t1 : tupD [a] s = .ok (.tup [a]) s := y_tup (by rw [zl]; simp)
theorem t2 : tupD [a, b] s = .ok (.tup [a, b]) s := y_tup (by rw [zl]; simp)
theorem t3 : tupD [a, b, c] s = .ok (.tup [a, b, c]) s := y_tup (by rw [zl]; simp)
theorem t4 : tupD [a, b, c, d] s = .ok (.tup [a, b, c, d]) s := y_tup (by rw [zl]; simp)
theorem k0 {σ tm : List (Option D)} {n : Nat} : lstM [] ⟨σ, tm, n⟩ = .ok (.lst n []) ⟨σ, tm, n + 1⟩ := y_lst (by rw [zl]; simp)
theorem k1 {σ tm : List (Option D)} {n : Nat} : lstM [a] ⟨σ, tm, n⟩ = .ok (.lst n [a]) ⟨σ, tm, n + 1⟩ := y_lst (by rw [zl]; simp)
theorem k2 {σ tm : List (Option D)} {n : Nat} : lstM [a, b] ⟨σ, tm, n⟩ = .ok (.lst n [a, b]) ⟨σ, tm, n + 1⟩ := y_lst (by rw [zl]; simp)
theorem k3 {σ tm : List (Option D)} {n : Nat} : lstM [a, b, c] ⟨σ, tm, n⟩ = .ok (.lst n [a, b, c]) ⟨σ, tm, n + 1⟩ := y_lst (by rw [zl]; simp)
theorem k4 {σ tm : List (Option D)} {n : Nat} : lstM [a, b, c, d] ⟨σ, tm, n⟩ = .ok (.lst n [a, b, c, d]) ⟨σ, tm, n + 1⟩ := y_lst (by rw [zl]; simp)
end
theorem rpO_cons {f : Nat → Option D} {o : Option D} {r : List (Option D)} : rpO f (o :: r) = o.map (rp f) :: rpO f r := by cases o <;> rfl
theorem y_neI {i j : Int} {s : Stt} : neD (.int i) (.int j) s = .ok (.bool (!(i == j))) s := by
  rw [y_ne (by simp [eqC, Mi.plain, er, PyData.canLay0, PyData.depth])]; simp only [er, PyData.eqv]
noncomputable def isNon : D → Bool
  | .non => true
  | _ => false
theorem y_isN {d : D} {s : Stt} : isN d .non s = .ok (.bool (isNon d)) s := by cases d <;> rfl
theorem y_notN {d : D} {s : Stt} : notN d .non s = .ok (.bool (!isNon d)) s := by cases d <;> rfl
theorem x_orX {m m' : M D} {s : Stt} : mOrX m m' s = (m s).bnd fun d s1 => (truD d s1).bnd fun b => iteM b (rt d) m' := (rfl)
theorem x_tN {s : Stt} : truD .non s = .ok false s := (rfl)
theorem y_addEB {k : Bool} {j : Int} {s : Stt} : addE (.bool k) (.int j) s = .ok (.int ((if k then 1 else 0) + j)) s := (rfl)
theorem y_addEI {i j : Int} {s : Stt} : addE (.int i) (.int j) s = .ok (.int (i + j)) s := (rfl)
theorem x_eqS {i j : Str} {s : Stt} : eqS (.str i) (.str j) s = .ok (.bool (i == j)) s := (rfl)
local macro_rules | `(tactic| walk_at "mr") => `(tactic| (simp (config := { dsimp := false }) only [x_run, x_bd, bnd_ok, bnd_ex, bnd_no, lf_ok, lf_no, sq_nx, sq_rt, sq_bk, sq_ct, sq_no, x_rt, x_fl, x_psh, x_pshs, x_nxt, x_pop, vOf_some, x_var, x_C, x_bin, x_boo, x_booD, x_test, x_tB, x_tI, x_tT, x_tL, x_and, x_or, x_not, x_andV, x_orV, x_notV, x_mif, x_it, x_if, x_args0, x_args1, x_cb, x_call, isiK_some, x_isi, x_isiT, x_chain, x_flI, intK_some, x_part0, x_part1, x_mInt, x_sl,
  y_addI, y_sub, y_lt, y_le, y_gt, y_ge, y_neg, y_ixT, y_ixL, y_ixR, y_opt, y_slT, y_slL, y_lenT, y_lenL, y_lenR, y_abs, y_min, y_max, y_int, y_intB, y_tupT, y_tupL, y_listT, y_listL,
  x_seq, x_lift, x_sNx, x_sBk, x_sCt, x_sRet, x_sRetN, x_sExpr, x_sIf, x_sT, x_sF, asgK_some, x_asg, x_tri, x_meth, x_isL, callK_pure, fn_rt, fn_nx, finO_some, isiD, allSome, asg, asgL,
  List.map_cons, List.map_nil, List.replicate, List.nil_append, List.cons_append, List.append_nil, List.getElem?_cons_zero, List.getElem?_cons_succ, List.getElem?_nil, List.set_cons_zero, List.set_cons_succ, List.length_cons, List.length_nil, Nat.reduceAdd, Nat.reduceSub, Option.map_some, Option.map_none, Bool.not_true, Bool.not_false, String.reduceBEq, beq_self_eq_true, Nat.zero_add, Nat.sub_self, t0, t1, t2, t3, t4, k0, k1, k2, k3, k4, Int.reduceBEq, Bool.or_false, Bool.false_or, Bool.true_or, Bool.or_true, Bool.and_true, Bool.true_and, Bool.and_false, Bool.false_and, at0, at1, at2, at3, y_eqI, y_neI, x_for, x_rng1, x_rlen, Int.zero_add, put_pl, rpO_nil, rpO_cons, rp_bag, rp_int, rp_str, rp_bool, rp_non, rp_tup, rpL_nil, rpL_cons, y_isN,y_notN,x_orX,x_tN,y_addEB,y_addEI,x_eqS]))
noncomputable def isInt : D → Bool
  | .int _ => true
  | _ => false
noncomputable def inR (lo hi : Int) : D → Bool
  | .int i => decide (lo ≤ i) && decide (i ≤ hi)
  | _ => false
theorem num_eq (t : D) (n : Nat) (h : plain t = true) : f_p_is_number [t] n = .ok (.bool (isInt t)) [t] n := by
  unfold f_p_is_number m_p_is_number
  cases t <;> first | (simp [Mi.plain] at h; done) | (walk_at "mr"; first | done | rfl)
theorem isw_eq (t : D) (lo hi : Int) (n : Nat) (h : plain t = true) : f_p_is_whole [t, .int lo, .int hi] n = .ok (.bool (inR lo hi t)) [t, .int lo, .int hi] n := by
  unfold f_p_is_whole m_p_is_whole
  walk_at "mr"
  rw [num_eq t n h]
  cases t <;> (try simp only [isInt, inR]) <;> walk_at "mr" <;> try rfl
  rename_i i
  by_cases h1 : lo ≤ i
  · simp only [h1, decide_true]; walk_at "mr" <;> simp
  · simp only [h1, decide_false]; walk_at "mr" <;> simp
noncomputable def rowB (lo hi top : Int) : D → Bool
  | .tup ds => decide (lo ≤ (ds.length : Int)) && decide ((ds.length : Int) ≤ hi) && ds.all (inR 0 top)
  | _ => false
theorem plainL_mem : ∀ {ds : List D} {d : D}, plainL ds = true → d ∈ ds → plain d = true
  | x :: ds, d, h, m => by
    simp only [plainL, Bool.and_eq_true] at h
    rcases List.mem_cons.mp m with rfl | m
    · exact h.1
    · exact plainL_mem h.2 m
theorem row_eq (t : D) (lo hi top : Int) (n : Nat) (h : plain t = true) (hh : hi < 1000000) : ∃ n', n ≤ n' ∧ f_p_is_row [t, .int lo, .int hi, .int top] n = .ok (.bool (rowB lo hi top t)) [t, .int lo, .int hi, .int top] n' := by
  unfold f_p_is_row m_p_is_row
  walk_at "mr"
  cases t with
  | tup ds =>
    walk_at "mr"
    by_cases h1 : lo ≤ (ds.length : Int)
    · by_cases h2 : (ds.length : Int) ≤ hi
      · simp only [h1, h2, decide_true, rowB, Bool.true_and]
        walk_at "mr"
        simp only [h2, decide_true]
        walk_at "mr"
        have hz : ds.length < sizeLine := by have : sizeLine = 16777216 := rfl; omega
        obtain ⟨n', hn, hc⟩ := mComp_tup (mc := mVar 0) (me := mCall f_p_is_whole [mVar 0, mC (D.int 0), mVar 1]) (g := fun d => .bool (inR 0 top d)) (ds := ds) (ix := [3]) (s := ⟨[some (.tup ds), some (.int lo), some (.int hi), some (.int top)], [some (.tup ds), some (.int lo), some (.int hi), some (.int top)], n⟩) (s1 := ⟨[some (.tup ds), some (.int lo), some (.int hi), some (.int top)], [some (.tup ds), some (.int lo), some (.int hi), some (.int top)], n⟩) (by walk_at "mr") hz (by
          intro d hd tm m
          refine ⟨m, Nat.le_refl _, ?_⟩
          show mCall _ _ ⟨[some d, some (.int top)], tm, m⟩ = _
          walk_at "mr"
          rw [isw_eq d 0 top m (plainL_mem (by simpa [Mi.plain] using h) hd)]
          walk_at "mr"
          rfl)
        refine ⟨n' + 1, by simp only at hn; omega, ?_⟩
        rw [hc]
        walk_at "mr"
        rw [y_all (bools_map ds (inR 0 top))]
        walk_at "mr"
        simp only [List.all_map]
        rfl
      · refine ⟨n, Nat.le_refl _, ?_⟩
        simp only [h1, h2, decide_true, decide_false, rowB, Bool.true_and, Bool.false_and]
        walk_at "mr"
        simp only [h2, decide_false]
        walk_at "mr"
    · refine ⟨n, Nat.le_refl _, ?_⟩
      simp only [h1, decide_false, rowB, Bool.false_and]
      walk_at "mr"
  | dct _ _ _ => simp [Mi.plain] at h
  | obj _ _ _ _ => simp [Mi.plain] at h
  | _ => refine ⟨n, Nat.le_refl _, ?_⟩; walk_at "mr"; rfl
theorem c0 : ((0 : Nat) : Int) = 0 := rfl
theorem c1 : ((1 : Nat) : Int) = 1 := rfl
theorem c2 : ((2 : Nat) : Int) = 2 := rfl
theorem c3 : ((3 : Nat) : Int) = 3 := rfl
theorem c4 : ((4 : Nat) : Int) = 4 := rfl
noncomputable def Gd (t : D) : Prop := plain t = true ∧ (er t).canLay0 = true
noncomputable def GdL (ds : List D) : Prop := plainL ds = true ∧ PyData.canLayAll0 (erL ds) = true
theorem Gd.tup {ds : List D} : Gd (.tup ds) ↔ GdL ds := by simp only [Gd, GdL, Mi.plain, er, PyData.canLay0]
theorem Gd.lst {l : Nat} {ds : List D} : Gd (.lst l ds) ↔ GdL ds := by simp only [Gd, GdL, Mi.plain, er, PyData.canLay0]
theorem GdL.cons {d : D} {ds : List D} : GdL (d :: ds) ↔ Gd d ∧ GdL ds := by
  simp only [Gd, GdL, plainL, erL, PyData.canLayAll0, Bool.and_eq_true]
  constructor
  · rintro ⟨⟨a, b⟩, c, d⟩; exact ⟨⟨a, c⟩, b, d⟩
  · rintro ⟨⟨a, c⟩, b, d⟩; exact ⟨⟨a, b⟩, c, d⟩
noncomputable def isStr (x : Str) : D → Bool
  | .str y => y == x
  | _ => false
theorem eq_str {t : D} {x : Str} {s : Stt} (g : Gd t) (h : PyData.strOk x = true) : eqD t (.str x) s = .ok (.bool (isStr x t)) s := by
  have e : eqC t (.str x) = true := by
    simp only [eqC, g.1, g.2, Mi.plain, er, PyData.canLay0, h, Bool.true_and, decide_eq_true_eq]
    simp [PyData.depth]
  rw [y_eq e]
  cases t <;> simp [er, PyData.eqv, isStr]
noncomputable def Bg (c x : Int) : Prop := 0 ≤ c ∧ 0 ≤ x ∧ x < 2147483647
theorem take_eq (l : Nat) (c x top : Int) (n : Nat) (h : Bg c x) (ht : 0 < top) (ht' : top < 1000000) : ∃ r c' x', 0 ≤ r ∧ r < top ∧ Bg c' x' ∧ f_l_take [.lst l [.int c, .int x], .int top] n = .ok (.int r) [.lst l [.int c', .int x'], .int top] n := by
  unfold f_l_take m_l_take
  obtain ⟨h0, h1, h2⟩ := h
  by_cases hc : 0 < c
  · refine ⟨c % top, c / top, x, Int.emod_nonneg _ (by omega), Int.emod_lt_of_pos _ ht, ⟨Int.ediv_nonneg h0 (by omega), h1, h2⟩, ?_⟩
    walk_at "mr"
    simp only [hc, decide_true]
    walk_at "mr"
    rw [y_mod ht]
    walk_at "mr"
    rw [y_fdiv ⟨ht, by omega⟩]
    walk_at "mr"
    rw [y_set (j := 0) rfl (by simp [labs])]
    walk_at "mr"
  · have hx0 := Int.emod_nonneg (x * 48271 + 7919) (show (2147483647 : Int) ≠ 0 by decide)
    have hx1 := Int.emod_lt_of_pos (x * 48271 + 7919) (show (0 : Int) < 2147483647 by decide)
    generalize hy : (x * 48271 + 7919) % 2147483647 = y at hx0 hx1
    refine ⟨(y ^ (3 : Int).toNat % 2147483587 / 7 * 69621 % 1073741789) % top, c, y, Int.emod_nonneg _ (by omega), Int.emod_lt_of_pos _ ht, ⟨h0, hx0, hx1⟩, ?_⟩
    walk_at "mr"
    simp only [hc, decide_false]
    walk_at "mr"
    rw [y_mul (.inl ⟨by omega, by omega⟩)]
    walk_at "mr"
    rw [y_mod (by decide), hy]
    walk_at "mr"
    rw [y_set (j := 1) rfl (by simp [labs])]
    walk_at "mr"
    rw [y_pow ⟨by decide, by decide, by omega⟩]
    walk_at "mr"
    rw [y_mod (by decide)]
    walk_at "mr"
    rw [y_fdiv ⟨by decide, by decide⟩]
    walk_at "mr"
    rw [y_mul (.inr ⟨by decide, by decide⟩)]
    walk_at "mr"
    rw [y_mod (by decide)]
    walk_at "mr"
    rw [y_mod ht]
    walk_at "mr"
theorem at_map {ns : List Int} {a : Nat} (h : a < ns.length) : atI (ns.map D.int) (a : Int) = some (.int ns[a]) := at_nat (by omega) (by simp [h])
theorem bag_eq (ns : List Int) (a n : Nat) (ha : a < 1000) (hl : ns.length < 1000) : ∃ c x, Bg c x ∧ f_l_bag [.ro (ns.map .int), .int a] n = .ok (.lst n [.int c, .int x]) [.ro (ns.map .int), .int a] (n + 1) := by
  unfold f_l_bag m_l_bag
  walk_at "mr"
  have key : ∃ c : Int, 0 ≤ c ∧ iteS (decide ((a : Int) < ((ns.map D.int).length : Int))) (sAsg (Tg.nm 2) (mCB [mBin (mVar 0) (mVar 1) ixD] absD)) sNx ⟨[some (.ro (ns.map .int)), some (.int a), some (.int 0), none, none], [some (.ro (ns.map .int)), some (.int a)], n⟩ = .nx ⟨[some (.ro (ns.map .int)), some (.int a), some (.int c), none, none], [some (.ro (ns.map .int)), some (.int a)], n⟩ := by
    by_cases h : a < ns.length
    · refine ⟨if ns[a] < 0 then -ns[a] else ns[a], ?_, ?_⟩
      rotate_left
      · rw [show decide ((a : Int) < ((ns.map D.int).length : Int)) = true by simp [h]]
        walk_at "mr"
        rw [at_map h]
        walk_at "mr"
      · split <;> omega
    · refine ⟨0, by decide, ?_⟩
      rw [show decide ((a : Int) < ((ns.map D.int).length : Int)) = false by simp; omega]
      walk_at "mr"
  obtain ⟨c, hc, e1⟩ := key
  rw [e1]
  walk_at "mr"
  rw [y_mod (by decide)]
  walk_at "mr"
  rw [y_mul (.inl ⟨by decide, by decide⟩)]
  walk_at "mr"
  have q0 := Int.emod_nonneg c (show (2147483629 : Int) ≠ 0 by decide)
  have q1 := Int.emod_lt_of_pos c (show (0 : Int) < 2147483629 by decide)
  rw [y_pow ⟨by decide, by decide, by omega⟩]
  walk_at "mr"
  rw [y_mod (by decide)]
  walk_at "mr"
  have w0 : ((ns.map D.int).length : Int) = ns.length := by simp
  rw [w0]
  generalize hk : (if (60 : Int) < (ns.length : Int) then (60 : Int) else (ns.length : Int)) = k
  have hk0 : 0 ≤ k ∧ k ≤ 60 ∧ k ≤ ns.length := by split at hk <;> omega
  rw [y_rng1 ⟨by omega, by omega⟩]
  walk_at "mr"
  have p0 := Int.emod_nonneg ((c % 2147483629 + 104729 * (a : Int) + 17) ^ (5 : Int).toNat) (show (2147483647 : Int) ≠ 0 by decide)
  have p1 := Int.emod_lt_of_pos ((c % 2147483629 + 104729 * (a : Int) + 17) ^ (5 : Int).toNat) (show (0 : Int) < 2147483647 by decide)
  generalize (c % 2147483629 + 104729 * (a : Int) + 17) ^ (5 : Int).toNat % 2147483647 = x0 at p0 p1
  obtain ⟨s', e2, x, o, hx0, hx1, rfl⟩ := for_rng (P := fun i s => ∃ (x : Int) (o : Option D), 0 ≤ x ∧ x < 2147483647 ∧ s = ⟨[some (.ro (ns.map .int)), some (.int a), some (.int c), some (.int x), o], [some (.ro (ns.map .int)), some (.int a)], n⟩) (lo := 0) (N := k.toNat) (g := .nm 4) (b := sAsg (.nm 3) (mBin (mBin (mBin (mBin (mVar 3) (mC (.int 48271)) mulD) (mBin (mBin (mBin (mVar 0) (mVar 4) ixD) (mC (.int 2147483587)) modD) (mBin (mVar 4) (mC (.int 3)) addD) mulD) addD) (mVar 4) addD) (mC (.int 2147483629)) modD)) (by
    rintro i hi s ⟨x, o, h0, h1, rfl⟩
    have hi' : i < ns.length := by omega
    refine ⟨[some (.ro (ns.map .int)), some (.int a), some (.int c), some (.int x), some (.int i)], by simp only [Int.zero_add]; rfl, ?_⟩
    refine ⟨⟨[some (.ro (ns.map .int)), some (.int a), some (.int c), some (.int ((x * 48271 + ns[i] % 2147483587 * (i + 3) + i) % 2147483629)), some (.int i)], [some (.ro (ns.map .int)), some (.int a)], n⟩, ?_, ?_⟩
    · walk_at "mr"
      rw [y_mul (.inl ⟨by omega, by omega⟩)]
      walk_at "mr"
      rw [at_map hi']
      walk_at "mr"
      rw [y_mod (by decide)]
      walk_at "mr"
      rw [y_mul (.inr ⟨by omega, by omega⟩)]
      walk_at "mr"
      rw [y_mod (by decide)]
      walk_at "mr"
    · have r0 := Int.emod_nonneg (x * 48271 + ns[i] % 2147483587 * (i + 3) + i) (show (2147483629 : Int) ≠ 0 by decide)
      have r1 := Int.emod_lt_of_pos (x * 48271 + ns[i] % 2147483587 * (i + 3) + i) (show (0 : Int) < 2147483629 by decide)
      exact ⟨_, _, r0, by omega, rfl⟩) k.toNat 0 ⟨[some (.ro (ns.map .int)), some (.int a), some (.int c), some (.int x0), none], [some (.ro (ns.map .int)), some (.int a)], n⟩ (by omega) ⟨x0, none, p0, p1, rfl⟩
  rw [e2]
  walk_at "mr"
  rw [y_pow ⟨by decide, by decide, by decide⟩]
  walk_at "mr"
  by_cases h : c < 10 ^ (18 : Int).toNat
  · refine ⟨0, x, ⟨by decide, hx0, hx1⟩, ?_⟩
    simp only [h, decide_true]
    walk_at "mr"
  · refine ⟨c, x, ⟨hc, hx0, hx1⟩, ?_⟩
    simp only [h, decide_false]
    walk_at "mr"
theorem rp_ne {l k : Nat} {d : D} {ds : List D} (h : k ≠ l) : rp (pl l d) (.lst k ds) = .lst k (rpL (pl l d) ds) := by simp only [rp, pl, if_neg h]
mutual
noncomputable def Rs (n : Nat) : D → Bool
  | .non => true | .bool _ => true | .int _ => true | .str x => PyData.strOk x
  | .tup ds => decide (ds.length ≤ 2000) && RsL n ds
  | .lst l ds => decide (n ≤ l) && (decide (ds.length ≤ 2000) && RsL n ds)
  | .ro _ => false | .dct _ _ _ => false | .obj _ _ _ _ => false
noncomputable def RsL (n : Nat) : List D → Bool
  | [] => true
  | d :: ds => Rs n d && RsL n ds
end
noncomputable def Up (m : Nat) (t : D) : Prop := ∀ k ∈ labs t, k < m
theorem at_mem {α : Type} {ds : List α} {r : Int} (h0 : 0 ≤ r) (h1 : r < ds.length) : ∃ d ∈ ds, atI ds r = some d := by
  have h : r.toNat < ds.length := by omega
  exact ⟨ds[r.toNat], List.getElem_mem h, at_nat h0 (by simp [h])⟩
theorem okE : PyData.strOk ("" : Str) = true := by decide +kernel
mutual
noncomputable def Tr : D → Bool
  | .non => true | .bool _ => true | .int _ => true | .str x => PyData.strOk x
  | .tup ds => decide (ds.length ≤ 900) && TrL ds
  | .lst _ _ => false | .ro _ => false | .dct _ _ _ => false | .obj _ _ _ _ => false
noncomputable def TrL : List D → Bool
  | [] => true
  | d :: ds => Tr d && TrL ds
end
theorem RsL_all {n : Nat} : ∀ {ds : List D}, RsL n ds = true ↔ ∀ d ∈ ds, Rs n d = true
  | [] => by simp [RsL]
  | d :: ds => by simp only [RsL, Bool.and_eq_true, RsL_all (ds := ds), List.forall_mem_cons]
theorem dep_all {k : Nat} : ∀ {ds : List D}, PyData.depthAll (erL ds) ≤ k ↔ ∀ d ∈ ds, (er d).depth ≤ k
  | [] => by simp [erL, PyData.depthAll]
  | d :: ds => by simp only [erL, PyData.depthAll, List.forall_mem_cons, ← dep_all (ds := ds)]; omega
mutual
theorem Tr_labs : ∀ t : D, Tr t = true → labs t = []
  | .non, _ => rfl
  | .bool _, _ => rfl
  | .int _, _ => rfl
  | .str _, _ => rfl
  | .tup ds, h => by simp only [Tr, Bool.and_eq_true] at h; simp only [labs]; exact TrL_labs ds h.2
  | .lst _ _, h => by simp [Tr] at h
  | .ro _, h => by simp [Tr] at h
  | .dct _ _ _, h => by simp [Tr] at h
  | .obj _ _ _ _, h => by simp [Tr] at h
theorem TrL_labs : ∀ t : List D, TrL t = true → labsL t = []
  | [], _ => rfl
  | d :: ds, h => by simp only [TrL, Bool.and_eq_true] at h; simp only [labsL, Tr_labs d h.1, TrL_labs ds h.2, List.append_nil]
end
mutual
theorem Tr_rs {n : Nat} : ∀ t : D, Tr t = true → Rs n t = true
  | .non, _ => rfl
  | .bool _, _ => rfl
  | .int _, _ => rfl
  | .str _, h => by simpa [Tr, Rs] using h
  | .tup ds, h => by
    simp only [Tr, Bool.and_eq_true, decide_eq_true_eq] at h; simp only [Rs, Bool.and_eq_true, decide_eq_true_eq]; exact ⟨by omega, TrL_rs ds h.2⟩
  | .lst _ _, h => by simp [Tr] at h
  | .ro _, h => by simp [Tr] at h
  | .dct _ _ _, h => by simp [Tr] at h
  | .obj _ _ _ _, h => by simp [Tr] at h
theorem TrL_rs {n : Nat} : ∀ t : List D, TrL t = true → RsL n t = true
  | [], _ => rfl
  | d :: ds, h => by simp only [TrL, Bool.and_eq_true] at h; simp only [RsL, Tr_rs d h.1, TrL_rs ds h.2, Bool.and_true]
end
mutual
theorem Rs_gd {n : Nat} : ∀ t : D, Rs n t = true → Gd t
  | .non, _ => ⟨rfl, rfl⟩
  | .bool _, _ => ⟨rfl, rfl⟩
  | .int _, _ => ⟨rfl, rfl⟩
  | .str _, h => ⟨rfl, by simpa [Rs, er, PyData.canLay0] using h⟩
  | .tup ds, h => by simp only [Rs, Bool.and_eq_true] at h; exact Gd.tup.mpr (RsL_gd ds h.2)
  | .lst _ ds, h => by simp only [Rs, Bool.and_eq_true] at h; exact Gd.lst.mpr (RsL_gd ds h.2.2)
  | .ro _, h => by simp [Rs] at h
  | .dct _ _ _, h => by simp [Rs] at h
  | .obj _ _ _ _, h => by simp [Rs] at h
theorem RsL_gd {n : Nat} : ∀ t : List D, RsL n t = true → GdL t
  | [], _ => ⟨rfl, rfl⟩
  | d :: ds, h => by simp only [RsL, Bool.and_eq_true] at h; exact GdL.cons.mpr ⟨Rs_gd d h.1, RsL_gd ds h.2⟩
end
mutual
theorem Rs_low {n k : Nat} : ∀ t : D, Rs n t = true → k ∈ labs t → n ≤ k
  | .non, _, h => by simp [labs] at h
  | .bool _, _, h => by simp [labs] at h
  | .int _, _, h => by simp [labs] at h
  | .str _, _, h => by simp [labs] at h
  | .tup ds, h, m => by simp only [Rs, Bool.and_eq_true] at h; simp only [labs] at m; exact RsL_low ds h.2 m
  | .lst _ ds, h, m => by
    simp only [Rs, Bool.and_eq_true, decide_eq_true_eq] at h
    simp only [labs, List.mem_cons] at m
    rcases m with rfl | m
    · exact h.1
    · exact RsL_low ds h.2.2 m
  | .ro _, h, _ => by simp [Rs] at h
  | .dct _ _ _, h, _ => by simp [Rs] at h
  | .obj _ _ _ _, h, _ => by simp [Rs] at h
theorem RsL_low {n k : Nat} : ∀ t : List D, RsL n t = true → k ∈ labsL t → n ≤ k
  | [], _, h => by simp [labsL] at h
  | d :: ds, h, m => by
    simp only [RsL, Bool.and_eq_true] at h
    simp only [labsL, List.mem_append] at m
    rcases m with m | m
    · exact Rs_low d h.1 m
    · exact RsL_low ds h.2 m
end
theorem Rs_fresh {n l : Nat} {t : D} (h : Rs n t = true) (hl : l < n) : l ∉ labs t := fun m => by have := Rs_low t h m; omega
mutual
theorem Rs_mono {n m : Nat} (h : m ≤ n) : ∀ t : D, Rs n t = true → Rs m t = true
  | .non, _ => rfl
  | .bool _, _ => rfl
  | .int _, _ => rfl
  | .str _, h => by simpa [Rs] using h
  | .tup ds, h => by simp only [Rs, Bool.and_eq_true] at h ⊢; exact ⟨h.1, RsL_mono ‹_› ds h.2⟩
  | .lst _ ds, h => by simp only [Rs, Bool.and_eq_true, decide_eq_true_eq] at h ⊢; exact ⟨by omega, h.2.1, RsL_mono ‹_› ds h.2.2⟩
  | .ro _, h => by simp [Rs] at h
  | .dct _ _ _, h => by simp [Rs] at h
  | .obj _ _ _ _, h => by simp [Rs] at h
theorem RsL_mono {n m : Nat} (h : m ≤ n) : ∀ t : List D, RsL n t = true → RsL m t = true
  | [], _ => rfl
  | d :: ds, h => by simp only [RsL, Bool.and_eq_true] at h ⊢; exact ⟨Rs_mono ‹_› d h.1, RsL_mono ‹_› ds h.2⟩
end
theorem labsL_mem {k : Nat} : ∀ {es : List D}, k ∈ labsL es → ∃ e ∈ es, k ∈ labs e
  | e :: es, h => by
    simp only [labsL, List.mem_append] at h
    rcases h with h | h
    · exact ⟨e, List.mem_cons_self, h⟩
    · obtain ⟨e', h1, h2⟩ := labsL_mem h
      exact ⟨e', List.mem_cons_of_mem _ h1, h2⟩
theorem up_tup {m : Nat} {es : List D} (h : ∀ e ∈ es, Up m e) : Up m (.tup es) := fun k hk => by
  simp only [labs] at hk
  obtain ⟨e, h1, h2⟩ := labsL_mem hk
  exact h e h1 k h2
theorem up_lst {m l : Nat} {es : List D} (hl : l < m) (h : ∀ e ∈ es, Up m e) : Up m (.lst l es) := fun k hk => by
  simp only [labs, List.mem_cons] at hk
  rcases hk with rfl | hk
  · exact hl
  · obtain ⟨e, h1, h2⟩ := labsL_mem hk
    exact h e h1 k h2
section
variable {me mo1 mi1 mo2 mi2 : M D} {s : Stt} {σ tm : List (Option D)} {n : Nat} {d1 d2 : D}
end
theorem labsL_of {k : Nat} : ∀ {es : List D} {e : D}, e ∈ es → k ∈ labs e → k ∈ labsL es
  | e :: es, x, h, hk => by
    simp only [labsL, List.mem_append]
    rcases List.mem_cons.mp h with rfl | h
    · exact .inl hk
    · exact .inr (labsL_of h hk)
noncomputable def CQ (m : Nat) (d y : D) : Prop := (Gd y ∧ er y = er d) ∧ ∀ M, m ≤ M → Up M d → Up M y
theorem all2_er {m : Nat} {as bs : List D} (h : All2 (CQ m) as bs) : GdL bs ∧ erL bs = erL as ∧ ∀ M, m ≤ M → (∀ a ∈ as, Up M a) → ∀ b ∈ bs, Up M b := by
  induction h with
  | nil => exact ⟨⟨rfl, rfl⟩, rfl, fun _ _ _ _ h => nomatch h⟩
  | cons h1 h2 ih =>
    refine ⟨GdL.cons.mpr ⟨h1.1.1, ih.1⟩, by simp only [erL, h1.1.2, ih.2.1], fun M hM hu => ?_⟩
    have hu := List.forall_mem_cons.mp hu
    exact List.forall_mem_cons.mpr ⟨h1.2 M hM hu.1, ih.2.2 M hM hu.2⟩
theorem ne_same {y d : D} {s : Stt} (gy : Gd y) (gd : Gd d) (e : er y = er d) (hd : (er d).depth ≤ 60) : neD y d s = .ok (.bool false) s := by
  rw [y_ne (by simp only [eqC, gy.1, gd.1, gy.2, gd.2, e, Bool.true_and, decide_eq_true_eq]; omega), e, PySem.SeqAt.eqv_refl _ gd.2]; rfl
noncomputable def UpO (n : Nat) (o : Option D) : Prop := ∀ d, o = some d → Up n d
theorem UpO.fix {n : Nat} {o : Option D} (h : UpO n o) (d : D) : Option.map (rp (pl n d)) o = o := by
  cases o with
  | none => rfl
  | some t => simp only [Option.map_some]; rw [rp_fresh fun m => Nat.lt_irrefl _ (h t rfl n m)]
theorem k5 {a b c d e : D} {σ tm : List (Option D)} {n : Nat} : lstM [a, b, c, d, e] ⟨σ, tm, n⟩ = .ok (.lst n [a, b, c, d, e]) ⟨σ, tm, n + 1⟩ := y_lst (by rw [zl]; simp)
theorem k6 {a b c d e f : D} {σ tm : List (Option D)} {n : Nat} : lstM [a, b, c, d, e, f] ⟨σ, tm, n⟩ = .ok (.lst n [a, b, c, d, e, f]) ⟨σ, tm, n + 1⟩ := y_lst (by rw [zl]; simp)
theorem cut_tk {ws : List D} {l : Nat} : cutA ws none (some (l : Int)) = ws.take l := by
  unfold cutA
  rw [HT.sIx_nat, HT.sIx_none, List.drop_zero, Nat.sub_zero]
  rcases Nat.le_total l ws.length with h | h
  · rw [Nat.min_eq_left h]
  · rw [Nat.min_eq_right h, List.take_length, List.take_of_length_le h]
theorem cut_dr {ws : List D} {l : Nat} : cutA ws (some (l : Int)) none = ws.drop l := by
  unfold cutA
  rw [HT.sIx_nat, HT.sIx_none]
  rcases Nat.le_total l ws.length with h | h
  · rw [Nat.min_eq_left h, List.take_of_length_le (by simp)]
  · rw [Nat.min_eq_right h, List.drop_length, List.take_nil, List.drop_eq_nil_of_le h]
theorem lfrom_eq (t : D) (lo hi : Int) (n : Nat) (h : plain t = true) : f_l_is_from [t, .int lo, .int hi] n = .ok (.bool (inR lo hi t)) [t, .int lo, .int hi] n := by
  unfold f_l_is_from m_l_is_from
  cases t with
  | int i =>
    walk_at "mr"
    by_cases h1 : lo ≤ i
    · simp only [h1, decide_true, inR]; walk_at "mr"
    · simp only [h1, decide_false, inR]; walk_at "mr"
  | dct _ _ _ => simp [Mi.plain] at h
  | obj _ _ _ _ => simp [Mi.plain] at h
  | _ => walk_at "mr"; rfl
theorem lsg_eq (t : D) (lo hi : Int) (n : Nat) (h : plain t = true) (hh : hi < 1000000) : ∃ n', n ≤ n' ∧ f_l_are_signs [t, .int lo, .int hi] n = .ok (.bool (rowB lo hi 1039 t)) [t, .int lo, .int hi] n' := by
  unfold f_l_are_signs m_l_are_signs
  walk_at "mr"
  cases t with
  | tup ds =>
    walk_at "mr"
    by_cases h1 : lo ≤ (ds.length : Int)
    · by_cases h2 : (ds.length : Int) ≤ hi
      · simp only [h1, h2, decide_true, rowB, Bool.true_and]
        walk_at "mr"
        simp only [h2, decide_true]
        walk_at "mr"
        obtain ⟨n', hn, hc⟩ := mComp_tup (mc := mVar 0) (me := mCall f_l_is_from [mVar 0, mC (D.int 0), mC (D.int 1039)]) (g := fun d => .bool (inR 0 1039 d)) (ds := ds) (ix := []) (s := ⟨[some (.tup ds), some (.int lo), some (.int hi)], [some (.tup ds), some (.int lo), some (.int hi)], n⟩) (s1 := ⟨[some (.tup ds), some (.int lo), some (.int hi)], [some (.tup ds), some (.int lo), some (.int hi)], n⟩) (by walk_at "mr") (by rw [zl]; omega) (by
          intro d hd tm m
          refine ⟨m, Nat.le_refl _, ?_⟩
          show mCall _ _ ⟨[some d], tm, m⟩ = _
          walk_at "mr"
          rw [lfrom_eq d 0 1039 m (plainL_mem (by simpa [Mi.plain] using h) hd)]
          walk_at "mr")
        refine ⟨n' + 1, by simp only at hn; omega, ?_⟩
        rw [hc]
        walk_at "mr"
        rw [y_all (bools_map ds (inR 0 1039))]
        walk_at "mr"
        simp only [List.all_map]
        rfl
      · refine ⟨n, Nat.le_refl _, ?_⟩
        simp only [h1, h2, decide_true, decide_false, rowB, Bool.true_and, Bool.false_and]
        walk_at "mr"
        simp only [h2, decide_false]
        walk_at "mr"
    · refine ⟨n, Nat.le_refl _, ?_⟩
      simp only [h1, decide_false, rowB, Bool.false_and]
      walk_at "mr"
  | dct _ _ _ => simp [Mi.plain] at h
  | obj _ _ _ _ => simp [Mi.plain] at h
  | _ => refine ⟨n, Nat.le_refl _, ?_⟩; walk_at "mr"; rfl
noncomputable def fieldB : D → Bool
  | .tup [a, b] => inR 0 60 a && rowB 0 20 1039 b
  | _ => false
theorem len2 {ds : List D} (h : ((ds.length : Int) == 2) = true) : ∃ a b, ds = [a, b] := by
  simp only [beq_iff_eq] at h
  match ds, h with
  | [a, b], _ => exact ⟨a, b, rfl⟩
  | [], h => simp at h
  | [_], h => simp at h
  | _ :: _ :: _ :: _, h => simp only [List.length_cons] at h; omega
theorem len4 {ds : List D} (h : ((ds.length : Int) == 4) = true) : ∃ a b c d, ds = [a, b, c, d] := by
  simp only [beq_iff_eq] at h
  match ds, h with
  | [a, b, c, d], _ => exact ⟨a, b, c, d, rfl⟩
  | [], h => simp at h
  | [_], h => simp at h
  | [_, _], h => simp at h
  | [_, _, _], h => simp at h
  | _ :: _ :: _ :: _ :: _ :: _, h => simp only [List.length_cons] at h; omega
theorem fieldB_no {ds : List D} (h : ((ds.length : Int) == 2) = false) : fieldB (.tup ds) = false := by
  match ds, h with
  | [a, b], h => simp at h
  | [], _ => rfl
  | [_], _ => rfl
  | _ :: _ :: _ :: _, _ => rfl
theorem pfield_eq (t : D) (n : Nat) (h : plain t = true) : ∃ n', n ≤ n' ∧ f_p_is_field [t] n = .ok (.bool (fieldB t)) [t] n' := by
  unfold f_p_is_field m_p_is_field
  walk_at "mr"
  cases t with
  | tup ds =>
    walk_at "mr"
    cases hq : (((ds.length : Nat) : Int) == 2) with
    | true =>
      obtain ⟨a, b, rfl⟩ := len2 hq
      have ha : plain a = true := plainL_mem (ds := [a, b]) (by simpa [Mi.plain] using h) (by simp)
      have hb : plain b = true := plainL_mem (ds := [a, b]) (by simpa [Mi.plain] using h) (by simp)
      walk_at "mr"
      rw [isw_eq a 0 60 n ha]
      walk_at "mr"
      cases hi : inR 0 60 a with
      | false => exact ⟨n, Nat.le_refl _, by walk_at "mr"; simp only [fieldB, hi, Bool.false_and]⟩
      | true =>
        walk_at "mr"
        obtain ⟨n', h1, h2⟩ := row_eq b 0 20 1039 n hb (by decide)
        rw [h2]
        walk_at "mr"
        exact ⟨n', h1, by simp only [fieldB, hi, Bool.true_and]⟩
    | false =>
      refine ⟨n, Nat.le_refl _, ?_⟩
      walk_at "mr"
      rw [fieldB_no hq]
  | dct _ _ _ => simp [Mi.plain] at h
  | obj _ _ _ _ => simp [Mi.plain] at h
  | _ => refine ⟨n, Nat.le_refl _, ?_⟩; walk_at "mr"; rfl
theorem lfield_eq (t : D) (n : Nat) (h : plain t = true) : ∃ n', n ≤ n' ∧ f_l_is_field [t] n = .ok (.bool (fieldB t)) [t] n' := by
  unfold f_l_is_field m_l_is_field
  walk_at "mr"
  cases t with
  | tup ds =>
    walk_at "mr"
    cases hq : (((ds.length : Nat) : Int) == 2) with
    | true =>
      obtain ⟨a, b, rfl⟩ := len2 hq
      have ha : plain a = true := plainL_mem (ds := [a, b]) (by simpa [Mi.plain] using h) (by simp)
      have hb : plain b = true := plainL_mem (ds := [a, b]) (by simpa [Mi.plain] using h) (by simp)
      walk_at "mr"
      rw [lfrom_eq a 0 60 n ha]
      walk_at "mr"
      cases hi : inR 0 60 a with
      | false => exact ⟨n, Nat.le_refl _, by walk_at "mr"; simp only [fieldB, hi, Bool.false_and]⟩
      | true =>
        walk_at "mr"
        obtain ⟨n', h1, h2⟩ := lsg_eq b 0 20 n hb (by decide)
        rw [h2]
        walk_at "mr"
        exact ⟨n', h1, by simp only [fieldB, hi, Bool.true_and]⟩
    | false =>
      refine ⟨n, Nat.le_refl _, ?_⟩
      walk_at "mr"
      rw [fieldB_no hq]
  | dct _ _ _ => simp [Mi.plain] at h
  | obj _ _ _ _ => simp [Mi.plain] at h
  | _ => refine ⟨n, Nat.le_refl _, ?_⟩; walk_at "mr"; rfl
set_option Elab.async false
set_option linter.all false
set_option maxRecDepth 100000
set_option maxHeartbeats 1000000
noncomputable def bsB (len : Int) (b e : D) : Bool := match b, e with
  | .int b, .int e => decide (0 ≤ b) && decide (b ≤ e) && decide (e ≤ len)
  | _, _ => false
noncomputable def stB (len : Int) (m : D) : Bool := match m with
  | .non => true
  | .tup [.int a, .int b] => decide (0 ≤ a) && decide (a < b) && decide (b ≤ len) && decide (b ≤ a + 96)
  | _ => false
noncomputable def outS (ss : List D) (m : D) : List D := match m with
  | .tup [.int a, .int b] => ss.take a.toNat ++ ss.drop b.toNat
  | _ => ss
noncomputable def inB (bar : List D) (d : D) : Bool := (erL bar).any fun y => PyData.eqv y (er d)
noncomputable def stdB (lim : Int) (bar : List D) (t : D) : Bool := match t with
  | .tup [.tup ss, b, e, m] => ss.all (inR 0 1039) && (bsB ss.length b e && (stB ss.length m && (decide (((outS ss m).length : Int) ≤ lim) && !((outS ss m).any (inB bar)))))
  | _ => false
theorem inR_int {lo hi : Int} {d : D} (h : inR lo hi d = true) : ∃ i, d = .int i ∧ lo ≤ i ∧ i ≤ hi := by
  cases d <;> simp only [inR, Bool.and_eq_true, decide_eq_true_eq] at h <;> first | (cases h; done) | exact ⟨_, rfl, h.1, h.2⟩
theorem inR_no {lo hi i : Int} (h : inR lo hi (.int i) = false) : ¬ (lo ≤ i ∧ i ≤ hi) := by
  simp only [inR, Bool.and_eq_false_iff, decide_eq_false_iff_not] at h
  omega
theorem inR_yes {lo hi i : Int} (h : lo ≤ i ∧ i ≤ hi) : inR lo hi (.int i) = true := by simp only [inR, h.1, h.2, decide_true, Bool.and_self]
theorem stB_no2 {len : Int} {ds : List D} (h : ((ds.length : Int) == 2) = false) : stB len (.tup ds) = false := by
  match ds, h with
  | [a, b], h => simp at h
  | [], _ => rfl
  | [a], _ => cases a <;> rfl
  | a :: b :: _ :: _, _ => cases a <;> cases b <;> rfl
theorem stB_noA {len : Int} {a b : D} (h : inR 0 len a = false) : stB len (.tup [a, b]) = false := by
  cases a with
  | int i =>
    cases b with
    | int j =>
      have := inR_no h
      simp only [stB, Bool.and_eq_false_iff, decide_eq_false_iff_not]
      omega
    | _ => rfl
  | _ => rfl
theorem pst_eq (m : D) (len : Int) (n : Nat) (h : plain m = true) (hm : isNon m = false) : f_p_is_marked_stretch [m, .int len] n = .ok (.bool (stB len m)) [m, .int len] n := by
  unfold f_p_is_marked_stretch m_p_is_marked_stretch
  walk_at "mr"
  cases m with
  | non => simp [isNon] at hm
  | tup ds =>
    walk_at "mr"
    cases hq : (((ds.length : Nat) : Int) == 2) with
    | true =>
      obtain ⟨a, b, rfl⟩ := len2 hq
      have ha : plain a = true := plainL_mem (ds := [a, b]) (by simpa [Mi.plain] using h) (by simp)
      have hb : plain b = true := plainL_mem (ds := [a, b]) (by simpa [Mi.plain] using h) (by simp)
      walk_at "mr"
      rw [isw_eq a 0 len n ha]
      walk_at "mr"
      cases hi : inR 0 len a with
      | false => walk_at "mr"; rw [stB_noA hi]
      | true =>
        obtain ⟨i, rfl, h0, h1⟩ := inR_int hi
        walk_at "mr"
        rw [isw_eq b _ _ n hb]
        walk_at "mr"
        cases b with
        | int j =>
          simp only [inR, stB, RF.ok.injEq, D.bool.injEq, and_true]
          rw [Bool.eq_iff_iff]
          simp only [Bool.and_eq_true, decide_eq_true_eq]
          split <;> omega
        | _ => rfl
    | false =>
      walk_at "mr"
      rw [stB_no2 hq]
  | dct _ _ _ => simp [Mi.plain] at h
  | obj _ _ _ _ => simp [Mi.plain] at h
  | _ => walk_at "mr"; rfl
theorem lst_eq (m : D) (len : Int) (n : Nat) (h : plain m = true) : f_l_is_stretch [m, .int len] n = .ok (.bool (stB len m)) [m, .int len] n := by
  unfold f_l_is_stretch m_l_is_stretch
  walk_at "mr"
  cases m with
  | non => simp only [isNon]; walk_at "mr"; rfl
  | tup ds =>
    simp only [isNon]
    walk_at "mr"
    cases hq : (((ds.length : Nat) : Int) == 2) with
    | true =>
      obtain ⟨a, b, rfl⟩ := len2 hq
      have ha : plain a = true := plainL_mem (ds := [a, b]) (by simpa [Mi.plain] using h) (by simp)
      have hb : plain b = true := plainL_mem (ds := [a, b]) (by simpa [Mi.plain] using h) (by simp)
      walk_at "mr"
      rw [lfrom_eq a 0 len n ha]
      walk_at "mr"
      cases hi : inR 0 len a with
      | false => walk_at "mr"; rw [stB_noA hi]
      | true =>
        obtain ⟨i, rfl, h0, h1⟩ := inR_int hi
        walk_at "mr"
        rw [lfrom_eq b _ _ n hb]
        walk_at "mr"
        cases hj : inR 0 len b with
        | false =>
          walk_at "mr"
          cases b with
          | int j =>
            have := inR_no hj
            rw [show stB len (.tup [.int i, .int j]) = false by simp only [stB, Bool.and_eq_false_iff, decide_eq_false_iff_not]; omega]
          | _ => rfl
        | true =>
          obtain ⟨j, rfl, h2, h3⟩ := inR_int hj
          walk_at "mr"
          by_cases hc : 1 ≤ j - i
          · simp only [hc, decide_true]
            walk_at "mr"
            simp only [stB, RF.ok.injEq, D.bool.injEq, and_true]
            rw [Bool.eq_iff_iff]
            simp only [Bool.and_eq_true, decide_eq_true_eq]
            omega
          · simp only [hc, decide_false]
            walk_at "mr"
            rw [show stB len (.tup [.int i, .int j]) = false by simp only [stB, Bool.and_eq_false_iff, decide_eq_false_iff_not]; omega]
    | false =>
      walk_at "mr"
      rw [stB_no2 hq]
  | dct _ _ _ => simp [Mi.plain] at h
  | obj _ _ _ _ => simp [Mi.plain] at h
  | _ => simp only [isNon]; walk_at "mr"; rfl
theorem stB_cases {len : Int} {m : D} (h : stB len m = true) : m = .non ∨ ∃ a b : Nat, m = .tup [.int a, .int b] ∧ a < b ∧ (b : Int) ≤ len ∧ b ≤ a + 96 := by
  unfold stB at h
  split at h
  · exact .inl rfl
  · rename_i a b
    simp only [Bool.and_eq_true, decide_eq_true_eq] at h
    obtain ⟨k, rfl⟩ := Int.eq_ofNat_of_zero_le h.1.1.1
    obtain ⟨j, rfl⟩ := Int.eq_ofNat_of_zero_le (show 0 ≤ b by omega)
    exact .inr ⟨k, j, rfl, by omega, by omega, by omega⟩
  · cases h
theorem free_eq (ss : List D) (m : D) (n : Nat) (hs : ss.length ≤ 2000) (h : stB ss.length m = true) : f_p_free_signs [.tup ss, m] n = .ok (.tup (outS ss m)) [.tup ss, m] n := by
  unfold f_p_free_signs m_p_free_signs
  walk_at "mr"
  rcases stB_cases h with rfl | ⟨a, b, rfl, h1, h2, h3⟩
  · simp only [isNon]
    walk_at "mr"
    rfl
  · simp only [isNon]
    walk_at "mr"
    rw [cut_tk, cut_dr, y_addT (by rw [zl]; simp only [List.length_take, List.length_drop]; omega)]
    walk_at "mr"
    simp only [outS, Int.toNat_natCast]
theorem out_mem {ss : List D} {m d : D} (h : d ∈ outS ss m) : d ∈ ss := by
  unfold outS at h
  split at h
  · rcases List.mem_append.mp h with h | h
    · exact List.mem_of_mem_take h
    · exact List.mem_of_mem_drop h
  · exact h
theorem y_inI {bar : List D} {i : Int} {s : Stt} (g : GdL bar) : inD (.int i) (.tup bar) s = .ok (.bool (inB bar (.int i))) s := y_in rfl (by
  simp only [inC, g.1, g.2, Mi.plain, er, PyData.canLay0, PyData.depth, Bool.and_self, Bool.true_and, decide_eq_true_eq]; omega)
theorem hasb_eq (bar ss : List D) (n : Nat) (g : GdL bar) (hs : ss.length ≤ 2000) (hi : ∀ d ∈ ss, inR 0 1039 d = true) : ∃ n', n ≤ n' ∧ f_p_has_barred [.tup bar, .tup ss] n = .ok (.bool (ss.any (inB bar))) [.tup bar, .tup ss] n' := by
  unfold f_p_has_barred m_p_has_barred
  walk_at "mr"
  obtain ⟨n', hn, hc⟩ := mComp_tup (mc := mVar 1) (me := mBin (mVar 0) (mVar 1) inD) (g := fun d => .bool (inB bar d)) (ds := ss) (ix := [0]) (s := ⟨[some (.tup bar), some (.tup ss)], [some (.tup bar), some (.tup ss)], n⟩) (s1 := ⟨[some (.tup bar), some (.tup ss)], [some (.tup bar), some (.tup ss)], n⟩) (by walk_at "mr") (by rw [zl]; omega) (by
    intro d hd tm m
    obtain ⟨i, rfl, _, _⟩ := inR_int (hi d hd)
    refine ⟨m, Nat.le_refl _, ?_⟩
    show mBin _ _ _ ⟨[some (.int i), some (.tup bar)], tm, m⟩ = _
    walk_at "mr"
    rw [y_inI g]
    rfl)
  refine ⟨n' + 1, by simp only at hn; omega, ?_⟩
  rw [hc]
  walk_at "mr"
  rw [y_any (bools_map ss (inB bar))]
  walk_at "mr"
  simp only [List.any_map]
  rfl
set_option Elab.async false
set_option linter.all false
set_option maxRecDepth 100000
set_option maxHeartbeats 1000000
theorem stdB_no4 {lim : Int} {bar ds : List D} (h : ((ds.length : Int) == 4) = false) : stdB lim bar (.tup ds) = false := by
  unfold stdB
  split
  · rename_i e; cases e; simp at h
  · rfl
theorem rowB_tup {lo hi top : Int} {d : D} (h : rowB lo hi top d = true) : ∃ ss, d = .tup ss ∧ lo ≤ (ss.length : Int) ∧ (ss.length : Int) ≤ hi ∧ ∀ e ∈ ss, inR 0 top e = true := by
  cases d <;> simp only [rowB, Bool.and_eq_true, decide_eq_true_eq, List.all_eq_true] at h <;> first | (cases h; done) | exact ⟨_, rfl, h.1.1, h.1.2, h.2⟩
theorem stdB_noR {lim hi : Int} {bar : List D} {s b e m : D} (hh : lim + 96 ≤ hi) (h : rowB 0 hi 1039 s = false) : stdB lim bar (.tup [s, b, e, m]) = false := by
  unfold stdB
  split
  · rename_i ss b' e' m' he
    simp only [D.tup.injEq, List.cons.injEq, and_true] at he
    obtain ⟨rfl, rfl, rfl, rfl⟩ := he
    cases h1 : ss.all (inR 0 1039) with
    | false => rfl
    | true =>
      simp only [rowB, h1, Bool.and_true, Bool.and_eq_false_iff, decide_eq_false_iff_not] at h
      cases h2 : stB ss.length m with
      | false => simp only [Bool.false_and, Bool.and_false]
      | true =>
        have : ¬ (((outS ss m).length : Int) ≤ lim) := by
          rcases stB_cases h2 with rfl | ⟨a, c, rfl, q1, q2, q3⟩
          · simp only [outS]; omega
          · simp only [outS, List.length_append, List.length_take, List.length_drop, Int.toNat_natCast]; omega
        simp only [this, decide_false, Bool.false_and, Bool.and_false]
  · rfl
theorem stdB_noS {lim : Int} {bar ss : List D} {b e m : D} (h : bsB ss.length b e = false) : stdB lim bar (.tup [.tup ss, b, e, m]) = false := by
  simp only [stdB, h, Bool.false_and, Bool.and_false]
theorem stdB_noM {lim : Int} {bar ss : List D} {b e m : D} (h : stB ss.length m = false) : stdB lim bar (.tup [.tup ss, b, e, m]) = false := by
  simp only [stdB, h, Bool.false_and, Bool.and_false]
theorem stdB_yes {lim : Int} {bar ss : List D} {b e m : D} (h1 : ∀ d ∈ ss, inR 0 1039 d = true) (h2 : bsB ss.length b e = true) (h3 : stB ss.length m = true) : stdB lim bar (.tup [.tup ss, b, e, m]) = (decide (((outS ss m).length : Int) ≤ lim) && !((outS ss m).any (inB bar))) := by
  simp only [stdB, h2, h3, List.all_eq_true.mpr h1, Bool.true_and]
theorem pstd_eq (lim : Int) (bar : List D) (t : D) (n : Nat) (h0 : 0 ≤ lim) (h1 : lim ≤ 60) (gb : GdL bar) (h : plain t = true) : ∃ n', n ≤ n' ∧ f_p_is_standing [.tup [.int lim, .tup bar], t] n = .ok (.bool (stdB lim bar t)) [.tup [.int lim, .tup bar], t] n' := by
  unfold f_p_is_standing m_p_is_standing
  walk_at "mr"
  cases t with
  | tup ds =>
    walk_at "mr"
    cases hq : (((ds.length : Nat) : Int) == 4) with
    | false =>
      refine ⟨n, Nat.le_refl _, ?_⟩
      walk_at "mr"
      rw [stdB_no4 hq]
    | true =>
      obtain ⟨s, b, e, m, rfl⟩ := len4 hq
      have hp := fun d hd => plainL_mem (ds := [s, b, e, m]) (d := d) (by simpa [Mi.plain] using h) hd
      have hs := hp s (by simp)
      have hb := hp b (by simp)
      have he := hp e (by simp)
      have hm := hp m (by simp)
      walk_at "mr"
      obtain ⟨n1, hn1, e1⟩ := row_eq s 0 (lim + 96) 1039 n hs (by omega)
      rw [e1]
      walk_at "mr"
      cases hr : rowB 0 (lim + 96) 1039 s with
      | false =>
        refine ⟨n1, hn1, ?_⟩
        walk_at "mr"
        rw [stdB_noR (Int.le_refl _) hr]
      | true =>
        obtain ⟨ss, rfl, l0, l1, hi⟩ := rowB_tup hr
        walk_at "mr"
        rw [isw_eq b 0 ss.length n1 hb]
        walk_at "mr"
        cases hbi : inR 0 ss.length b with
        | false =>
          refine ⟨n1, hn1, ?_⟩
          walk_at "mr"
          rw [stdB_noS (by
            cases b <;> cases e <;> first | rfl | skip
            have := inR_no hbi
            simp only [bsB, Bool.and_eq_false_iff, decide_eq_false_iff_not]
            omega)]
        | true =>
          obtain ⟨bi, rfl, b0, b1⟩ := inR_int hbi
          walk_at "mr"
          rw [isw_eq e bi ss.length n1 he]
          walk_at "mr"
          cases hei : inR bi ss.length e with
          | false =>
            refine ⟨n1, hn1, ?_⟩
            walk_at "mr"
            rw [stdB_noS (by
              cases e <;> first | rfl | skip
              have := inR_no hei
              simp only [bsB, Bool.and_eq_false_iff, decide_eq_false_iff_not]
              omega)]
          | true =>
            obtain ⟨ei, rfl, e0, e1⟩ := inR_int hei
            have hbs : bsB ss.length (.int bi) (.int ei) = true := by simp only [bsB, Bool.and_eq_true, decide_eq_true_eq]; omega
            walk_at "mr"
            have rest : stB ss.length m = true → ∃ n', n ≤ n' ∧ ((seqS (sAsg (.nm 8) (mCall f_p_free_signs [(mVar 4), (mVar 7)])) (sRet (mAndV (mBin (mCB [(mVar 8)] lenD) (mVar 2) leD) (mNotV (mCall f_p_has_barred [(mVar 3), (mVar 8)]))))) ⟨[some (.tup [.int lim, .tup bar]), some (.tup [.tup ss, .int bi, .int ei, m]), some (.int lim), some (.tup bar), some (.tup ss), some (.int bi), some (.int ei), some m, none], [some (.tup [.int lim, .tup bar]), some (.tup [.tup ss, .int bi, .int ei, m])], n1⟩).fin = .ok (.bool (stdB lim bar (.tup [.tup ss, .int bi, .int ei, m]))) [.tup [.int lim, .tup bar], .tup [.tup ss, .int bi, .int ei, m]] n' := by
              intro hst
              rw [stdB_yes hi hbs hst]
              walk_at "mr"
              rw [free_eq ss m n1 (by omega) hst]
              walk_at "mr"
              by_cases hl : (((outS ss m).length : Int) ≤ lim)
              · simp only [hl, decide_true]
                walk_at "mr"
                obtain ⟨n2, hn2, e2⟩ := hasb_eq bar (outS ss m) n1 gb (by omega) (fun d hd => hi d (out_mem hd))
                rw [e2]
                walk_at "mr"
                exact ⟨n2, by omega, rfl⟩
              · simp only [hl, decide_false]
                walk_at "mr"
                exact ⟨n1, hn1, rfl⟩
            cases hnm : isNon m with
            | true =>
              have : m = .non := by cases m <;> simp [isNon] at hnm ⊢
              subst this
              obtain ⟨n', q1, q2⟩ := rest rfl
              refine ⟨n', q1, ?_⟩
              rw [← q2]
              walk_at "mr"
            | false =>
              walk_at "mr"
              rw [pst_eq m ss.length n1 hm hnm]
              walk_at "mr"
              cases hst : stB ss.length m with
              | true =>
                obtain ⟨n', q1, q2⟩ := rest hst
                refine ⟨n', q1, ?_⟩
                rw [← q2]
                walk_at "mr"
              | false =>
                refine ⟨n1, hn1, ?_⟩
                walk_at "mr"
                rw [stdB_noM hst]
  | dct _ _ _ => simp [Mi.plain] at h
  | obj _ _ _ _ => simp [Mi.plain] at h
  | _ => refine ⟨n, Nat.le_refl _, ?_⟩; walk_at "mr"; rfl
set_option Elab.async false
set_option linter.all false
set_option maxRecDepth 100000
set_option maxHeartbeats 1000000
theorem eq_nil {xs : List D} {k k' : Nat} {s : Stt} (g : GdL xs) : eqD (.lst k xs) (.lst k' []) s = .ok (.bool xs.isEmpty) s := by
  rw [y_eq (by simp only [eqC, Mi.plain, er, erL, plainL, PyData.canLay0, PyData.canLayAll0, g.1, g.2, Bool.and_self, Bool.true_and, decide_eq_true_eq, PyData.depth, PyData.depthAll]; omega)]
  cases xs <;> simp [er, erL, PyData.eqv, PyData.eqvAll]
theorem gdl_sub {xs ys : List D} (g : GdL xs) (h : ∀ d ∈ ys, d ∈ xs) : GdL ys := by
  have ga : ∀ {zs : List D}, GdL zs ↔ ∀ d ∈ zs, Gd d := by
    intro zs
    induction zs with
    | nil => exact Iff.intro (fun _ d h => absurd h List.not_mem_nil) (fun _ => ⟨rfl, rfl⟩)
    | cons z zs ih => rw [GdL.cons, ih]; simp only [List.forall_mem_cons]
  exact ga.mpr fun d hd => ga.mp g d (h d hd)
theorem gdl_ints {xs : List D} (h : ∀ d ∈ xs, inR 0 1039 d = true) : GdL xs := by
  induction xs with
  | nil => exact ⟨rfl, rfl⟩
  | cons z zs ih =>
    rw [GdL.cons]
    obtain ⟨i, rfl, _, _⟩ := inR_int (h z (by simp))
    exact ⟨⟨rfl, rfl⟩, ih fun d hd => h d (List.mem_cons_of_mem _ hd)⟩
theorem filt_any {xs : List D} {p : D → Bool} : (xs.filter p).isEmpty = !(xs.any p) := by
  induction xs with
  | nil => rfl
  | cons z zs ih => rw [List.filter_cons, List.any_cons]; cases p z <;> simp [ih]
theorem lstd_eq (lim : Int) (bar : List D) (t : D) (n : Nat) (h0 : 0 ≤ lim) (h1 : lim ≤ 60) (gb : GdL bar) (h : plain t = true) : ∃ n', n ≤ n' ∧ f_l_is_standing [.tup [.int lim, .tup bar], t] n = .ok (.bool (stdB lim bar t)) [.tup [.int lim, .tup bar], t] n' := by
  unfold f_l_is_standing m_l_is_standing
  walk_at "mr"
  cases t with
  | tup ds =>
    walk_at "mr"
    cases hq : (((ds.length : Nat) : Int) == 4) with
    | false =>
      refine ⟨n, Nat.le_refl _, ?_⟩
      walk_at "mr"
      rw [stdB_no4 hq]
    | true =>
      obtain ⟨s, b, e, m, rfl⟩ := len4 hq
      have hp := fun d hd => plainL_mem (ds := [s, b, e, m]) (d := d) (by simpa [Mi.plain] using h) hd
      have hs := hp s (by simp)
      have hb := hp b (by simp)
      have he := hp e (by simp)
      have hm := hp m (by simp)
      walk_at "mr"
      obtain ⟨n1, hn1, e1⟩ := lsg_eq s 0 999 n hs (by omega)
      rw [e1]
      walk_at "mr"
      cases hr : rowB 0 999 1039 s with
      | false =>
        refine ⟨n1, hn1, ?_⟩
        walk_at "mr"
        rw [stdB_noR (by omega) hr]
      | true =>
        obtain ⟨ss, rfl, l0, l1, hi⟩ := rowB_tup hr
        walk_at "mr"
        rw [lfrom_eq b 0 ss.length n1 hb]
        walk_at "mr"
        cases hbi : inR 0 ss.length b with
        | false =>
          refine ⟨n1, hn1, ?_⟩
          walk_at "mr"
          rw [stdB_noS (by
            cases b <;> cases e <;> first | rfl | skip
            have := inR_no hbi
            simp only [bsB, Bool.and_eq_false_iff, decide_eq_false_iff_not]
            omega)]
        | true =>
          obtain ⟨bi, rfl, b0, b1⟩ := inR_int hbi
          walk_at "mr"
          rw [lfrom_eq e 0 ss.length n1 he]
          walk_at "mr"
          cases hei : inR 0 ss.length e with
          | false =>
            refine ⟨n1, hn1, ?_⟩
            walk_at "mr"
            rw [stdB_noS (by
              cases e <;> first | rfl | skip
              have := inR_no hei
              simp only [bsB, Bool.and_eq_false_iff, decide_eq_false_iff_not]
              omega)]
          | true =>
            obtain ⟨ei, rfl, e0, e1⟩ := inR_int hei
            walk_at "mr"
            by_cases hlt : ei < bi
            · simp only [hlt, decide_true]
              refine ⟨n1, hn1, ?_⟩
              walk_at "mr"
              rw [stdB_noS (by
                simp only [bsB, Bool.and_eq_false_iff, decide_eq_false_iff_not]
                omega)]
            · simp only [hlt, decide_false]
              have hbs : bsB ss.length (.int bi) (.int ei) = true := by simp only [bsB, Bool.and_eq_true, decide_eq_true_eq]; omega
              walk_at "mr"
              rw [lst_eq m ss.length n1 hm]
              walk_at "mr"
              cases hst : stB ss.length m with
              | false =>
                refine ⟨n1, hn1, ?_⟩
                walk_at "mr"
                rw [stdB_noM hst]
              | true =>
                rw [stdB_yes hi hbs hst]
                have rest : ∀ (a c : Nat), a ≤ c → outS ss m = ss.take a ++ ss.drop c → ∃ n', n ≤ n' ∧ ((seqS (sAsg (.nm 9) (mComp (mEnm [(mVar 2)]) (.tp [(.nm 0), (.nm 1)]) (mNot (mBoo (mChain (mVar 2) (mVar 0) (mVar 3) leD ltD))) (mVar 1) 2 [7, 8]))
    (sRet (mAndV (mBin (mCB [(mVar 9)] lenD) (mBin (mVar 0) (mC (.int 0)) ixD) leD) (mBin (mComp (mSeqI (mVar 9)) (.nm 0) (mBoo (mBin (mVar 0) (mBin (mVar 1) (mC (.int 1)) ixD) inD)) (mVar 0) 1 [0]) (mCB [] lstM) eqD)))) ⟨[some (.tup [.int lim, .tup bar]), some (.tup [.tup ss, .int bi, .int ei, m]), some (.tup ss), some (.int bi), some (.int ei), some m, some (.int ss.length), some (.int a), some (.int c), none], [some (.tup [.int lim, .tup bar]), some (.tup [.tup ss, .int bi, .int ei, m])], n1⟩).fin = .ok (.bool (decide (((outS ss m).length : Int) ≤ lim) && !((outS ss m).any (inB bar)))) [.tup [.int lim, .tup bar], .tup [.tup ss, .int bi, .int ei, m]] n' := by
                  intro a c hac ho
                  walk_at "mr"
                  obtain ⟨n2, hn2, e2⟩ := mComp_enu (ms := [mVar 2]) (mt := mNot (mBoo (mChain (mVar 2) (mVar 0) (mVar 3) leD ltD))) (me := mVar 1) (p := fun k _ => !(decide ((a : Int) ≤ (k : Int)) && decide ((k : Int) < (c : Int)))) (g := fun _ d => d) (ds := ss) (ix := [7, 8]) (σ := [some (.tup [.int lim, .tup bar]), some (.tup [.tup ss, .int bi, .int ei, m]), some (.tup ss), some (.int bi), some (.int ei), some m, some (.int ss.length), some (.int a), some (.int c), none]) (tm := [some (.tup [.int lim, .tup bar]), some (.tup [.tup ss, .int bi, .int ei, m])]) (n := n1) (s := ⟨[some (.tup [.int lim, .tup bar]), some (.tup [.tup ss, .int bi, .int ei, m]), some (.tup ss), some (.int bi), some (.int ei), some m, some (.int ss.length), some (.int a), some (.int c), none], [some (.tup [.int lim, .tup bar]), some (.tup [.tup ss, .int bi, .int ei, m])], n1⟩) (by walk_at "mr") (by rw [zl]; omega)
                    (by
                      intro k d hd tm n
                      refine ⟨n, Nat.le_refl _, ?_⟩
                      simp only [List.map_cons, List.map_nil, List.getElem?_cons_zero, List.getElem?_cons_succ, Option.getD_some]
                      walk_at "mr"
                      by_cases hk : (a : Int) ≤ (k : Int)
                      · simp only [hk, decide_true]; walk_at "mr"
                      · simp only [hk, decide_false]; walk_at "mr")
                    (by
                      intro k d hd hp tm n
                      refine ⟨n, Nat.le_refl _, ?_⟩
                      simp only [List.map_cons, List.map_nil, List.getElem?_cons_zero, List.getElem?_cons_succ, Option.getD_some]
                      walk_at "mr")
                  rw [e2, enu_out ss a c hac, ← ho]
                  walk_at "mr"
                  by_cases hl : (((outS ss m).length : Int) ≤ lim)
                  · simp only [hl, decide_true]
                    walk_at "mr"
                    obtain ⟨n3, hn3, e3⟩ := mComp_lstG (mc := mVar 9) (mt := mBoo (mBin (mVar 0) (mBin (mVar 1) (mC (.int 1)) ixD) inD)) (me := mVar 0) (p := inB bar) (g := fun d => d) (l := n2) (ds := outS ss m) (ix := [0]) (σ := [some (.tup [.int lim, .tup bar]), some (.tup [.tup ss, .int bi, .int ei, m]), some (.tup ss), some (.int bi), some (.int ei), some m, some (.int ss.length), some (.int a), some (.int c), some (.lst n2 (outS ss m))]) (tm := [some (.tup [.int lim, .tup bar]), some (.tup [.tup ss, .int bi, .int ei, m])]) (n := n2 + 1) (s := ⟨[some (.tup [.int lim, .tup bar]), some (.tup [.tup ss, .int bi, .int ei, m]), some (.tup ss), some (.int bi), some (.int ei), some m, some (.int ss.length), some (.int a), some (.int c), some (.lst n2 (outS ss m))], [some (.tup [.int lim, .tup bar]), some (.tup [.tup ss, .int bi, .int ei, m])], n2 + 1⟩) (by walk_at "mr") (by rw [zl]; omega)
                      (by
                        intro d hd tm n
                        obtain ⟨i, rfl, _, _⟩ := inR_int (hi d (out_mem hd))
                        refine ⟨n, Nat.le_refl _, ?_⟩
                        simp only [List.map_cons, List.map_nil, List.getElem?_cons_zero, List.getElem?_cons_succ, Option.getD_some]
                        walk_at "mr"
                        rw [y_inI gb]
                        walk_at "mr")
                      (by
                        intro d hd hp tm n
                        refine ⟨n, Nat.le_refl _, ?_⟩
                        simp only [List.map_cons, List.map_nil, List.getElem?_cons_zero, List.getElem?_cons_succ, Option.getD_some]
                        walk_at "mr")
                    rw [e3]
                    walk_at "mr"
                    have gx : GdL (List.map (fun d => d) ((outS ss m).filter (inB bar))) := gdl_sub (gdl_ints hi) fun d hd => by
                      rw [List.map_id'] at hd
                      exact out_mem (List.mem_filter.mp hd).1
                    rw [eq_nil gx]
                    walk_at "mr"
                    refine ⟨n3 + 1 + 1, by omega, ?_⟩
                    rw [List.map_id', filt_any]
                  · simp only [hl, decide_false]
                    walk_at "mr"
                    exact ⟨n2 + 1, by omega, rfl⟩
                rcases stB_cases hst with rfl | ⟨a, c, rfl, q1, q2, q3⟩
                · obtain ⟨n', q1, q2⟩ := rest 0 0 (Nat.le_refl _) (by simp [outS])
                  refine ⟨n', q1, ?_⟩
                  rw [← q2]
                  walk_at "mr"
                  rfl
                · obtain ⟨n', q1, q2⟩ := rest a c (by omega) (by simp only [outS, Int.toNat_natCast])
                  refine ⟨n', q1, ?_⟩
                  rw [← q2]
                  walk_at "mr"
                  simp only [List.isEmpty_cons, Bool.not_false]
                  walk_at "mr"
  | dct _ _ _ => simp [Mi.plain] at h
  | obj _ _ _ _ => simp [Mi.plain] at h
  | _ => refine ⟨n, Nat.le_refl _, ?_⟩; walk_at "mr"; rfl
set_option Elab.async false
set_option linter.all false
set_option maxRecDepth 100000
set_option maxHeartbeats 1000000
noncomputable def Sg (ys : List D) : Prop := ∀ d ∈ ys, inR 0 1039 d = true
theorem sg_labs : ∀ {ys : List D}, Sg ys → labsL ys = []
  | [], _ => rfl
  | y :: ys, h => by
    obtain ⟨i, rfl, _, _⟩ := inR_int (h y (by simp))
    simp only [labsL, labs, List.nil_append]
    exact sg_labs fun z hz => h z (by simp [hz])
theorem sg_rp {ys : List D} (h : Sg ys) : ∀ k d, rpL (pl k d) ys = ys := fun k d => rpL_id ys fun j hj => by rw [sg_labs h] at hj; cases hj
theorem sg_tk {ys : List D} (h : Sg ys) (k : Nat) : Sg (ys.take k) := fun d hd => h d (List.mem_of_mem_take hd)
theorem sg_dr {ys : List D} (h : Sg ys) (k : Nat) : Sg (ys.drop k) := fun d hd => h d (List.mem_of_mem_drop hd)
theorem sg_app {ys zs : List D} (h : Sg ys) (g : Sg zs) : Sg (ys ++ zs) := fun d hd => by
  rcases List.mem_append.mp hd with hd | hd
  · exact h d hd
  · exact g d hd
theorem sign_eq (l : Nat) (c x far : Int) (n : Nat) (h : Bg c x) (hf : 0 ≤ far) : ∃ r c' x', (0 ≤ r ∧ r ≤ 1039) ∧ Bg c' x' ∧ f_l_sign [.lst l [.int c, .int x], .int far] n = .ok (.int r) [.lst l [.int c', .int x'], .int far] n := by
  unfold f_l_sign m_l_sign
  walk_at "mr"
  obtain ⟨w, c1, x1, hw0, hw1, b1, e1⟩ := take_eq l c x 4 n h (by decide) (by decide)
  rw [e1, callK_bag rfl rfl rfl (by walk_at "mr") (by walk_at "mr")]
  walk_at "mr"
  cases hw : (w == 0) with
  | true =>
    walk_at "mr"
    obtain ⟨r, c2, x2, hr0, hr1, b2, e2⟩ := take_eq l c1 x1 1040 n b1 (by decide) (by decide)
    rw [e2, callK_bag rfl rfl rfl (by walk_at "mr") (by walk_at "mr")]
    walk_at "mr"
    exact ⟨r, c2, x2, ⟨hr0, by omega⟩, b2, rfl⟩
  | false =>
    walk_at "mr"
    obtain ⟨r, c2, x2, hr0, hr1, b2, e2⟩ := take_eq l c1 x1 9 n b1 (by decide) (by decide)
    rw [e2, callK_bag rfl rfl rfl (by walk_at "mr") (by walk_at "mr")]
    walk_at "mr"
    rw [y_mod (by decide)]
    walk_at "mr"
    exact ⟨_, c2, x2, ⟨Int.emod_nonneg _ (by decide), by have := Int.emod_lt_of_pos (far + r) (show (0 : Int) < 1040 by decide); omega⟩, b2, rfl⟩
theorem signs_eq (l : Nat) (c x far many : Int) (n : Nat) (h : Bg c x) (hn : l < n) (hf : 0 ≤ far) (h0 : 0 ≤ many) (h1 : many ≤ 1000) : ∃ ys c' x' n', Sg ys ∧ (ys.length : Int) = many ∧ Bg c' x' ∧ n ≤ n' ∧ f_l_signs [.lst l [.int c, .int x], .int far, .int many] n = .ok (.tup ys) [.lst l [.int c', .int x'], .int far, .int many] n' := by
  unfold f_l_signs m_l_signs
  walk_at "mr"
  obtain ⟨ys, b', n', g1, g2, g3, ⟨c3, x3, rfl, h3⟩, g5, g6⟩ := mComp_rng (ms := [mVar 2]) (me := mCall f_l_sign [mVar 1, mVar 2]) (N := many.toNat) (ix := [0, 1]) (s := ⟨[some (.lst l [.int c, .int x]), some (.int far), some (.int many)], [some (.lst l [.int c, .int x]), some (.int far), some (.int many)], n⟩) (l := l) (n := n) (j := many) (σ0 := [some (.lst l [.int c, .int x]), some (.int far), some (.int many)]) (tm0 := [some (.lst l [.int c, .int x]), some (.int far), some (.int many)]) (b := [.int c, .int x]) (Bg := fun b => ∃ c x, b = [.int c, .int x] ∧ Bg c x) (Q := fun _ d => inR 0 1039 d = true) (fun _ _ _ _ h => h)
    (by walk_at "mr") rfl ⟨by omega, by omega⟩ (by rw [zl]; omega) ⟨c, x, rfl, h⟩ hn (by walk_at "mr") (by walk_at "mr") (by simp only [List.map_cons, List.map_nil, List.getElem?_cons_zero, List.getElem?_cons_succ, Option.getD_some]; walk_at "mr") (by
      rintro i hi b tm m ⟨c, x, rfl, hb⟩ hm hfr
      obtain ⟨r, c', x', hr, h', e'⟩ := sign_eq l c x far m hb hf
      refine ⟨.int r, [.int c', .int x'], m, ⟨c', x', rfl, h'⟩, inR_yes hr, Nat.le_refl _, by simp [labs], ?_⟩
      simp only [List.map_cons, List.map_nil, List.getElem?_cons_zero, List.getElem?_cons_succ, Option.getD_some]
      walk_at "mr"
      rw [e', callK_bag rfl rfl rfl (by walk_at "mr") hfr]
      walk_at "mr")
  rw [g6]
  walk_at "mr"
  exact ⟨ys, c3, x3, n' + 1, g2, by omega, h3, by omega, rfl⟩
theorem at4' {a b c d w : Int} (h0 : 0 ≤ w) (h1 : w < 4) : ∃ v, (v = a ∨ v = b ∨ v = c ∨ v = d) ∧ atI [D.int a, D.int b, D.int c, D.int d] w = some (.int v) := by
  obtain ⟨e, he, q⟩ := at_mem (ds := [D.int a, D.int b, D.int c, D.int d]) h0 (by simpa using h1)
  simp only [List.mem_cons, List.not_mem_nil, or_false] at he
  rcases he with rfl | rfl | rfl | rfl
  · exact ⟨a, by simp, q⟩
  · exact ⟨b, by simp, q⟩
  · exact ⟨c, by simp, q⟩
  · exact ⟨d, by simp, q⟩
theorem field_eq (l : Nat) (c x far : Int) (n : Nat) (h : Bg c x) (hn : l < n) (hf : 0 ≤ far) : ∃ lim bar c' x' n', (0 ≤ lim ∧ lim ≤ 60) ∧ Sg bar ∧ bar.length ≤ 20 ∧ Bg c' x' ∧ n ≤ n' ∧ f_l_field [.lst l [.int c, .int x], .int far] n = .ok (.tup [.int lim, .tup bar]) [.lst l [.int c', .int x'], .int far] n' := by
  unfold f_l_field m_l_field
  walk_at "mr"
  obtain ⟨w, c1, x1, hw0, hw1, b1, e1⟩ := take_eq l c x 4 n h (by decide) (by decide)
  rw [e1, callK_bag rfl rfl rfl (by walk_at "mr") (by walk_at "mr")]
  walk_at "mr"
  obtain ⟨v, hv, ev⟩ := at4' (a := 61) (b := 12) (c := 25) (d := 61) hw0 hw1
  rw [ev]
  walk_at "mr"
  obtain ⟨lim, c2, x2, hl0, hl1, b2, e2⟩ := take_eq l c1 x1 v (n + 1) b1 (by omega) (by omega)
  rw [e2, callK_bag rfl rfl rfl (by walk_at "mr") (by walk_at "mr")]
  walk_at "mr"
  obtain ⟨u, hu, eu⟩ := at4' (a := 21) (b := 2) (c := 3) (d := 4) hw0 hw1
  rw [eu]
  walk_at "mr"
  obtain ⟨m, c3, x3, hm0, hm1, b3, e3⟩ := take_eq l c2 x2 u (n + 1 + 1) b2 (by omega) (by omega)
  rw [e3, callK_bag rfl rfl rfl (by walk_at "mr") (by walk_at "mr")]
  walk_at "mr"
  obtain ⟨ys, c4, x4, n', hy, hl, b4, hn', e4⟩ := signs_eq l c3 x3 far m (n + 1 + 1) b3 (by omega) hf hm0 (by omega)
  rw [e4, callK_bag rfl rfl rfl (by walk_at "mr") (by walk_at "mr")]
  walk_at "mr"
  exact ⟨lim, ys, c4, x4, n', ⟨hl0, by omega⟩, hy, by omega, b4, by omega, rfl⟩
theorem holes (f : Nat → Int) : ∀ (m : Nat) (B : List Int), (∀ i j, i < j → j < m → f i ≠ f j) → (∀ k, k < m → f k ∈ B) → m ≤ B.length
  | 0, _, _, _ => Nat.zero_le _
  | m + 1, B, h1, h2 => by
    have hm := h2 m (Nat.lt_succ_self m)
    have := holes f m (B.erase (f m)) (fun i j a b => h1 i j a (by omega)) fun k hk => (List.mem_erase_of_ne (h1 k m hk (Nat.lt_succ_self m))).mpr (h2 k (by omega))
    rw [List.length_erase_of_mem hm] at this
    have : 0 < B.length := List.length_pos_of_mem hm
    omega
noncomputable def ofI : D → Int
  | .int i => i
  | _ => 0
theorem inB_mem {bar : List D} {v : Int} (hb : Sg bar) (h : inB bar (.int v) = true) : v ∈ bar.map ofI := by
  induction bar with
  | nil => simp [inB, erL] at h
  | cons d ds ih =>
    obtain ⟨i, rfl, _, _⟩ := inR_int (hb d (by simp))
    simp only [inB, erL, er, List.any_cons, PyData.eqv, Bool.or_eq_true, beq_iff_eq] at h
    rcases h with h | h
    · simp [ofI, h]
    · exact List.mem_cons_of_mem _ (ih (fun e he => hb e (List.mem_cons_of_mem _ he)) h)
theorem y_ninI {bar : List D} {i : Int} {s : Stt} (g : GdL bar) : ninD (.int i) (.tup bar) s = .ok (.bool (!inB bar (.int i))) s := y_nin rfl (by
  simp only [inC, g.1, g.2, Mi.plain, er, PyData.canLay0, PyData.depth, Bool.and_self, Bool.true_and, decide_eq_true_eq]; omega)
noncomputable def mod1040 (d : D) : D := .int (ofI d % 1040)
theorem mem_ints {lo : Int} {N : Nat} {d : D} (h : d ∈ intsD lo N) : ∃ k : Nat, k < N ∧ d = .int (lo + k) := by
  simp only [intsD, List.mem_map, List.mem_range] at h
  obtain ⟨k, hk, rfl⟩ := h
  exact ⟨k, hk, rfl⟩
theorem free2_eq (lim : Int) (bar : List D) (v : Int) (n : Nat) (hb : Sg bar) (hl : bar.length ≤ 20) (hv0 : 0 ≤ v) (hv1 : v ≤ 1039) : ∃ r n', (0 ≤ r ∧ r ≤ 1039) ∧ n ≤ n' ∧ f_l_free [.tup [.int lim, .tup bar], .int v] n = .ok (.int r) [.tup [.int lim, .tup bar], .int v] n' := by
  have gb : GdL bar := gdl_ints hb
  unfold f_l_free m_l_free
  walk_at "mr"
  obtain ⟨n', h1, h2⟩ := mComp_gen (mi := mRng2 [(mVar 1), (mBin (mVar 1) (mC (.int 21)) addD)]) (K := kRng v 21) (mt := mBoo (mBin (mBin (mVar 0) (mC (.int 1040)) modD) (mBin (mVar 1) (mC (.int 1)) ixD) ninD)) (me := mBin (mVar 0) (mC (.int 1040)) modD) (p := fun d => !inB bar (mod1040 d)) (g := mod1040) (items := intsD v 21) (its := []) (ix := [0]) (s := ⟨[some (.tup [.int lim, .tup bar]), some (.int v)], [some (.tup [.int lim, .tup bar]), some (.int v)], n⟩) (σ := [some (.tup [.int lim, .tup bar]), some (.int v)]) (tm := [some (.tup [.int lim, .tup bar]), some (.int v)]) (n := n)
    (by
      show bd (mArgs _) rng2 _ = _
      walk_at "mr"
      have : rng2 [.int v, .int (v + 21)] ⟨[some (.tup [.int lim, .tup bar]), some (.int v)], [some (.tup [.int lim, .tup bar]), some (.int v)], n⟩ = .ok (kRng v (v + 21 - v).toNat) ⟨[some (.tup [.int lim, .tup bar]), some (.int v)], [some (.tup [.int lim, .tup bar]), some (.int v)], n⟩ := by
        simp only [rng2]
        rw [if_pos (by omega)]
        rfl
      rw [this, show (v + 21 - v).toNat = 21 by omega]
      try rfl) rfl (by simp [intsD, zl]) (fun i rest => by
        simp only [kRng, intsD, List.getElem?_map]
        by_cases h : i < 21
        · rw [if_pos h, List.getElem?_range h]; rfl
        · rw [if_neg h, List.getElem?_eq_none (by simp; omega)]; rfl) (by simp only [intsD, List.length_map, List.length_range]; rfl)
    (by
      intro d hd tm m
      obtain ⟨k, hk, rfl⟩ := mem_ints hd
      refine ⟨m, Nat.le_refl _, ?_⟩
      simp only [List.map_cons, List.map_nil, List.getElem?_cons_zero, Option.getD_some]
      walk_at "mr"
      rw [y_mod (by decide)]
      walk_at "mr"
      rw [y_ninI gb]
      walk_at "mr"
      rfl)
    (by
      intro d hd hp tm m
      obtain ⟨k, hk, rfl⟩ := mem_ints hd
      refine ⟨m, Nat.le_refl _, ?_⟩
      simp only [List.map_cons, List.map_nil, List.getElem?_cons_zero, Option.getD_some]
      walk_at "mr"
      rw [y_mod (by decide)]
      rfl)
  rw [h2]
  walk_at "mr"
  cases hf : (intsD v 21).filter (fun d => !inB bar (mod1040 d)) with
  | nil =>
    exfalso
    have := holes (fun k => (v + (k : Nat)) % 1040) 21 (bar.map ofI) (fun i j hij hj => by omega) (fun k hk => by
      refine inB_mem hb ?_
      have := List.filter_eq_nil_iff.mp hf (.int (v + (k : Nat))) (by simp only [intsD, List.mem_map, List.mem_range]; exact ⟨k, hk, rfl⟩)
      simpa [mod1040, ofI] using this)
    rw [List.length_map] at this
    omega
  | cons d ds =>
    simp only [List.map_cons]
    walk_at "mr"
    exact ⟨_, n' + 1, ⟨Int.emod_nonneg _ (by decide), by have := Int.emod_lt_of_pos (ofI d) (show (0 : Int) < 1040 by decide); omega⟩, by omega, rfl⟩
set_option Elab.async false
set_option linter.all false
set_option maxRecDepth 100000
set_option maxHeartbeats 1000000
noncomputable def Mk (len : Nat) (m : D) : Prop := m = .non ∨ ∃ a b : Nat, m = .tup [.int a, .int b] ∧ a < b ∧ b ≤ len ∧ b ≤ a + 96
theorem mk_labs {len : Nat} {m : D} (h : Mk len m) : labs m = [] := by
  rcases h with rfl | ⟨a, b, rfl, _⟩ <;> simp [labs, labsL]
theorem mk_rp {len : Nat} {m : D} (h : Mk len m) : ∀ k d, rp (pl k d) m = m := fun k d => rp_fresh (by rw [mk_labs h]; exact List.not_mem_nil)
theorem map_free {lim : Int} {bar ys : List D} {σ tm : List (Option D)} {n : Nat} {mc : M D} {s : Stt} (hb : Sg bar) (hl : bar.length ≤ 20) (hy : Sg ys) (hz : ys.length ≤ 1000) (hσ : σ[1]? = some (some (.tup [.int lim, .tup bar]))) (hc : mc s = .ok (.tup ys) ⟨σ, tm, n⟩) :
    ∃ zs n', Sg zs ∧ zs.length = ys.length ∧ n ≤ n' ∧ mComp (mSeqI mc) (.nm 0) (rt true) (mCall f_l_free [(mVar 1), (mVar 0)]) 1 [1] s = .ok (.lst n' zs) ⟨σ, tm, n' + 1⟩ := by
  have fe : ∀ d ∈ ys, ∀ n, ∃ r n', (0 ≤ r ∧ r ≤ 1039) ∧ n ≤ n' ∧ f_l_free [.tup [.int lim, .tup bar], d] n = .ok (.int r) [.tup [.int lim, .tup bar], d] n' := fun d hd n => by
    obtain ⟨i, rfl, h0, h1⟩ := inR_int (hy d hd)
    exact free2_eq lim bar i n hb hl h0 h1
  obtain ⟨zs, n', h1, h2, h3⟩ := mComp_tupQ (mc := mc) (me := mCall f_l_free [(mVar 1), (mVar 0)]) (Q := fun _ _ y => inR 0 1039 y = true) (fun _ _ _ _ _ h => h) (ix := [1]) hc (by rw [zl]; omega) (by
    intro d hd tm n
    obtain ⟨r, n', hr, hn, e⟩ := fe d hd n
    refine ⟨.int r, n', hn, inR_yes hr, ?_⟩
    simp only [List.map_cons, List.map_nil, hσ, Option.getD_some]
    walk_at "mr"
    rw [e]
    walk_at "mr")
  exact ⟨zs, n', h1.right (fun a b _ h => h), h1.len.symm, h2, h3⟩
theorem standing_eq (l : Nat) (c x lim far : Int) (bar : List D) (n : Nat) (h : Bg c x) (hn : l < n) (hf : 0 ≤ far) (hl0 : 0 ≤ lim) (hl1 : lim ≤ 60) (hb : Sg bar) (hl : bar.length ≤ 20) : ∃ ss b e m c' x' n', Sg ss ∧ ss.length ≤ 160 ∧ (0 ≤ b ∧ b ≤ 160) ∧ (0 ≤ e ∧ e ≤ 160) ∧ Mk ss.length m ∧ Bg c' x' ∧ n ≤ n' ∧
    f_l_standing [.lst l [.int c, .int x], .tup [.int lim, .tup bar], .int far] n = .ok (.tup [.tup ss, .int b, .int e, m]) [.lst l [.int c', .int x'], .tup [.int lim, .tup bar], .int far] n' := by
  have rb := sg_rp hb
  unfold f_l_standing m_l_standing
  walk_at "mr"
  obtain ⟨w, c1, x1, hw0, hw1, b1, e1⟩ := take_eq l c x 8 n h (by decide) (by decide)
  rw [e1, callK_bag rfl rfl rfl (by walk_at "mr"; simp only [rb]) (by walk_at "mr"; simp only [rb])]
  try (walk_at "mr")
  simp only [rb]
  try (walk_at "mr")
  obtain ⟨M0, c2, x2, hM0, hM1, b2, e2⟩ := take_eq l c1 x1 (lim + 1) n b1 (by omega) (by omega)
  rw [e2, callK_bag rfl rfl rfl (by walk_at "mr"; simp only [rb]) (by walk_at "mr"; simp only [rb])]
  try (walk_at "mr")
  simp only [rb]
  rw [y_mod (by decide)]
  walk_at "mr"
  have key : ∃ M : Int, 0 ≤ M ∧ M ≤ 60 ∧ iteS (w % 4 == 0) (sAsg (.nm 4) (mBin (mVar 1) (mC (.int 0)) ixD)) sNx ⟨[some (.lst l [.int c2, .int x2]), some (.tup [.int lim, .tup bar]), some (.int far), some (.int w), some (.int M0), none, none, none, none, none], [some (.lst l [.int c2, .int x2]), some (.tup [.int lim, .tup bar]), some (.int far)], n⟩ = .nx ⟨[some (.lst l [.int c2, .int x2]), some (.tup [.int lim, .tup bar]), some (.int far), some (.int w), some (.int M), none, none, none, none, none], [some (.lst l [.int c2, .int x2]), some (.tup [.int lim, .tup bar]), some (.int far)], n⟩ := by
    cases (w % 4 == 0) with
    | true => exact ⟨lim, hl0, hl1, by walk_at "mr"⟩
    | false => exact ⟨M0, hM0, by omega, by walk_at "mr"⟩
  obtain ⟨M, m0, m1, ek⟩ := key
  rw [ek]
  walk_at "mr"
  obtain ⟨ys, c3, x3, n3, hy, ly, b3, hn3, e3⟩ := signs_eq l c2 x2 far M n b2 hn hf m0 (by omega)
  have ry := sg_rp hy
  obtain ⟨zs, n4, hz, lz, hn4, e4⟩ := map_free (lim := lim) (bar := bar) (ys := ys) (σ := [some (.lst l [.int c3, .int x3]), some (.tup [.int lim, .tup bar]), some (.int far), some (.int w), some (.int M), none, none, none, none, none]) (tm := [some (.lst l [.int c3, .int x3]), some (.tup [.int lim, .tup bar]), some (.int far)]) (n := n3) (mc := mCall f_l_signs [(mVar 0), (mVar 2), (mVar 4)]) (s := ⟨[some (.lst l [.int c2, .int x2]), some (.tup [.int lim, .tup bar]), some (.int far), some (.int w), some (.int M), none, none, none, none, none], [some (.lst l [.int c2, .int x2]), some (.tup [.int lim, .tup bar]), some (.int far)], n⟩) hb hl hy (by omega) rfl (by
    walk_at "mr"
    rw [e3, callK_bag rfl rfl rfl (by walk_at "mr"; simp only [rb]) (by walk_at "mr"; simp only [rb])]
    try (walk_at "mr")
    simp only [rb])
  rw [e4]
  walk_at "mr"
  have rz := sg_rp hz
  rw [y_mod (by decide)]
  walk_at "mr"
  have key2 : ∃ (ss : List D) (m : D) (o7 o8 : Option D) (c' x' : Int) (n' : Nat), Sg ss ∧ ss.length ≤ 160 ∧ Mk ss.length m ∧ (∀ k d, Option.map (rp (pl k d)) o7 = o7) ∧ (∀ k d, Option.map (rp (pl k d)) o8 = o8) ∧ Bg c' x' ∧ n ≤ n' ∧ iteS (w % 2 == 0) (seqS (sAsg (.nm 7) (mCall f_l_signs [(mVar 0), (mVar 2), (mBin (mC (.int 1)) (mCall f_l_take [(mVar 0), (mBin (mCB [(mC (.int 96)), (mC (.int 5)), (mC (.int 9)), (mC (.int 5))] lstM) (mBin (mVar 3) (mC (.int 2)) fdivD) ixD)]) addD)]))
    (seqS (sAsg (.nm 8) (mCall f_l_take [(mVar 0), (mBin (mVar 4) (mC (.int 1)) addD)]))
    (seqS (sAsg (.nm 5) (mBin (mBin (mSl (mVar 5) none (some (mVar 8))) (mVar 7) addD) (mSl (mVar 5) (some (mVar 8)) none) addD))
    (sAsg (.nm 6) (mCB [(mVar 8), (mBin (mVar 8) (mCB [(mVar 7)] lenD) addD)] tupD))))) sNx ⟨[some (.lst l [.int c3, .int x3]), some (.tup [.int lim, .tup bar]), some (.int far), some (.int w), some (.int M), some (.tup zs), some .non, none, none, none], [some (.lst l [.int c3, .int x3]), some (.tup [.int lim, .tup bar]), some (.int far)], n4 + 1⟩ = .nx ⟨[some (.lst l [.int c', .int x']), some (.tup [.int lim, .tup bar]), some (.int far), some (.int w), some (.int M), some (.tup ss), some m, o7, o8, none], [some (.lst l [.int c', .int x']), some (.tup [.int lim, .tup bar]), some (.int far)], n'⟩ := by
    cases (w % 2 == 0) with
    | false => exact ⟨zs, .non, none, none, c3, x3, n4 + 1, hz, by omega, .inl rfl, fun _ _ => rfl, fun _ _ => rfl, b3, by omega, by walk_at "mr"⟩
    | true =>
      walk_at "mr"
      rw [y_fdiv ⟨by decide, by decide⟩]
      walk_at "mr"
      obtain ⟨v, hv, ev⟩ := at4' (a := 96) (b := 5) (c := 9) (d := 5) (w := w / 2) (by omega) (by omega)
      rw [ev]
      walk_at "mr"
      obtain ⟨r, c4, x4, hr0, hr1, b4, e4⟩ := take_eq l c3 x3 v (n4 + 1 + 1) b3 (by omega) (by omega)
      rw [e4, callK_bag rfl rfl rfl (by walk_at "mr"; simp only [rb, rz]) (by walk_at "mr"; simp only [rb, rz])]
      try (walk_at "mr")
      simp only [rb, rz]
      obtain ⟨us, c5, x5, n5, hu, lu, b5, hn5, e5⟩ := signs_eq l c4 x4 far (1 + r) (n4 + 1 + 1) b4 (by omega) hf (by omega) (by omega)
      have ru := sg_rp hu
      rw [e5, callK_bag rfl rfl rfl (by walk_at "mr"; simp only [rb, rz]) (by walk_at "mr"; simp only [rb, rz])]
      try (walk_at "mr")
      simp only [rb, rz]
      obtain ⟨p, c6, x6, hp0, hp1, b6, e6⟩ := take_eq l c5 x5 (M + 1) n5 b5 (by omega) (by omega)
      rw [e6, callK_bag rfl rfl rfl (by walk_at "mr"; simp only [rb, rz, ru]) (by walk_at "mr"; simp only [rb, rz, ru])]
      try (walk_at "mr")
      simp only [rb, rz, ru]
      obtain ⟨q, rfl⟩ := Int.eq_ofNat_of_zero_le hp0
      rw [cut_tk, y_addT (by rw [zl]; simp only [List.length_take]; omega)]
      walk_at "mr"
      rw [cut_dr, y_addT (by rw [zl]; simp only [List.length_append, List.length_take, List.length_drop]; omega)]
      walk_at "mr"
      refine ⟨zs.take q ++ us ++ zs.drop q, .tup [.int q, .int ((q : Int) + us.length)], some (.tup us), some (.int q), c6, x6, n5, sg_app (sg_app (sg_tk hz _) hu) (sg_dr hz _), ?_, .inr ⟨q, q + us.length, by simp, by omega, ?_, by omega⟩, fun k d => by simp only [Option.map_some, rp_tup, ru], fun k d => by simp only [Option.map_some, rp_int], b6, by omega, rfl⟩
      · simp only [List.length_append, List.length_take, List.length_drop]; omega
      · simp only [List.length_append, List.length_take, List.length_drop]; omega
  obtain ⟨ss, m, o7, o8, c5, x5, n5, hs, ls, hm, r7, r8, b5, hn5, e5⟩ := key2
  rw [e5]
  have rs := sg_rp hs
  have rm := mk_rp hm
  walk_at "mr"
  obtain ⟨b, c6, x6, hb0, hb1, b6, e6⟩ := take_eq l c5 x5 ((ss.length : Int) + 1) n5 b5 (by omega) (by omega)
  rw [e6, callK_bag rfl rfl rfl (by walk_at "mr"; simp only [rb, rs, rm, r7, r8]) (by walk_at "mr"; simp only [rb])]
  try (walk_at "mr")
  simp only [rb, rs, rm, r7, r8]
  try (walk_at "mr")
  obtain ⟨e, c7, x7, he0, he1, b7, e7⟩ := take_eq l c6 x6 ((ss.length : Int) - b + 1) n5 b6 (by omega) (by omega)
  rw [e7, callK_bag rfl rfl rfl (by walk_at "mr"; simp only [rb, rs, rm, r7, r8]) (by walk_at "mr"; simp only [rb, rs, rm])]
  try (walk_at "mr")
  simp only [rb, rs, rm, r7, r8]
  try (walk_at "mr")
  exact ⟨ss, b, b + e, m, c7, x7, n5, hs, ls, ⟨hb0, by omega⟩, ⟨by omega, by omega⟩, hm, b7, hn5, rfl⟩
set_option Elab.async false
set_option linter.all false
set_option maxRecDepth 100000
set_option maxHeartbeats 1000000
theorem ne_nilT {xs : List D} {s : Stt} (g : GdL xs) : neD (.tup xs) (.tup []) s = .ok (.bool (!xs.isEmpty)) s := by
  rw [y_ne (by simp only [eqC, Mi.plain, er, erL, plainL, PyData.canLay0, PyData.canLayAll0, g.1, g.2, Bool.and_self, Bool.true_and, decide_eq_true_eq, PyData.depth, PyData.depthAll]; omega)]
  cases xs <;> simp [er, erL, PyData.eqv, PyData.eqvAll]
noncomputable def ov1 : MS := sIf (mAnd (mBoo (mBin (mVar 7) (mC (.int 1)) eqD)) (mBoo (mBin (mBin (mVar 1) (mC (.int 1)) ixD) (mCB [] tupD) neD))) (sAsg (.nm 8) (mCB [(mBin (mBin (mVar 1) (mC (.int 1)) ixD) (mCall f_l_take [(mVar 0), (mCB [(mBin (mVar 1) (mC (.int 1)) ixD)] lenD)]) ixD)] tupD)) sNx
theorem ov1_eq (l : Nat) (c x lim far w b e : Int) (bar ss us : List D) (m : D) (n : Nat) (h : Bg c x) (hn : l < n) (hb : Sg bar) (hl : bar.length ≤ 20) (hs : Sg ss) (hm : Mk ss.length m) (hu : Sg us) (lu : us.length = 1) : ∃ (vs : List D) (c' x' : Int), Sg vs ∧ vs.length = 1 ∧ Bg c' x' ∧
    ov1 ⟨[some (.lst l [.int c, .int x]), some (.tup [.int lim, .tup bar]), some (.int far), some (.tup ss), some (.int b), some (.int e), some m, some (.int w), some (.tup us), none, none], [some (.lst l [.int c, .int x]), some (.tup [.int lim, .tup bar]), some (.int far)], n⟩ =
      .nx ⟨[some (.lst l [.int c', .int x']), some (.tup [.int lim, .tup bar]), some (.int far), some (.tup ss), some (.int b), some (.int e), some m, some (.int w), some (.tup vs), none, none], [some (.lst l [.int c', .int x']), some (.tup [.int lim, .tup bar]), some (.int far)], n⟩ := by
  have rb := sg_rp hb
  have rs := sg_rp hs
  have ru := sg_rp hu
  have rm := mk_rp hm
  unfold ov1
  walk_at "mr"
  cases hw : (w == 1) with
  | false => walk_at "mr"; exact ⟨us, c, x, hu, lu, h, rfl⟩
  | true =>
    walk_at "mr"
    rw [ne_nilT (gdl_ints hb)]
    walk_at "mr"
    cases he : bar.isEmpty with
    | true => walk_at "mr"; exact ⟨us, c, x, hu, lu, h, rfl⟩
    | false =>
      walk_at "mr"
      have hb0 : 0 < bar.length := by cases bar with | nil => simp at he | cons _ _ => simp
      obtain ⟨r, c1, x1, hr0, hr1, b1, e1⟩ := take_eq l c x bar.length n h (by omega) (by omega)
      rw [e1, callK_bag rfl rfl rfl (by walk_at "mr"; simp only [rb, rs, rm, ru]) (by walk_at "mr"; simp only [rb])]
      walk_at "mr"
      simp only [rb, rs, rm, ru]
      obtain ⟨d, hd, ed⟩ := at_mem (ds := bar) hr0 hr1
      rw [ed]
      walk_at "mr"
      exact ⟨[d], c1, x1, fun y hy => by rw [List.mem_singleton.mp hy]; exact hb d hd, rfl, b1, rfl⟩
noncomputable def Sd (t : D) : Prop := ∃ ss b e m, t = .tup [.tup ss, .int b, .int e, m] ∧ Sg ss ∧ ss.length ≤ 400 ∧ (0 ≤ b ∧ b ≤ 1000) ∧ (0 ≤ e ∧ e ≤ 1000) ∧ (m = .non ∨ ∃ a c : Int, m = .tup [.int a, .int c] ∧ (0 ≤ a ∧ a ≤ 1000) ∧ (0 ≤ c ∧ c ≤ 1000))
theorem over_eq (l : Nat) (c x lim far : Int) (bar : List D) (n : Nat) (h : Bg c x) (hn : l < n) (hf : 0 ≤ far) (hl0 : 0 ≤ lim) (hl1 : lim ≤ 60) (hb : Sg bar) (hl : bar.length ≤ 20) : ∃ t c' x' n', Sd t ∧ Bg c' x' ∧ n ≤ n' ∧
    f_l_over [.lst l [.int c, .int x], .tup [.int lim, .tup bar], .int far] n = .ok t [.lst l [.int c', .int x'], .tup [.int lim, .tup bar], .int far] n' := by
  have rb := sg_rp hb
  unfold f_l_over
  have e0 : m_l_over = (seqS (sAsg (.tp [(.nm 3), (.nm 4), (.nm 5), (.nm 6)]) (mCall f_l_standing [(mVar 0), (mVar 1), (mVar 2)]))
    (seqS (sAsg (.nm 7) (mCall f_l_take [(mVar 0), (mC (.int 5))]))
    (seqS (sAsg (.nm 8) (mCall f_l_signs [(mVar 0), (mVar 2), (mC (.int 1))]))
    (seqS ov1
    (seqS (sAsg (.nm 9) (mCall f_l_take [(mVar 0), (mBin (mCB [(mVar 3)] lenD) (mC (.int 1)) addD)]))
    (seqS (sIf (mAnd (mBoo (mBin (mVar 7) (mC (.int 2)) ltD)) (mOr (mBoo (mBin (mVar 6) (mC .non) isN)) (mBoo (mBin (mVar 9) (mBin (mVar 6) (mC (.int 0)) ixD) leD)))) (sRet (mCB [(mBin (mBin (mSl (mVar 3) none (some (mVar 9))) (mVar 8) addD) (mSl (mVar 3) (some (mVar 9)) none) addD), (mVar 4), (mVar 5), (mC .non)] tupD)) sNx)
    (seqS (sIf (mAnd (mBoo (mBin (mVar 7) (mC (.int 2)) eqD)) (mBoo (mBin (mVar 6) (mC .non) notN))) (seqS (sAsg (.nm 10) (mBin (mBin (mSl (mVar 3) none (some (mBin (mVar 6) (mC (.int 1)) ixD))) (mCall f_l_signs [(mVar 0), (mVar 2), (mBin (mBin (mC (.int 97)) (mBin (mVar 6) (mC (.int 1)) ixD) subD) (mBin (mVar 6) (mC (.int 0)) ixD) addD)]) addD) (mSl (mVar 3) (some (mBin (mVar 6) (mC (.int 1)) ixD)) none) addD))
    (sRet (mCB [(mVar 10), (mVar 4), (mVar 5), (mCB [(mBin (mVar 6) (mC (.int 0)) ixD), (mBin (mBin (mVar 6) (mC (.int 0)) ixD) (mC (.int 97)) addD)] tupD)] tupD))) sNx)
    (sRet (mCB [(mVar 3), (mVar 4), (mVar 5), (mVar 6)] tupD))))))))) := rfl
  rw [e0]
  walk_at "mr"
  obtain ⟨ss, b, e, m, c1, x1, n1, hs, ls, hbb, hee, hm, b1, hn1, e1⟩ := standing_eq l c x lim far bar n h hn hf hl0 hl1 hb hl
  have rs := sg_rp hs
  have rm := mk_rp hm
  rw [e1, callK_bag rfl rfl (by simp only [labsL, labs, sg_labs hb, List.append_nil]) (by walk_at "mr"; simp only [rb]) (by walk_at "mr"; simp only [rb])]
  walk_at "mr"
  simp only [rb]
  obtain ⟨w, c2, x2, hw0, hw1, b2, e2⟩ := take_eq l c1 x1 5 n1 b1 (by decide) (by decide)
  rw [e2, callK_bag rfl rfl rfl (by walk_at "mr"; simp only [rb, rs, rm]) (by walk_at "mr"; simp only [rb])]
  walk_at "mr"
  simp only [rb, rs, rm]
  obtain ⟨us, c3, x3, n3, hu, lu, b3, hn3, e3⟩ := signs_eq l c2 x2 far 1 n1 b2 (by omega) hf (by decide) (by decide)
  have ru := sg_rp hu
  rw [e3, callK_bag rfl rfl rfl (by walk_at "mr"; simp only [rb, rs, rm]) (by walk_at "mr"; simp only [rb])]
  walk_at "mr"
  simp only [rb, rs, rm]
  obtain ⟨vs, c4, x4, hv, lv, b4, e4⟩ := ov1_eq l c3 x3 lim far w b e bar ss us m n3 b3 (by omega) hb hl hs hm hu (by omega)
  have rv := sg_rp hv
  rw [e4]
  walk_at "mr"
  obtain ⟨p, c5, x5, hp0, hp1, b5, e5⟩ := take_eq l c4 x4 ((ss.length : Int) + 1) n3 b4 (by omega) (by omega)
  rw [e5, callK_bag rfl rfl rfl (by walk_at "mr"; simp only [rb, rs, rm, rv]) (by walk_at "mr"; simp only [rb])]
  walk_at "mr"
  simp only [rb, rs, rm, rv]
  try (walk_at "mr")
  obtain ⟨q, rfl⟩ := Int.eq_ofNat_of_zero_le hp0
  have plain' : ∀ m, Mk ss.length m → (m = D.non ∨ ∃ a c : Int, m = .tup [.int a, .int c] ∧ (0 ≤ a ∧ a ≤ 1000) ∧ (0 ≤ c ∧ c ≤ 1000)) := fun m hm => by
    rcases hm with rfl | ⟨a, d, rfl, q1, q2, q3⟩
    · exact .inl rfl
    · exact .inr ⟨a, d, rfl, by omega, by omega⟩
  have end1 : Sd (.tup [.tup (ss.take q ++ vs ++ ss.drop q), .int b, .int e, .non]) := ⟨_, b, e, .non, rfl, sg_app (sg_app (sg_tk hs _) hv) (sg_dr hs _), by simp only [List.length_append, List.length_take, List.length_drop]; omega, by omega, by omega, .inl rfl⟩
  have end3 : Sd (.tup [.tup ss, .int b, .int e, m]) := ⟨ss, b, e, m, rfl, hs, by omega, by omega, by omega, plain' m hm⟩
  by_cases hw : w < 2
  · simp only [hw, decide_true]
    walk_at "mr"
    have nw : (w == 2) = false := by simp only [beq_eq_false_iff_ne]; omega
    rcases hm with rfl | ⟨a, d, rfl, q1, q2, q3⟩
    · simp only [isNon]
      walk_at "mr"
      rw [cut_tk, y_addT (by rw [zl]; simp only [List.length_take]; omega)]
      walk_at "mr"
      rw [cut_dr, y_addT (by rw [zl]; simp only [List.length_append, List.length_take, List.length_drop]; omega)]
      walk_at "mr"
      exact ⟨_, c5, x5, n3, end1, b5, by omega, rfl⟩
    · simp only [isNon]
      walk_at "mr"
      by_cases hq : (q : Int) ≤ (a : Int)
      · simp only [hq, decide_true]
        walk_at "mr"
        rw [cut_tk, y_addT (by rw [zl]; simp only [List.length_take]; omega)]
        walk_at "mr"
        rw [cut_dr, y_addT (by rw [zl]; simp only [List.length_append, List.length_take, List.length_drop]; omega)]
        walk_at "mr"
        exact ⟨_, c5, x5, n3, end1, b5, by omega, rfl⟩
      · simp only [hq, decide_false]
        walk_at "mr"
        simp only [nw]
        walk_at "mr"
        exact ⟨_, c5, x5, n3, end3, b5, by omega, rfl⟩
  · simp only [hw, decide_false]
    walk_at "mr"
    cases h2 : (w == 2) with
    | false =>
      walk_at "mr"
      exact ⟨_, c5, x5, n3, end3, b5, by omega, rfl⟩
    | true =>
      walk_at "mr"
      rcases hm with rfl | ⟨a, d, rfl, q1, q2, q3⟩
      · simp only [isNon]
        walk_at "mr"
        exact ⟨_, c5, x5, n3, end3, b5, by omega, rfl⟩
      · simp only [isNon]
        walk_at "mr"
        obtain ⟨zs, c6, x6, n6, hz, lz, b6, hn6, e6⟩ := signs_eq l c5 x5 far (97 - (d : Int) + (a : Int)) n3 b5 (by omega) hf (by omega) (by omega)
        have rz := sg_rp hz
        rw [cut_tk]
        have rt' := sg_rp (sg_tk hs d)
        rw [e6, callK_bag rfl rfl rfl (by walk_at "mr"; simp only [rb, rs, rv]) (by walk_at "mr"; simp only [rb, rt'])]
        walk_at "mr"
        simp only [rb, rs, rv, rt']
        rw [y_addT (by rw [zl]; simp only [List.length_take]; omega)]
        walk_at "mr"
        rw [cut_dr, y_addT (by rw [zl]; simp only [List.length_append, List.length_take, List.length_drop]; omega)]
        walk_at "mr"
        exact ⟨_, c6, x6, n6, ⟨ss.take d ++ zs ++ ss.drop d, b, e, _, rfl, sg_app (sg_app (sg_tk hs _) hz) (sg_dr hs _), by simp only [List.length_append, List.length_take, List.length_drop]; omega, by omega, by omega, .inr ⟨a, (a : Int) + 97, rfl, by omega, by omega⟩⟩, b6, by omega, rfl⟩
set_option Elab.async false
set_option linter.all false
set_option maxRecDepth 100000
set_option maxHeartbeats 1000000
mutual
noncomputable def Co (T : Nat → Option D) (l : Nat) : D → Prop
  | .lst k ds => k = l ∨ (T k = some (.lst k ds) ∧ l ∉ labsL ds ∧ CoL T l ds)
  | .tup ds => CoL T l ds
  | .ro ds => CoL T l ds
  | .non => True | .bool _ => True | .int _ => True | .str _ => True
  | .dct _ _ _ => False | .obj _ _ _ _ => False
noncomputable def CoL (T : Nat → Option D) (l : Nat) : List D → Prop
  | [] => True
  | d :: ds => Co T l d ∧ CoL T l ds
end
theorem CoL_all {T : Nat → Option D} {l : Nat} : ∀ {ds : List D}, CoL T l ds ↔ ∀ d ∈ ds, Co T l d
  | [] => by simp [CoL]
  | d :: ds => by simp only [CoL, List.forall_mem_cons, CoL_all (ds := ds)]
mutual
theorem rp_co {T : Nat → Option D} {l : Nat} {f : Nat → Option D} {d0 : D} (h1 : ∀ k d, f k = some d → k ≠ l → T k = some d) (h2 : f l = some d0) : ∀ t : D, Co T l t → rp f t = rp (pl l d0) t
  | .non, _ => rfl
  | .bool _, _ => rfl
  | .int _, _ => rfl
  | .str _, _ => rfl
  | .tup ds, h => by simp only [Co] at h; simp only [rp, rpL_co h1 h2 ds h]
  | .ro ds, h => by simp only [Co] at h; simp only [rp, rpL_co h1 h2 ds h]
  | .dct _ _ _, h => by simp [Co] at h
  | .obj _ _ _ _, h => by simp [Co] at h
  | .lst k ds, h => by
    simp only [Co] at h
    by_cases hk : k = l
    · subst hk; rw [rp_bag]; simp only [rp, h2]
    · rcases h with h | ⟨a, b, c⟩
      · exact absurd h hk
      · rw [rp_ne hk]
        simp only [rp]
        cases e : f k with
        | none => simp only []; rw [rpL_co h1 h2 ds c]
        | some d =>
          have q := h1 k d e hk
          rw [a] at q
          cases q
          rw [show rpL (pl l d0) ds = ds from rpL_id ds fun j hj => by unfold pl; rw [if_neg]; rintro rfl; exact b hj]
theorem rpL_co {T : Nat → Option D} {l : Nat} {f : Nat → Option D} {d0 : D} (h1 : ∀ k d, f k = some d → k ≠ l → T k = some d) (h2 : f l = some d0) : ∀ t : List D, CoL T l t → rpL f t = rpL (pl l d0) t
  | [], _ => rfl
  | d :: ds, h => by simp only [CoL] at h; simp only [rpL, rp_co h1 h2 d h.1, rpL_co h1 h2 ds h.2]
end
noncomputable def CoO (T : Nat → Option D) (l : Nat) : List (Option D) → Prop
  | [] => True
  | none :: r => CoO T l r
  | some d :: r => Co T l d ∧ CoO T l r
theorem rpO_co {T : Nat → Option D} {l : Nat} {f : Nat → Option D} {d0 : D} (h1 : ∀ k d, f k = some d → k ≠ l → T k = some d) (h2 : f l = some d0) : ∀ t : List (Option D), CoO T l t → rpO f t = rpO (pl l d0) t
  | [], _ => rfl
  | none :: r, h => by simp only [CoO] at h; simp only [rpO, rpO_co h1 h2 r h]
  | some d :: r, h => by simp only [CoO] at h; simp only [rpO, rp_co h1 h2 d h.1, rpO_co h1 h2 r h.2]
mutual
theorem findT_co {T : Nat → Option D} {l k : Nat} {d : D} : ∀ t : D, l ∉ labs t → Co T l t → findT k t = some d → T k = some d
  | .non, _, _, e => by simp [findT] at e
  | .bool _, _, _, e => by simp [findT] at e
  | .int _, _, _, e => by simp [findT] at e
  | .str _, _, _, e => by simp [findT] at e
  | .tup ds, hl, h, e => by simp only [Co] at h; simp only [labs] at hl; simp only [findT] at e; exact findL_co ds hl h e
  | .ro ds, hl, h, e => by simp only [Co] at h; simp only [labs] at hl; simp only [findT] at e; exact findL_co ds hl h e
  | .dct _ _ _, _, h, _ => by simp [Co] at h
  | .obj _ _ _ _, _, h, _ => by simp [Co] at h
  | .lst j ds, hl, h, e => by
    simp only [Co] at h
    simp only [labs, List.mem_cons, not_or] at hl
    rcases h with h | ⟨a, b, c⟩
    · exact absurd h.symm hl.1
    · simp only [findT] at e
      by_cases hj : j = k
      · subst hj; rw [if_pos rfl] at e; cases e; exact a
      · rw [if_neg hj] at e; exact findL_co ds hl.2 c e
theorem findL_co {T : Nat → Option D} {l k : Nat} {d : D} : ∀ t : List D, l ∉ labsL t → CoL T l t → findL k t = some d → T k = some d
  | [], _, _, e => by simp [findL] at e
  | x :: xs, hl, h, e => by
    simp only [CoL] at h
    simp only [labsL, List.mem_append, not_or] at hl
    simp only [findL] at e
    cases q : findT k x with
    | some y => rw [q] at e; cases e; exact findT_co x hl.1 h.1 q
    | none => rw [q] at e; exact findL_co xs hl.2 h.2 e
end
mutual
theorem findT_in {k : Nat} : ∀ t : D, k ∈ labs t → (∀ j ks vs, t ≠ .dct j ks vs) → Rs 0 t = true → (findT k t).isSome = true
  | .non, e, _, _ => by simp [labs] at e
  | .bool _, e, _, _ => by simp [labs] at e
  | .int _, e, _, _ => by simp [labs] at e
  | .str _, e, _, _ => by simp [labs] at e
  | .tup ds, e, _, h => by simp only [Rs, Bool.and_eq_true] at h; simp only [labs] at e; simp only [findT]; exact findL_in ds e h.2
  | .ro _, _, _, h => by simp [Rs] at h
  | .dct _ _ _, _, _, h => by simp [Rs] at h
  | .obj _ _ _ _, _, _, h => by simp [Rs] at h
  | .lst j ds, e, _, h => by
    simp only [Rs, Bool.and_eq_true] at h
    simp only [findT]
    by_cases hj : j = k
    · rw [if_pos hj]; rfl
    · rw [if_neg hj]
      simp only [labs, List.mem_cons] at e
      rcases e with e | e
      · exact absurd e.symm hj
      · exact findL_in ds e h.2.2
theorem findL_in {k : Nat} : ∀ t : List D, k ∈ labsL t → RsL 0 t = true → (findL k t).isSome = true
  | [], e, _ => by simp [labsL] at e
  | x :: xs, e, h => by
    simp only [RsL, Bool.and_eq_true] at h
    simp only [labsL, List.mem_append] at e
    simp only [findL]
    cases q : findT k x with
    | some y => rfl
    | none =>
      rcases e with e | e
      · have := findT_in x e (fun j ks vs hx => by subst hx; simp [Rs] at h) h.1; rw [q] at this; cases this
      · exact findL_in xs e h.2
end
theorem callK_bagC {T : Nat → Option D} {t : D} {l n' n : Nat} {b b' r : List D} {σ tm : List (Option D)} (hb : labsL b = []) (hb' : labsL b' = []) (hr : CoL T l r) (hl : l ∉ labsL r) (hR : RsL 0 r = true) (c1 : CoO T l σ) (c2 : CoO T l tm) (f1 : rpO (pl l (.lst l b)) σ = σ) (f2 : rpO (pl l (.lst l b)) tm = tm) :
    callK (.ok t (.lst l b' :: r) n') (.lst l b :: r) ⟨σ, tm, n⟩ = .ok t ⟨rpO (pl l (.lst l b')) σ, rpO (pl l (.lst l b')) tm, n'⟩ := by
  have e1 : findL l (.lst l b' :: r) = some (.lst l b') := by simp only [findL, findT, if_true]
  have e2 : ∀ k d, findL k (.lst l b' :: r) = some d → k ≠ l → T k = some d := fun k d e hk => by
    simp only [findL, findT] at e
    rw [if_neg (fun q => hk q.symm), findL_none b' (by rw [hb']; exact List.not_mem_nil)] at e
    exact findL_co r hl hr e
  unfold callK
  by_cases h : (D.lst l b' :: r) = (D.lst l b :: r)
  · have hh : b' = b := by injection h with h _; injection h
    subst hh
    simp only [if_true]
    rw [f1, f2]
  · simp only [if_neg h]
    rw [if_pos, rpO_co e2 e1 σ c1, rpO_co e2 e1 tm c2]
    intro k _ hk
    by_cases hkl : k = l
    · subst hkl; rw [e1]; rfl
    · simp only [labsL, labs, hb, List.mem_append, List.mem_cons, List.not_mem_nil, or_false] at hk
      rcases hk with hk | hk
      · exact absurd hk hkl
      · have := findL_in r hk hR
        simp only [findL, findT]
        rw [if_neg (fun q => hkl q.symm), findL_none b' (by rw [hb']; exact List.not_mem_nil)]
        exact this
mutual
noncomputable def Ob (n : Nat) (b : Int) (L : Nat) : D → Bool
  | .non => true | .bool _ => true | .int i => decide (-b ≤ i) && decide (i ≤ b) | .str x => x == "" || x == "mark"
  | .tup ds => decide (ds.length ≤ L) && ObL n b L ds
  | .lst l ds => decide (n ≤ l) && (decide (ds.length ≤ L) && ObL n b L ds)
  | .ro _ => false | .dct _ _ _ => false | .obj _ _ _ _ => false
noncomputable def ObL (n : Nat) (b : Int) (L : Nat) : List D → Bool
  | [] => true
  | d :: ds => Ob n b L d && ObL n b L ds
end
theorem ObL_all {n L : Nat} {b : Int} : ∀ {ds : List D}, ObL n b L ds = true ↔ ∀ d ∈ ds, Ob n b L d = true
  | [] => by simp [ObL]
  | d :: ds => by simp only [ObL, Bool.and_eq_true, ObL_all (ds := ds), List.forall_mem_cons]
theorem okMark : PyData.strOk ("mark" : Str) = true := by decide +kernel
mutual
theorem Ob_rs {n L : Nat} {b : Int} (hL : L ≤ 2000) : ∀ t : D, Ob n b L t = true → Rs n t = true
  | .non, _ => rfl
  | .bool _, _ => rfl
  | .int _, _ => rfl
  | .str x, h => by
    simp only [Ob, Bool.or_eq_true, beq_iff_eq] at h
    rcases h with rfl | rfl
    · simp only [Rs]; exact okE
    · simp only [Rs]; exact okMark
  | .tup ds, h => by
    simp only [Ob, Bool.and_eq_true, decide_eq_true_eq] at h; simp only [Rs, Bool.and_eq_true, decide_eq_true_eq]; exact ⟨by omega, ObL_rs hL ds h.2⟩
  | .lst _ ds, h => by
    simp only [Ob, Bool.and_eq_true, decide_eq_true_eq] at h; simp only [Rs, Bool.and_eq_true, decide_eq_true_eq]; exact ⟨h.1, by omega, ObL_rs hL ds h.2.2⟩
  | .ro _, h => by simp [Ob] at h
  | .dct _ _ _, h => by simp [Ob] at h
  | .obj _ _ _ _, h => by simp [Ob] at h
theorem ObL_rs {n L : Nat} {b : Int} (hL : L ≤ 2000) : ∀ t : List D, ObL n b L t = true → RsL n t = true
  | [], _ => rfl
  | d :: ds, h => by simp only [ObL, Bool.and_eq_true] at h; simp only [RsL, Ob_rs hL d h.1, ObL_rs hL ds h.2, Bool.and_true]
end
mutual
theorem Ob_mono {n n' L L' : Nat} {b b' : Int} (h1 : n' ≤ n) (h2 : b ≤ b') (h3 : L ≤ L') : ∀ t : D, Ob n b L t = true → Ob n' b' L' t = true
  | .non, _ => rfl
  | .bool _, _ => rfl
  | .int _, h => by simp only [Ob, Bool.and_eq_true, decide_eq_true_eq] at h ⊢; omega
  | .str x, h => by simpa [Ob] using h
  | .tup ds, h => by
    simp only [Ob, Bool.and_eq_true, decide_eq_true_eq] at h ⊢; exact ⟨by omega, ObL_mono h1 h2 h3 ds h.2⟩
  | .lst _ ds, h => by
    simp only [Ob, Bool.and_eq_true, decide_eq_true_eq] at h ⊢; exact ⟨by omega, by omega, ObL_mono h1 h2 h3 ds h.2.2⟩
  | .ro _, h => by simp [Ob] at h
  | .dct _ _ _, h => by simp [Ob] at h
  | .obj _ _ _ _, h => by simp [Ob] at h
theorem ObL_mono {n n' L L' : Nat} {b b' : Int} (h1 : n' ≤ n) (h2 : b ≤ b') (h3 : L ≤ L') : ∀ t : List D, ObL n b L t = true → ObL n' b' L' t = true
  | [], _ => rfl
  | d :: ds, h => by simp only [ObL, Bool.and_eq_true] at h ⊢; exact ⟨Ob_mono h1 h2 h3 d h.1, ObL_mono h1 h2 h3 ds h.2⟩
end
noncomputable def bk (ds : List D) : Nat := PyData.bulkAll (erL ds)
theorem bk_nil : bk [] = 0 := by simp only [bk, erL, PyData.bulkAll]
theorem bk_cons {d : D} {ds : List D} : bk (d :: ds) = (er d).bulk + 1 + bk ds := by simp only [bk, erL, PyData.bulkAll]
theorem bk_app : ∀ {a b : List D}, bk (a ++ b) = bk a + bk b
  | [], b => by rw [List.nil_append, bk_nil, Nat.zero_add]
  | d :: a, b => by rw [List.cons_append, bk_cons, bk_cons, bk_app]; omega
theorem bk_td {ds : List D} {k : Nat} : bk (ds.take k) + bk (ds.drop k) = bk ds := by rw [← bk_app, List.take_append_drop]
theorem bk_tup {ds : List D} : (er (.tup ds)).bulk = bk ds := by simp only [er, PyData.bulk, bk]
theorem bk_lst {l : Nat} {ds : List D} : (er (.lst l ds)).bulk = bk ds := by simp only [er, PyData.bulk, bk]
theorem cut_mid {ws : List D} {l : Nat} : cutA ws (some (l : Int)) (some ((l : Int) + 1)) = (ws.drop l).take 1 := by
  unfold cutA
  rw [show ((l : Int) + 1) = ((l + 1 : Nat) : Int) by omega, HT.sIx_nat, HT.sIx_nat]
  rcases Nat.lt_or_ge l ws.length with h | h
  · rw [Nat.min_eq_left (by omega), Nat.min_eq_left (by omega), show l + 1 - l = 1 by omega]
  · rw [Nat.min_eq_right (by omega), Nat.min_eq_right (by omega), List.drop_eq_nil_of_le (by omega), List.drop_eq_nil_of_le (by omega), List.take_nil, List.take_nil]
theorem int_short {i : Int} (h : i.natAbs < 10 ^ 61) : (PyData.int i).shown.length ≤ 64 ∧ (PyData.int i).showable = true := by
  constructor
  · simp only [PyData.shown]
    have := @PySem.int_text_length_le10 i 61 (by decide) h
    rw [PySem.ofString_length]; omega
  · simp only [PyData.showable, decide_eq_true_eq]
    by_cases h0 : i.natAbs = 0
    · rw [h0]; decide
    · rw [Nat.log2_lt h0]
      exact Nat.lt_of_lt_of_le h (Nat.le_trans (show 10 ^ 61 ≤ 2 ^ 203 by decide) (Nat.pow_le_pow_right (by decide) (by decide)))
mutual
theorem ob_short {n L : Nat} {b : Int} (hb : b < 10 ^ 61) : ∀ t : D, Ob n b L t = true → PyData.leavesShort 64 (er t) = true ∧ (er t).showable = true
  | .non, _ => ⟨rfl, rfl⟩
  | .bool _, _ => ⟨rfl, rfl⟩
  | .int i, h => by
    simp only [Ob, Bool.and_eq_true, decide_eq_true_eq] at h
    have := @int_short i (by omega)
    simp only [er, PyData.leavesShort, decide_eq_true_eq]
    exact this
  | .str x, h => by
    simp only [Ob, Bool.or_eq_true, beq_iff_eq] at h
    rcases h with rfl | rfl
    · exact ⟨by decide +kernel, by decide +kernel⟩
    · exact ⟨by decide +kernel, by decide +kernel⟩
  | .tup ds, h => by
    simp only [Ob, Bool.and_eq_true, decide_eq_true_eq] at h
    simp only [er, PyData.leavesShort, PyData.showable]
    exact obL_short hb ds h.2
  | .lst _ ds, h => by
    simp only [Ob, Bool.and_eq_true, decide_eq_true_eq] at h
    simp only [er, PyData.leavesShort, PyData.showable]
    exact obL_short hb ds h.2.2
  | .ro _, h => by simp [Ob] at h
  | .dct _ _ _, h => by simp [Ob] at h
  | .obj _ _ _ _, h => by simp [Ob] at h
theorem obL_short {n L : Nat} {b : Int} (hb : b < 10 ^ 61) : ∀ t : List D, ObL n b L t = true → PyData.leavesShortAll 64 (erL t) = true ∧ PyData.showableAll (erL t) = true
  | [], _ => ⟨rfl, rfl⟩
  | d :: ds, h => by
    simp only [ObL, Bool.and_eq_true] at h
    simp only [erL, PyData.leavesShortAll, PyData.showableAll, Bool.and_eq_true]
    exact ⟨⟨(ob_short hb d h.1).1, (obL_short hb ds h.2).1⟩, (ob_short hb d h.1).2, (obL_short hb ds h.2).2⟩
end
theorem y_str {ds : List D} {s : Stt} {n L : Nat} {b : Int} (hb : b < 10 ^ 61) (hL : L ≤ 2000) (h : Ob n b L (.tup ds) = true) (hd : (er (.tup ds)).depth ≤ 60) (hk : bk ds ≤ 200000) : strD [.tup ds] s = .ok (.str (er (.tup ds)).shown) s := by
  have g := (Rs_gd _ (Ob_rs hL _ h)).1
  simp only [Mi.plain] at g
  obtain ⟨s1, s2⟩ := ob_short hb _ h
  have := PyData.shown_le_bulk 64 (by decide) _ s1
  rw [bk_tup] at this
  have hc : strC ds = true := by
    simp only [strC, g, s2, hd, Bool.true_and, Bool.and_true, Bool.and_eq_true, decide_eq_true_eq, decide_true, true_and]
    rw [zl]
    omega
  simp only [strD, if_pos hc]
  rfl
mutual
theorem co_ext {T T' : Nat → Option D} {l n : Nat} (h : ∀ k, k < n → T' k = T k) : ∀ t : D, Up n t → Co T l t → Co T' l t
  | .non, _, _ => trivial
  | .bool _, _, _ => trivial
  | .int _, _, _ => trivial
  | .str _, _, _ => trivial
  | .tup ds, u, c => by simp only [Co] at c ⊢; exact coL_ext h ds (fun k hk => u k (by simp only [labs]; exact hk)) c
  | .ro ds, u, c => by simp only [Co] at c ⊢; exact coL_ext h ds (fun k hk => u k (by simp only [labs]; exact hk)) c
  | .dct _ _ _, _, c => by simp [Co] at c
  | .obj _ _ _ _, _, c => by simp [Co] at c
  | .lst k ds, u, c => by
    simp only [Co] at c ⊢
    rcases c with c | ⟨c1, c2, c3⟩
    · exact .inl c
    · exact .inr ⟨by rw [h k (u k (by simp [labs]))]; exact c1, c2, coL_ext h ds (fun j hj => u j (by simp only [labs, List.mem_cons]; exact .inr hj)) c3⟩
theorem coL_ext {T T' : Nat → Option D} {l n : Nat} (h : ∀ k, k < n → T' k = T k) : ∀ t : List D, (∀ k ∈ labsL t, k < n) → CoL T l t → CoL T' l t
  | [], _, _ => trivial
  | d :: ds, u, c => by
    simp only [CoL] at c ⊢
    exact ⟨co_ext h d (fun k hk => u k (by simp only [labsL, List.mem_append]; exact .inl hk)) c.1, coL_ext h ds (fun k hk => u k (by simp only [labsL, List.mem_append]; exact .inr hk)) c.2⟩
end
theorem k21 {a0 a1 a2 a3 a4 a5 a6 a7 a8 a9 b0 b1 b2 b3 b4 b5 b6 b7 b8 b9 c0 : D} {σ tm : List (Option D)} {n : Nat} : lstM [a0, a1, a2, a3, a4, a5, a6, a7, a8, a9, b0, b1, b2, b3, b4, b5, b6, b7, b8, b9, c0] ⟨σ, tm, n⟩ = .ok (.lst n [a0, a1, a2, a3, a4, a5, a6, a7, a8, a9, b0, b1, b2, b3, b4, b5, b6, b7, b8, b9, c0]) ⟨σ, tm, n + 1⟩ := y_lst (by rw [zl]; simp)
structure Wl (T : Nat → Option D) (l m n : Nat) (b : Int) (L K S : Nat) (t : D) : Prop where
  ob : Ob m b L t = true
  dp : (er t).depth ≤ K
  bu : (er t).bulk ≤ S
  up : Up n t
  co : Co T l t
noncomputable def oddT (T : Nat → Option D) (n : Nat) : Nat → Option D := fun k => if k = n then some (.lst n []) else if k = n + 1 then some (.lst (n + 1) [.int 0]) else T k
noncomputable def odds (n : Nat) : List D := [D.non, D.bool true, D.bool false, D.str "", D.str "mark", D.int (-1), D.int 0, D.int 1, D.int 20, D.int 21, D.int 60, D.int 61, D.int 96, D.int 97, D.int 1039, D.int 1040, D.int (10 ^ Int.toNat 59), D.lst n [], D.tup [], D.tup [D.int 0], D.lst (n + 1) [D.int 0], D.tup [D.int 0, D.int 0], D.tup [D.int 0, D.int 1], D.tup [D.int 1, D.int 0], D.tup [D.int 0, D.int 0, D.non], D.tup [D.tup []]]
theorem odds_ok (T : Nat → Option D) (l n : Nat) (hl : l < n) : ∀ d ∈ odds n, Wl (oddT T n) l n (n + 5) (10 ^ 59) 3 2 6 d := by
  have t0 : oddT T n n = some (.lst n []) := by simp [oddT]
  have t1 : oddT T n (n + 1) = some (.lst (n + 1) [.int 0]) := by simp [oddT]
  have k : ∀ d ∈ odds n, (Ob n (10 ^ 59) 3 d = true ∧ (er d).depth ≤ 2) ∧ ((er d).bulk ≤ 6 ∧ Up (n + 5) d) ∧ Co (oddT T n) l d := by
    unfold odds
    simp only [List.forall_mem_cons]
    simp only [Up, labs, labsL, Ob, ObL, er, erL, PyData.depth, PyData.depthAll, PyData.bulk, PyData.bulkAll, Co, CoL, List.length_nil, List.length_cons, t0, t1]
    simp
    exact ⟨by decide +kernel, by decide +kernel⟩
  intro d hd
  obtain ⟨⟨a, b⟩, ⟨c, e⟩, f⟩ := k d hd
  exact ⟨a, b, c, e, f⟩
theorem odd_eq (T : Nat → Option D) (l : Nat) (c x : Int) (n : Nat) (h : Bg c x) (hn : l < n) : ∃ t c' x', Wl (oddT T n) l n (n + 5) (10 ^ 59) 3 2 6 t ∧ Bg c' x' ∧ f_l_odd [.lst l [.int c, .int x]] n = .ok t [.lst l [.int c', .int x']] (n + 5) := by
  unfold f_l_odd m_l_odd
  walk_at "mr"
  rw [y_pow ⟨by decide, by decide, by decide⟩]
  walk_at "mr"
  rw [k21]
  walk_at "mr"
  try (simp only [t3])
  try (walk_at "mr")
  rw [k5]
  walk_at "mr"
  rw [y_addL (by rw [zl]; simp)]
  walk_at "mr"
  have q0 : n ≠ l := by omega
  have q1 : n + 1 ≠ l := by omega
  have q2 : n + 1 + 1 ≠ l := by omega
  have q3 : n + 1 + 1 + 1 + 1 ≠ l := by omega
  obtain ⟨r, c1, x1, hr0, hr1, b1, e1⟩ := take_eq l c x 26 (n + 1 + 1 + 1 + 1 + 1) h (by decide) (by decide)
  rw [e1, callK_bag rfl rfl rfl (by walk_at "mr"; simp only [rp_ne q0, rp_ne q1, rp_ne q2, rp_ne q3]; walk_at "mr"; simp only [rp_ne q0, rp_ne q1, rp_ne q2, rp_ne q3]; walk_at "mr") (by walk_at "mr"; simp only [rp_ne q0, rp_ne q1, rp_ne q2, rp_ne q3]; walk_at "mr"; simp only [rp_ne q0, rp_ne q1, rp_ne q2, rp_ne q3]; walk_at "mr")]
  walk_at "mr"
  simp only [rp_ne q0, rp_ne q1, rp_ne q2, rp_ne q3]
  walk_at "mr"
  simp only [rp_ne q0, rp_ne q1, rp_ne q2, rp_ne q3]
  walk_at "mr"
  obtain ⟨d, hd, ed⟩ := at_mem (ds := odds n) hr0 (by simp only [odds, List.length_cons, List.length_nil]; omega)
  unfold odds at ed
  rw [ed]
  walk_at "mr"
  exact ⟨d, c1, x1, odds_ok T l n hn d hd, b1, rfl⟩
theorem cut_dr1 {ws : List D} {l : Nat} : cutA ws (some ((l : Int) + 1)) none = ws.drop (l + 1) := by
  rw [show ((l : Int) + 1) = ((l + 1 : Nat) : Int) by omega, cut_dr]
theorem at5 {w : Int} (h0 : 0 ≤ w) (h1 : w < 5) : ∃ v : Int, (-1 ≤ v ∧ v ≤ 97) ∧ atI [D.int 1, D.int (-1), D.int 2, D.int 97, D.int 1] w = some (.int v) := by
  obtain ⟨e, he, q⟩ := at_mem (ds := [D.int 1, D.int (-1), D.int 2, D.int 97, D.int 1]) h0 (by simpa using h1)
  simp only [List.mem_cons, List.not_mem_nil, or_false] at he
  rcases he with rfl | rfl | rfl | rfl | rfl <;> exact ⟨_, by decide, q⟩
theorem wl_tup {T : Nat → Option D} {l m n L K S : Nat} {b : Int} {es : List D} (hl : es.length ≤ L) (h : ∀ e ∈ es, Ob m b L e = true ∧ (er e).depth ≤ K ∧ Up n e ∧ Co T l e) (hb : bk es ≤ S) : Wl T l m n b L (K + 1) S (.tup es) := by
  refine ⟨?_, ?_, by rw [bk_tup]; exact hb, up_tup fun e he => (h e he).2.2.1, ?_⟩
  · simp only [Ob, Bool.and_eq_true, decide_eq_true_eq]; exact ⟨hl, ObL_all.mpr fun d hd => (h d hd).1⟩
  · simp only [er, PyData.depth]; exact Nat.succ_le_succ (dep_all.mpr fun d hd => (h d hd).2.1)
  · simp only [Co]; exact CoL_all.mpr fun d hd => (h d hd).2.2.2
theorem up_mono {n n' : Nat} {t : D} (h : Up n t) (hn : n ≤ n') : Up n' t := fun k hk => Nat.lt_of_lt_of_le (h k hk) hn
theorem lnT {ds : List D} {q : Nat} : (ds.take q).length ≤ ds.length := by rw [List.length_take]; exact Nat.min_le_right ..
theorem lnD {ds : List D} {q : Nat} : (ds.drop q).length ≤ ds.length := by rw [List.length_drop]; exact Nat.sub_le ..
theorem fit2 {a b : List D} {i j L : Nat} (ha : a.length ≤ i) (hb : b.length ≤ j) (hi : i ≤ L + 1) (hj : j ≤ L + 1) (hL : L ≤ 1000) : a.length + b.length ≤ sizeLine := by rw [zl]; omega
theorem ln0 {ds : List D} {q : Nat} (h : q < ds.length) : (ds.take q ++ ds.drop (q + 1)).length ≤ ds.length := by simp only [List.length_append, List.length_take, List.length_drop]; omega
theorem ln1 {ds m : List D} {q : Nat} (h : q < ds.length) (hm : m.length ≤ 1) : (ds.take q ++ m).length ≤ ds.length := by simp only [List.length_append, List.length_take]; omega
theorem ln2 {ds m : List D} {q : Nat} (h : q < ds.length) (hm : m.length ≤ 1) : (ds.take q ++ m ++ ds.drop q).length ≤ ds.length + 1 := by simp only [List.length_append, List.length_take, List.length_drop]; omega
theorem ln3 {ds m : List D} {q : Nat} (h : q < ds.length) (hm : m.length ≤ 1) : (ds.take q ++ m ++ ds.drop (q + 1)).length ≤ ds.length := by simp only [List.length_append, List.length_take, List.length_drop]; omega
theorem lnM {ds : List D} {q : Nat} : ((ds.drop q).take 1).length ≤ 1 := by rw [List.length_take]; exact Nat.min_le_left ..
theorem spoilt_body (self : FM) (T : Nat → Option D) (K S m L : Nat) (b : Int) (t : D) (l : Nat) (c x : Int) (n : Nat) (hw : Wl T l m n b L K S t) (hbg : Bg c x) (hl : l < m) (hm : m ≤ n) (h3 : 3 ≤ L) (hL : L ≤ 1000) (hb : 10 ^ 59 ≤ b)
    (hself : ∀ ds, t = .tup ds → ∀ d ∈ ds, ∀ (T : Nat → Option D) (c x : Int) (n : Nat), Bg c x → m ≤ n → Ob m b L d = true → Up n d → Co T l d → ∃ v c' x' n' T', Wl T' l m n' (b + 100) (L + 1) (K + 1) (2 * (er d).bulk + 40) v ∧ (∀ j, j < n → T' j = T j) ∧ n ≤ n' ∧ Bg c' x' ∧ self [.lst l [.int c, .int x], d] n = .ok v [.lst l [.int c', .int x'], d] n') :
    ∃ t' c' x' n' T', Wl T' l m n' (b + 100) (L + 1) (K + 2) (2 * S + 40) t' ∧ (∀ j, j < n → T' j = T j) ∧ n ≤ n' ∧ Bg c' x' ∧ runF 5 (m_l_spoilt self) [.lst l [.int c, .int x], t] n = .ok t' [.lst l [.int c', .int x'], t] n' := by
  unfold m_l_spoilt
  have rs : Rs m t = true := Ob_rs (by omega) t hw.ob
  have lt : l ∉ labs t := Rs_fresh rs hl
  have rt1 : ∀ d, rp (pl l d) t = t := fun d => rp_fresh lt
  walk_at "mr"
  obtain ⟨w, c1, x1, hw0, hw1, b1, e1⟩ := take_eq l c x 8 n hbg (by decide) (by decide)
  rw [e1, callK_bag rfl rfl rfl (by walk_at "mr"; simp only [rt1]) (by walk_at "mr"; simp only [rt1])]
  walk_at "mr"
  simp only [rt1]
  obtain ⟨o, c2, x2, wo, b2, e2⟩ := odd_eq T l c1 x1 n b1 (by omega)
  have hT2 : ∀ j, j < n → oddT T n j = T j := fun j hj => by unfold oddT; rw [if_neg (by omega), if_neg (by omega)]
  generalize oddT T n = T2 at wo hT2
  have ro1 : ∀ d, rp (pl l d) o = o := fun d => rp_fresh (Rs_fresh (Ob_rs (by decide) o wo.ob) (by omega))
  have ct2 : Co T2 l t := co_ext hT2 t hw.up hw.co
  rw [e2, callK_bag rfl rfl rfl (by walk_at "mr"; simp only [rt1]) (by walk_at "mr"; simp only [rt1])]
  walk_at "mr"
  simp only [rt1]
  have obo : Ob m (b + 100) (L + 1) o = true := Ob_mono hm (by omega) (by omega) o wo.ob
  have fin : ∃ t' c' x' n' T', Wl T' l m n' (b + 100) (L + 1) (K + 2) (2 * S + 40) t' ∧ (∀ j, j < n → T' j = T j) ∧ n ≤ n' ∧ Bg c' x' ∧ RF.ok o [.lst l [.int c2, .int x2], t] (n + 5) = .ok t' [.lst l [.int c', .int x'], t] n' :=
    ⟨o, c2, x2, n + 5, T2, ⟨obo, by have := wo.dp; omega, by have := wo.bu; omega, wo.up, wo.co⟩, hT2, by omega, b2, rfl⟩
  have num : ∀ i v : Int, -b ≤ i → i ≤ b → -1 ≤ v → v ≤ 97 → ∃ t' c' x' n' T', Wl T' l m n' (b + 100) (L + 1) (K + 2) (2 * S + 40) t' ∧ (∀ j, j < n → T' j = T j) ∧ n ≤ n' ∧ Bg c' x' ∧ RF.ok (.int (i + v)) [.lst l [.int c2, .int x2], t] (n + 5 + 1) = .ok t' [.lst l [.int c', .int x'], t] n' := fun i v h1 h2 h3 h4 =>
    ⟨.int (i + v), c2, x2, n + 5 + 1, T2, ⟨by simp only [Ob, Bool.and_eq_true, decide_eq_true_eq]; omega, by simp [er, PyData.depth], by simp [er, PyData.bulk], by simp [Up, labs], trivial⟩, hT2, by omega, b2, rfl⟩
  cases t with
  | int i =>
    walk_at "mr"
    by_cases h5 : w < 5
    · simp only [h5, decide_true]
      walk_at "mr"
      rw [k5]
      walk_at "mr"
      obtain ⟨v, ⟨hv0, hv1⟩, ev⟩ := at5 hw0 h5
      rw [ev]
      walk_at "mr"
      have := hw.ob
      simp only [Ob, Bool.and_eq_true, decide_eq_true_eq] at this
      exact num i v this.1 this.2 hv0 hv1
    · simp only [h5, decide_false]
      walk_at "mr"
      exact fin
  | bool k =>
    walk_at "mr"
    by_cases h5 : w < 5
    · simp only [h5, decide_true]
      walk_at "mr"
      rw [k5]
      walk_at "mr"
      obtain ⟨v, ⟨hv0, hv1⟩, ev⟩ := at5 hw0 h5
      rw [ev]
      walk_at "mr"
      exact num _ v (by split <;> omega) (by split <;> omega) hv0 hv1
    · simp only [h5, decide_false]
      walk_at "mr"
      exact fin
  | non => walk_at "mr"; exact fin
  | str _ => walk_at "mr"; exact fin
  | lst _ _ => walk_at "mr"; exact fin
  | ro _ => simp [Rs] at rs
  | dct _ _ _ => simp [Rs] at rs
  | obj _ _ _ _ => simp [Rs] at rs
  | tup ds =>
    walk_at "mr"
    have rL1 : ∀ d, rpL (pl l d) ds = ds := fun d => by have := rt1 d; simp only [rp, D.tup.injEq] at this; exact this
    obtain ⟨hlen, hob⟩ : ds.length ≤ L ∧ ∀ d ∈ ds, Ob m b L d = true := by
      have := hw.ob; simp only [Ob, Bool.and_eq_true, decide_eq_true_eq, ObL_all] at this; exact this
    have hL1 : ds.length ≤ L + 1 := Nat.le_trans hlen (Nat.le_succ L)
    have h1L : 1 ≤ L + 1 := Nat.succ_le_succ (Nat.zero_le L)
    have hup : ∀ d ∈ ds, Up n d := fun d hd k hk => hw.up k (by simp only [labs]; exact labsL_of hd hk)
    have hco : ∀ d ∈ ds, Co T2 l d := by simp only [Co] at ct2; exact CoL_all.mp ct2
    have hbk : bk ds ≤ S := by have := hw.bu; rw [bk_tup] at this; exact this
    have hdp : ∀ d ∈ ds, (er d).depth ≤ K := fun d hd => by
      have := hw.dp
      simp only [er, PyData.depth] at this
      have := dep_all.mp (Nat.le_of_succ_le_succ (Nat.le_trans this (Nat.le_succ K))) d hd
      omega
    by_cases h0 : ds.length = 0
    · simp only [show ((ds.length : Int) == 0) = true by simp [h0]]
      walk_at "mr"
      exact fin
    simp only [show ((ds.length : Int) == 0) = false by simp only [beq_eq_false_iff_ne]; omega]
    walk_at "mr"
    obtain ⟨r, c3, x3, hr0, hr1, b3, e3⟩ := take_eq l c2 x2 ds.length (n + 5) b2 (by omega) (by omega)
    rw [e3, callK_bag rfl rfl rfl (by walk_at "mr"; simp only [ro1, rL1]) (by walk_at "mr"; simp only [ro1, rL1])]
    walk_at "mr"
    simp only [ro1, rL1]
    obtain ⟨q, rfl⟩ := Int.eq_ofNat_of_zero_le hr0
    have hq : q < ds.length := by omega
    have edr : atI ds (q : Int) = some ds[q] := at_nat (by omega) (by simp [hq])
    have hdr : ds[q] ∈ ds := List.getElem_mem hq
    have dsq : ds.drop q = ds[q] :: ds.drop (q + 1) := List.drop_eq_getElem_cons hq
    have bq : bk (ds.take q) + ((er ds[q]).bulk + 1 + bk (ds.drop (q + 1))) = bk ds := by rw [← bk_cons, ← dsq, bk_td]
    generalize hdd : ds[q] = dr at *
    have wob : (er o).bulk ≤ 6 := wo.bu
    have old : ∀ (T' : Nat → Option D) (n' : Nat), (∀ j, j < n → T' j = T2 j) → n ≤ n' → ∀ e ∈ ds, Ob m (b + 100) (L + 1) e = true ∧ (er e).depth ≤ K + 1 ∧ Up n' e ∧ Co T' l e := fun T' n' h1 h2 e he =>
      ⟨Ob_mono (Nat.le_refl _) (by omega) (by omega) e (hob e he), by have := hdp e he; omega, up_mono (hup e he) h2, co_ext h1 e (hup e he) (hco e he)⟩
    have hK : 1 ≤ K := by have := hw.dp; simp only [er, PyData.depth] at this; omega
    have newo : Ob m (b + 100) (L + 1) o = true ∧ (er o).depth ≤ K + 1 ∧ Up (n + 5) o ∧ Co T2 l o := ⟨obo, by have := wo.dp; omega, wo.up, wo.co⟩
    have done : ∀ es : List D, es.length ≤ L + 1 → (∀ e ∈ es, e ∈ ds ∨ e = o) → bk es ≤ 2 * S + 40 → ∃ t' c' x' n' T', Wl T' l m n' (b + 100) (L + 1) (K + 2) (2 * S + 40) t' ∧ (∀ j, j < n → T' j = T j) ∧ n ≤ n' ∧ Bg c' x' ∧ RF.ok (.tup es) [.lst l [.int c3, .int x3], .tup ds] (n + 5) = .ok t' [.lst l [.int c', .int x'], .tup ds] n' := fun es h1 h2 h3 => by
      refine ⟨.tup es, c3, x3, n + 5, T2, wl_tup h1 (fun e he => ?_) h3, hT2, by omega, b3, rfl⟩
      rcases h2 e he with h | rfl
      · exact old T2 (n + 5) (fun _ _ => rfl) (by omega) e h
      · exact newo
    have tk : ∀ {e : D} {k : Nat}, e ∈ ds.take k → e ∈ ds := fun h => List.mem_of_mem_take h
    have dk : ∀ {e : D} {k : Nat}, e ∈ ds.drop k → e ∈ ds := fun h => List.mem_of_mem_drop h
    cases w0 : (w == 0) with
    | true =>
      walk_at "mr"
      rw [cut_tk, cut_dr1, y_addT (fit2 lnT lnD hL1 hL1 hL)]
      walk_at "mr"
      refine done _ (Nat.le_trans (ln0 hq) hL1) (fun e he => ?_) (by rw [bk_app]; omega)
      rcases List.mem_append.mp he with he | he
      · exact .inl (tk he)
      · exact .inl (dk he)
    | false =>
    walk_at "mr"
    cases w1 : (w == 1) with
    | true =>
      walk_at "mr"
      rw [cut_tk, y_addT (fit2 lnT (Nat.le_refl 1) hL1 h1L hL)]
      walk_at "mr"
      rw [cut_dr, y_addT (fit2 (ln1 (m := [_]) hq (Nat.le_refl 1)) lnD hL1 hL1 hL)]
      walk_at "mr"
      refine done _ (Nat.le_trans (ln2 (m := [_]) hq (Nat.le_refl 1)) (Nat.succ_le_succ hlen)) (fun e he => ?_) (by rw [bk_app, bk_app, bk_cons, bk_nil, dsq, bk_cons]; omega)
      rcases List.mem_append.mp he with he | he
      · rcases List.mem_append.mp he with he | he
        · exact .inl (tk he)
        · exact .inr (List.mem_singleton.mp he)
      · exact .inl (dk he)
    | false =>
    walk_at "mr"
    cases w2 : (w == 2) with
    | true =>
      walk_at "mr"
      rw [cut_tk, cut_mid, y_addT (fit2 lnT lnM hL1 h1L hL)]
      walk_at "mr"
      rw [cut_dr, y_addT (fit2 (ln1 hq lnM) lnD hL1 hL1 hL)]
      walk_at "mr"
      refine done _ (Nat.le_trans (ln2 hq lnM) (Nat.succ_le_succ hlen)) (fun e he => ?_) (by rw [bk_app, bk_app, dsq, List.take_succ_cons, List.take_zero, bk_cons, bk_cons, bk_nil]; omega)
      rcases List.mem_append.mp he with he | he
      · rcases List.mem_append.mp he with he | he
        · exact .inl (tk he)
        · exact .inl (dk (List.mem_of_mem_take he))
      · exact .inl (dk he)
    | false =>
    walk_at "mr"
    cases w3 : (w == 3) with
    | true =>
      walk_at "mr"
      rw [cut_tk, y_addT (fit2 lnT (Nat.le_refl 1) hL1 h1L hL)]
      walk_at "mr"
      rw [cut_dr1, y_addT (fit2 (ln1 (m := [_]) hq (Nat.le_refl 1)) lnD hL1 hL1 hL)]
      walk_at "mr"
      refine done _ (Nat.le_trans (ln3 (m := [_]) hq (Nat.le_refl 1)) hL1) (fun e he => ?_) (by rw [bk_app, bk_app, bk_cons, bk_nil]; omega)
      rcases List.mem_append.mp he with he | he
      · rcases List.mem_append.mp he with he | he
        · exact .inl (tk he)
        · exact .inr (List.mem_singleton.mp he)
      · exact .inl (dk he)
    | false =>
    walk_at "mr"
    cases w4 : (w == 4) with
    | true =>
      walk_at "mr"
      refine ⟨.lst (n + 5) ds, c3, x3, n + 5 + 1, fun k => if k = n + 5 then some (.lst (n + 5) ds) else T2 k, ⟨?_, ?_, by rw [bk_lst]; omega, up_lst (by omega) fun e he => up_mono (hup e he) (by omega), ?_⟩, fun j hj => by simp only [if_neg (show j ≠ n + 5 by omega)]; exact hT2 j hj, by omega, b3, rfl⟩
      · simp only [Ob, Bool.and_eq_true, decide_eq_true_eq]; exact ⟨by omega, by omega, ObL_all.mpr fun d hd => Ob_mono (Nat.le_refl _) (by omega) (by omega) d (hob d hd)⟩
      · have := hw.dp; simp only [er, PyData.depth] at this ⊢; omega
      · simp only [Co]
        refine .inr ⟨by simp, fun h => lt (by simp only [labs]; exact h), CoL_all.mpr fun d hd => co_ext (n := n) (fun k hk => if_neg (by omega)) d (hup d hd) (hco d hd)⟩
    | false =>
    walk_at "mr"
    obtain ⟨v, c4, x4, n4, T4, wv, hT4, hn4, b4, e4⟩ := hself ds rfl dr hdr T2 c3 x3 (n + 5) b3 (by omega) (hob dr hdr) (up_mono (hup dr hdr) (by omega)) (hco dr hdr)
    have rv1 : ∀ d, rp (pl l d) v = v := fun d => rp_fresh (Rs_fresh (Ob_rs (by omega) v wv.ob) hl)
    have rtk : ∀ d, rpL (pl l d) (ds.take q) = ds.take q := fun d => rpL_id _ fun j hj => by
      obtain ⟨e, he, hk⟩ := labsL_mem hj
      unfold pl; rw [if_neg]; rintro rfl; exact lt (by simp only [labs]; exact labsL_of (tk he) hk)
    rw [cut_tk, edr]
    walk_at "mr"
    have cds : CoL T2 l ds := CoL_all.mpr hco
    rw [e4, callK_bagC (T := T2) rfl rfl (by simp only [CoL]; exact ⟨hco dr hdr, trivial⟩) (by simp only [labsL, List.append_nil]; exact fun h => lt (by simp only [labs]; exact labsL_of hdr h)) (by simp only [RsL, Bool.and_true]; exact Ob_rs (by omega) dr (Ob_mono (n' := 0) (Nat.zero_le _) (Int.le_refl _) (Nat.le_refl _) dr (hob dr hdr)))
      (by simp only [CoO, Co, true_or, true_and, and_true]; exact ⟨cds, wo.co⟩)
      (by simp only [CoO, Co, true_or, true_and, and_true]; exact ⟨CoL_all.mpr fun d hd => hco d (tk hd), cds⟩)
      (by walk_at "mr"; simp only [ro1, rL1]) (by walk_at "mr"; simp only [rtk, rL1])]
    walk_at "mr"
    simp only [ro1, rL1, rtk]
    try (walk_at "mr")
    rw [y_addT (fit2 lnT (Nat.le_refl 1) hL1 h1L hL)]
    walk_at "mr"
    rw [cut_dr1, y_addT (fit2 (ln1 (m := [_]) hq (Nat.le_refl 1)) lnD hL1 hL1 hL)]
    walk_at "mr"
    have wvb : (er v).bulk ≤ 2 * (er dr).bulk + 40 := wv.bu
    refine ⟨_, c4, x4, n4, T4, wl_tup (Nat.le_trans (ln3 (m := [_]) hq (Nat.le_refl 1)) hL1) (fun e he => ?_) (by rw [bk_app, bk_app, bk_cons, bk_nil]; omega), fun j hj => by rw [hT4 j (by omega)]; exact hT2 j hj, by omega, b4, rfl⟩
    rcases List.mem_append.mp he with he | he
    · rcases List.mem_append.mp he with he | he
      · exact old T4 n4 (fun j hj => hT4 j (by omega)) (by omega) e (tk he)
      · rw [List.mem_singleton.mp he]; exact ⟨wv.ob, wv.dp, wv.up, wv.co⟩
    · exact old T4 n4 (fun j hj => hT4 j (by omega)) (by omega) e (dk he)
theorem spoilt_eq (m L l : Nat) (b : Int) (hl : l < m) (h3 : 3 ≤ L) (hL : L ≤ 1000) (hb : 10 ^ 59 ≤ b) : ∀ (K F : Nat), K ≤ F → ∀ (T : Nat → Option D) (S : Nat) (t : D) (c x : Int) (n : Nat), Wl T l m n b L K S t → Bg c x → m ≤ n →
    ∃ t' c' x' n' T', Wl T' l m n' (b + 100) (L + 1) (K + 2) (2 * S + 40) t' ∧ (∀ j, j < n → T' j = T j) ∧ n ≤ n' ∧ Bg c' x' ∧ f_l_spoilt (F + 1) [.lst l [.int c, .int x], t] n = .ok t' [.lst l [.int c', .int x'], t] n' := by
  intro K
  induction K with
  | zero =>
    intro F hF T S t c x n hw hbg hm
    refine spoilt_body _ T 0 S m L b t l c x n hw hbg hl hm h3 hL hb fun ds e => ?_
    subst e
    have := hw.dp
    simp [er, PyData.depth] at this
  | succ k ih =>
    intro F hF T S t c x n hw hbg hm
    obtain ⟨F', rfl⟩ : ∃ F', F = F' + 1 := ⟨F - 1, by omega⟩
    refine spoilt_body _ T (k + 1) S m L b t l c x n hw hbg hl hm h3 hL hb fun ds e d hd T c x n h1 h2 h4 h5 h6 => ?_
    subst e
    exact ih F' (by omega) T (er d).bulk d c x n ⟨h4, by
      have := hw.dp
      simp only [er, PyData.depth] at this
      exact dep_all.mp (Nat.le_of_succ_le_succ this) d hd, Nat.le_refl _, h5, h6⟩ h1 h2
theorem copy_eq : ∀ (k : Nat) (t : D) (m n : Nat), Rs m t = true → (er t).depth ≤ k → ∃ t' n', CQ n' t t' ∧ n ≤ n' ∧ f_l_copy (k + 1) [t] n = .ok t' [t] n' := by
  intro k
  induction k with
  | zero =>
    intro t m n hr hd
    show ∃ t' n', _ ∧ _ ∧ runF 1 (m_l_copy (f_l_copy 0)) _ _ = _
    unfold m_l_copy
    refine ⟨t, n, ⟨⟨Rs_gd t hr, rfl⟩, fun _ _ h => h⟩, Nat.le_refl _, ?_⟩
    cases t with
    | tup ds => simp [er, PyData.depth] at hd
    | lst l ds => simp [er, PyData.depth] at hd
    | ro _ => simp [Rs] at hr
    | dct _ _ _ => simp [Rs] at hr
    | obj _ _ _ _ => simp [Rs] at hr
    | _ => walk_at "mr"
  | succ k ih =>
    intro t m n hr hd
    show ∃ t' n', _ ∧ _ ∧ runF 1 (m_l_copy (f_l_copy (k + 1))) _ _ = _
    unfold m_l_copy
    cases t with
    | lst l ds =>
      simp only [Rs, Bool.and_eq_true, decide_eq_true_eq, RsL_all] at hr
      simp only [er, PyData.depth] at hd
      have hd' := dep_all.mp (Nat.le_of_succ_le_succ hd)
      obtain ⟨ys, n', h1, h2, h3⟩ := mComp_lst (mc := mVar 0) (me := mCall (f_l_copy (k + 1)) [mVar 0]) (Q := CQ) (fun a b hab d y h => ⟨h.1, fun M hM => h.2 M (by omega)⟩) (l := l) (ds := ds) (ix := []) (s := ⟨[some (.lst l ds)], [some (.lst l ds)], n⟩) (σ := [some (.lst l ds)]) (tm := [some (.lst l ds)]) (n := n) (by walk_at "mr") (by rw [zl]; omega) (by
        intro d hdm tm n
        obtain ⟨y, n', g1, g2, g3⟩ := ih d m n (hr.2.2 d hdm) (hd' d hdm)
        refine ⟨y, n', g2, g1, ?_⟩
        walk_at "mr"
        rw [g3]
        walk_at "mr")
      walk_at "mr"
      rw [h3]
      walk_at "mr"
      obtain ⟨q1, q2, q3⟩ := all2_er h1
      refine ⟨_, n' + 1, ⟨⟨Gd.lst.mpr q1, by simp only [er, q2]⟩, fun M hM hu => ?_⟩, by omega, rfl⟩
      refine up_lst (by omega) (q3 M (by omega) fun e he k hk => hu k ?_)
      simp only [labs, List.mem_cons]
      exact .inr (labsL_of he hk)
    | tup ds =>
      simp only [Rs, Bool.and_eq_true, decide_eq_true_eq, RsL_all] at hr
      simp only [er, PyData.depth] at hd
      have hd' := dep_all.mp (Nat.le_of_succ_le_succ hd)
      obtain ⟨ys, n', h1, h2, h3⟩ := mComp_tupQ (mc := mVar 0) (me := mCall (f_l_copy (k + 1)) [mVar 0]) (Q := CQ) (fun a b hab d y h => ⟨h.1, fun M hM => h.2 M (by omega)⟩) (ds := ds) (ix := []) (s := ⟨[some (.tup ds)], [some (.tup ds)], n⟩) (σ := [some (.tup ds)]) (tm := [some (.tup ds)]) (n := n) (by walk_at "mr") (by rw [zl]; omega) (by
        intro d hdm tm n
        obtain ⟨y, n', g1, g2, g3⟩ := ih d m n (hr.2 d hdm) (hd' d hdm)
        refine ⟨y, n', g2, g1, ?_⟩
        walk_at "mr"
        rw [g3]
        walk_at "mr")
      walk_at "mr"
      rw [h3]
      walk_at "mr"
      obtain ⟨q1, q2, q3⟩ := all2_er h1
      refine ⟨_, n' + 1, ⟨⟨Gd.tup.mpr q1, by simp only [er, q2]⟩, fun M hM hu => ?_⟩, by omega, rfl⟩
      refine up_tup (q3 M (by omega) fun e he k hk => hu k ?_)
      simp only [labs]
      exact labsL_of he hk
    | ro _ => simp [Rs] at hr
    | dct _ _ _ => simp [Rs] at hr
    | obj _ _ _ _ => simp [Rs] at hr
    | _ => exact ⟨_, n, ⟨⟨Rs_gd _ hr, rfl⟩, fun _ _ h => h⟩, Nat.le_refl _, by walk_at "mr"⟩
mutual
noncomputable def Nl : D → Bool
  | .non => true | .bool _ => true | .int _ => true | .str _ => true
  | .tup ds => NlL ds
  | .lst _ _ => false | .ro _ => false | .dct _ _ _ => false | .obj _ _ _ _ => false
noncomputable def NlL : List D → Bool
  | [] => true
  | d :: ds => Nl d && NlL ds
end
theorem NlL_all : ∀ {ds : List D}, NlL ds = true ↔ ∀ d ∈ ds, Nl d = true
  | [] => by simp [NlL]
  | d :: ds => by simp only [NlL, Bool.and_eq_true, NlL_all (ds := ds), List.forall_mem_cons]
mutual
theorem er_inj : ∀ t t' : D, Nl t = true → plain t' = true → er t' = er t → t' = t
  | .non, t', _, h, e => by cases t' <;> simp [er] at e <;> first | rfl | (simp [Mi.plain] at h)
  | .bool _, t', _, h, e => by cases t' <;> simp [er] at e <;> first | (subst e; rfl) | (simp [Mi.plain] at h)
  | .int _, t', _, h, e => by cases t' <;> simp [er] at e <;> first | (subst e; rfl) | (simp [Mi.plain] at h)
  | .str _, t', _, h, e => by cases t' <;> simp [er] at e <;> first | (subst e; rfl) | (simp [Mi.plain] at h)
  | .tup ds, t', n, h, e => by
    cases t' with
    | tup ds' =>
      simp only [er, PyData.tuple.injEq] at e
      simp only [Nl] at n
      simp only [Mi.plain] at h
      rw [erL_inj ds ds' n h e]
    | _ => simp [er] at e <;> (try simp [Mi.plain] at h)
  | .lst _ _, _, n, _, _ => by simp [Nl] at n
  | .ro _, _, n, _, _ => by simp [Nl] at n
  | .dct _ _ _, _, n, _, _ => by simp [Nl] at n
  | .obj _ _ _ _, _, n, _, _ => by simp [Nl] at n
theorem erL_inj : ∀ t t' : List D, NlL t = true → plainL t' = true → erL t' = erL t → t' = t
  | [], [], _, _, _ => rfl
  | [], _ :: _, _, _, e => by simp [erL] at e
  | _ :: _, [], _, _, e => by simp [erL] at e
  | d :: ds, d' :: ds', n, h, e => by
    simp only [NlL, Bool.and_eq_true] at n
    simp only [plainL, Bool.and_eq_true] at h
    simp only [erL, List.cons.injEq] at e
    rw [er_inj d d' n.1 h.1 e.1, erL_inj ds ds' n.2 h.2 e.2]
end
theorem nl_sg {ss : List D} (h : ∀ d ∈ ss, inR 0 1039 d = true) : NlL ss = true := NlL_all.mpr fun d hd => by
  obtain ⟨i, rfl, _, _⟩ := inR_int (h d hd); rfl
theorem nl_std {lim : Int} {bar : List D} {t : D} (h : stdB lim bar t = true) : Nl t = true := by
  unfold stdB at h
  split at h
  · rename_i ss b e m
    simp only [Bool.and_eq_true] at h
    obtain ⟨h1, h2, h3, h4⟩ := h
    have q1 := nl_sg (List.all_eq_true.mp h1)
    have q2 : Nl b = true ∧ Nl e = true := by cases b <;> cases e <;> simp [bsB] at h2 <;> exact ⟨rfl, rfl⟩
    have q3 : Nl m = true := by rcases stB_cases h3 with rfl | ⟨a, c, rfl, _⟩ <;> rfl
    simp only [Nl, NlL, q1, q2.1, q2.2, q3, Bool.and_self]
  · cases h
theorem nl_field {t : D} (h : fieldB t = true) : Nl t = true := by
  unfold fieldB at h
  split at h
  · rename_i a b
    simp only [Bool.and_eq_true] at h
    obtain ⟨i, rfl, _, _⟩ := inR_int h.1
    obtain ⟨ss, rfl, _, _, hi⟩ := rowB_tup h.2
    simp only [Nl, NlL, nl_sg hi, Bool.and_self]
  · cases h
theorem field_er {t t' : D} (p : plain t = true) (p' : plain t' = true) (e : er t' = er t) : fieldB t' = fieldB t := by
  rw [Bool.eq_iff_iff]
  constructor
  · intro h; rw [er_inj t' t (nl_field h) p e.symm]; exact h
  · intro h; rw [er_inj t t' (nl_field h) p' e]; exact h
theorem std_er {lim : Int} {bar : List D} {t t' : D} (p : plain t = true) (p' : plain t' = true) (e : er t' = er t) : stdB lim bar t' = stdB lim bar t := by
  rw [Bool.eq_iff_iff]
  constructor
  · intro h; rw [er_inj t' t (nl_std h) p e.symm]; exact h
  · intro h; rw [er_inj t t' (nl_std h) p' e]; exact h
theorem ne_bb {a b : Bool} {k k' : Nat} {s : Stt} : neD (.lst k [.bool a, .bool b]) (.lst k' [.bool a, .bool b]) s = .ok (.bool false) s := by
  have g : ∀ k, Gd (.lst k [.bool a, .bool b]) := fun k => by simp [Gd, Mi.plain, plainL, er, erL, PyData.canLay0, PyData.canLayAll0]
  exact ne_same (g k) (g k') (by simp [er]) (by simp [er, erL, PyData.depth, PyData.depthAll])
theorem y_strE {ds ds' : List D} {s : Stt} {n L : Nat} {b : Int} (hb : b < 10 ^ 61) (hL : L ≤ 2000) (h : Ob n b L (.tup ds) = true) (hd : (er (.tup ds)).depth ≤ 60) (hk : bk ds ≤ 200000) (hp : plainL ds' = true) (he : er (.tup ds') = er (.tup ds)) : strD [.tup ds'] s = .ok (.str (er (.tup ds)).shown) s := by
  obtain ⟨s1, s2⟩ := ob_short hb _ h
  have := PyData.shown_le_bulk 64 (by decide) _ s1
  rw [bk_tup] at this
  have hc : strC ds' = true := by
    simp only [strC, he, hp, s2, hd, Bool.true_and, Bool.and_true, Bool.and_eq_true, decide_eq_true_eq, decide_true, true_and]
    rw [zl]
    omega
  simp only [strD, if_pos hc, he]
  rfl
noncomputable def rgB : MS := (seqS (sAsg (.nm 6) (mCB [(mCall f_p_is_field [(mBin (mVar 3) (mC (.int 0)) ixD)]), (mCall f_p_is_standing [(mVar 0), (mBin (mVar 3) (mC (.int 1)) ixD)])] lstM))
    (sIf (mOr (mBoo (mBin (mVar 6) (mVar 4) neD)) (mNot (mTest (mCB [(mComp (mSeqI (mVar 6)) (.nm 0) (rt true) (mIsi "bool" (mVar 0)) 1 [])] allD)))) (sRet (mC (.bool false))) sNx))
theorem right_eq (lim : Int) (bar : List D) (t u : D) (n m L : Nat) (b : Int) (h0 : 0 ≤ lim) (h1 : lim ≤ 60) (hbar : Sg bar) (hb : b < 10 ^ 61) (hL0 : 2 ≤ L) (hL : L ≤ 2000) (ot : Ob m b L t = true) (ou : Ob m b L u = true) (dt : (er t).depth ≤ 10) (du : (er u).depth ≤ 10) (bt : (er t).bulk ≤ 90000) (bu : (er u).bulk ≤ 90000) :
    ∃ n', n ≤ n' ∧ f_l_right [.tup [.int lim, .tup bar], t, u] n = .ok (.bool true) [.tup [.int lim, .tup bar], t, u] n' := by
  have gb : GdL bar := gdl_ints hbar
  have rt1 := Ob_rs hL t ot
  have ru1 := Ob_rs hL u ou
  have pt := (Rs_gd t rt1).1
  have pu := (Rs_gd u ru1).1
  have op : Ob m b L (.tup [t, u]) = true := by simp only [Ob, ObL, ot, ou, List.length_cons, List.length_nil, Bool.and_true, decide_eq_true_eq]; omega
  have dp : (er (.tup [t, u])).depth ≤ 11 := by simp only [er, erL, PyData.depth, PyData.depthAll]; omega
  have kp : bk [t, u] ≤ 200000 := by rw [bk_cons, bk_cons, bk_nil]; omega
  unfold f_l_right
  have e0 : m_l_right = (seqS (sAsg (.nm 3) (mCall (f_l_copy 12) [(mCB [(mVar 1), (mVar 2)] tupD)]))
    (seqS (sAsg (.nm 4) (mCB [(mCall f_l_is_field [(mVar 1)]), (mCall f_l_is_standing [(mVar 0), (mVar 2)])] lstM))
    (seqS (sFor (mRng1 [(mC (.int 2))]) (.nm 5) rgB)
    (sRet (mBin (mCB [(mVar 3)] strD) (mCB [(mCB [(mVar 1), (mVar 2)] tupD)] strD) eqS))))) := rfl
  rw [e0]
  walk_at "mr"
  obtain ⟨h, n1, ⟨⟨gh, eh⟩, _⟩, hn1, e1⟩ := copy_eq 11 (.tup [t, u]) m n (Ob_rs hL _ op) dp
  rw [e1]
  walk_at "mr"
  obtain ⟨t', u', rfl, et, eu⟩ : ∃ t' u', h = .tup [t', u'] ∧ er t' = er t ∧ er u' = er u := by
    cases h with
    | tup ds =>
      simp only [er, PyData.tuple.injEq] at eh
      match ds, eh with
      | [a, c], eh => simp only [erL, List.cons.injEq, and_true] at eh; exact ⟨a, c, rfl, eh.1, eh.2⟩
      | [], eh => simp [erL] at eh
      | [_], eh => simp [erL] at eh
      | _ :: _ :: _ :: _, eh => simp [erL] at eh
    | _ => simp [er] at eh
  have ph := gh.1
  simp only [Mi.plain] at ph
  have pt' := plainL_mem ph (d := t') (by simp)
  have pu' := plainL_mem ph (d := u') (by simp)
  obtain ⟨n2, hn2, e2⟩ := lfield_eq t n1 pt
  rw [e2]
  walk_at "mr"
  obtain ⟨n3, hn3, e3⟩ := lstd_eq lim bar u n2 h0 h1 gb pu
  rw [e3]
  walk_at "mr"
  rw [y_rng1 ⟨by decide, by decide⟩]
  walk_at "mr"
  obtain ⟨s', e4, o5, o6, k, hk, rfl⟩ := for_rng (P := fun i s => ∃ (o5 o6 : Option D) (k : Nat), n ≤ k ∧ s = ⟨[some (.tup [.int lim, .tup bar]), some t, some u, some (.tup [t', u']), some (.lst n3 [.bool (fieldB t), .bool (stdB lim bar u)]), o5, o6], [some (.tup [.int lim, .tup bar]), some t, some u], k⟩) (lo := 0) (N := (2 : Int).toNat) (g := .nm 5) (b := rgB) (by
    rintro i hi s ⟨o5, o6, k, hk, rfl⟩
    refine ⟨[some (.tup [.int lim, .tup bar]), some t, some u, some (.tup [t', u']), some (.lst n3 [.bool (fieldB t), .bool (stdB lim bar u)]), some (.int (0 + (i : Nat))), o6], rfl, ?_⟩
    unfold rgB
    walk_at "mr"
    obtain ⟨n5, hn5, e5⟩ := pfield_eq t' k pt'
    rw [e5]
    walk_at "mr"
    obtain ⟨n6, hn6, e6⟩ := pstd_eq lim bar u' n5 h0 h1 gb pu'
    rw [e6]
    walk_at "mr"
    rw [field_er pt pt' et, std_er pu pu' eu, ne_bb]
    walk_at "mr"
    obtain ⟨n7, hn7, e7⟩ := mComp_lstG (mc := mVar 6) (mt := rt true) (me := mIsi "bool" (mVar 0)) (p := fun _ => true) (g := fun _ => .bool true) (l := n6) (ds := [.bool (fieldB t), .bool (stdB lim bar u)]) (ix := []) (σ := [some (.tup [.int lim, .tup bar]), some t, some u, some (.tup [t', u']), some (.lst n3 [.bool (fieldB t), .bool (stdB lim bar u)]), some (.int (i : Nat)), some (.lst n6 [.bool (fieldB t), .bool (stdB lim bar u)])]) (tm := [some (.tup [.int lim, .tup bar]), some t, some u]) (n := n6 + 1) (s := ⟨[some (.tup [.int lim, .tup bar]), some t, some u, some (.tup [t', u']), some (.lst n3 [.bool (fieldB t), .bool (stdB lim bar u)]), some (.int (i : Nat)), some (.lst n6 [.bool (fieldB t), .bool (stdB lim bar u)])], [some (.tup [.int lim, .tup bar]), some t, some u], n6 + 1⟩) (by walk_at "mr") (by rw [zl]; simp)
      (fun d hd tm n => ⟨n, Nat.le_refl _, rfl⟩)
      (by
        intro d hd _ tm n
        refine ⟨n, Nat.le_refl _, ?_⟩
        simp only [List.mem_cons, List.not_mem_nil, or_false] at hd
        rcases hd with rfl | rfl <;> walk_at "mr")
    rw [e7]
    walk_at "mr"
    rw [y_all (bs := [true, true]) (by simp [boolsD])]
    walk_at "mr"
    simp only [List.all_cons, List.all_nil, id, Bool.and_self]
    walk_at "mr"
    exact ⟨_, rfl, _, _, _, by omega, rfl⟩) (2 : Int).toNat 0 ⟨[some (.tup [.int lim, .tup bar]), some t, some u, some (.tup [t', u']), some (.lst n3 [.bool (fieldB t), .bool (stdB lim bar u)]), none, none], [some (.tup [.int lim, .tup bar]), some t, some u], n3 + 1⟩ (by decide) ⟨none, none, n3 + 1, by omega, rfl⟩
  rw [e4]
  walk_at "mr"
  rw [y_strE hb hL op (by omega) kp ph (by simp only [er, erL, et, eu])]
  walk_at "mr"
  rw [y_str hb hL op (by omega) kp]
  walk_at "mr"
  exact ⟨k, hk, rfl⟩
theorem co_ints {T : Nat → Option D} {l : Nat} (ns : List Int) : CoL T l (ns.map .int) := CoL_all.mpr fun d hd => by
  obtain ⟨j, _, rfl⟩ := List.mem_map.mp hd; trivial
theorem co_sg {T : Nat → Option D} {l : Nat} {ys : List D} (h : Sg ys) : CoL T l ys := CoL_all.mpr fun d hd => by
  obtain ⟨j, rfl, _, _⟩ := inR_int (h d hd); trivial
theorem sd_nl {t : D} (h : Sd t) : Nl t = true := by
  obtain ⟨ss, b, e, m, rfl, hs, _, _, _, hm⟩ := h
  have q1 := nl_sg hs
  have q3 : Nl m = true := by rcases hm with rfl | ⟨a, c, rfl, _⟩ <;> rfl
  simp only [Nl, NlL, q1, q3, Bool.and_self]
mutual
theorem nl_labs : ∀ t : D, Nl t = true → labs t = []
  | .non, _ => rfl
  | .bool _, _ => rfl
  | .int _, _ => rfl
  | .str _, _ => rfl
  | .tup ds, h => by simp only [Nl] at h; simp only [labs]; exact nlL_labs ds h
  | .lst _ _, h => by simp [Nl] at h
  | .ro _, h => by simp [Nl] at h
  | .dct _ _ _, h => by simp [Nl] at h
  | .obj _ _ _ _, h => by simp [Nl] at h
theorem nlL_labs : ∀ t : List D, NlL t = true → labsL t = []
  | [], _ => rfl
  | d :: ds, h => by simp only [NlL, Bool.and_eq_true] at h; simp only [labsL, nl_labs d h.1, nlL_labs ds h.2, List.append_nil]
end
mutual
theorem nl_co {T : Nat → Option D} {l : Nat} : ∀ t : D, Nl t = true → Co T l t
  | .non, _ => trivial
  | .bool _, _ => trivial
  | .int _, _ => trivial
  | .str _, _ => trivial
  | .tup ds, h => by simp only [Nl] at h; simp only [Co]; exact nlL_co ds h
  | .lst _ _, h => by simp [Nl] at h
  | .ro _, h => by simp [Nl] at h
  | .dct _ _ _, h => by simp [Nl] at h
  | .obj _ _ _ _, h => by simp [Nl] at h
theorem nlL_co {T : Nat → Option D} {l : Nat} : ∀ t : List D, NlL t = true → CoL T l t
  | [], _ => trivial
  | d :: ds, h => by simp only [NlL, Bool.and_eq_true] at h; exact ⟨nl_co d h.1, nlL_co ds h.2⟩
end
theorem sg_bk : ∀ {ys : List D}, Sg ys → bk ys = ys.length
  | [], _ => bk_nil
  | y :: ys, h => by
    obtain ⟨j, rfl, _, _⟩ := inR_int (h y (by simp))
    rw [bk_cons, sg_bk fun z hz => h z (by simp [hz]), List.length_cons]
    simp [er, PyData.bulk]
    omega
theorem sg_dp : ∀ {ys : List D}, Sg ys → PyData.depthAll (erL ys) = 0
  | [], _ => by simp [erL, PyData.depthAll]
  | y :: ys, h => by
    obtain ⟨j, rfl, _, _⟩ := inR_int (h y (by simp))
    have ih := sg_dp (ys := ys) fun z hz => h z (by simp [hz])
    simp only [erL, PyData.depthAll, ih, er, PyData.depth]
    rfl
theorem sg_ob {m L : Nat} {b : Int} (hb : 10000 ≤ b) : ∀ {ys : List D}, Sg ys → ObL m b L ys = true
  | [], _ => rfl
  | y :: ys, h => by
    obtain ⟨j, rfl, h0, h1⟩ := inR_int (h y (by simp))
    have ih := sg_ob (m := m) (L := L) hb (ys := ys) fun z hz => h z (by simp [hz])
    simp only [ObL, Ob, ih, Bool.and_true, Bool.and_eq_true, decide_eq_true_eq]
    omega
theorem wl_field {T : Nat → Option D} {l m n L : Nat} {b lim : Int} {bar : List D} (hb : 10000 ≤ b) (hL : 40 ≤ L) (h0 : 0 ≤ lim) (h1 : lim ≤ 60) (hs : Sg bar) (hl : bar.length ≤ 40) : Wl T l m n b L 2 1000 (.tup [.int lim, .tup bar]) := by
  refine ⟨?_, ?_, ?_, ?_, ?_⟩
  · simp only [Ob, ObL, sg_ob hb hs, Bool.and_true, Bool.and_eq_true, decide_eq_true_eq, List.length_cons, List.length_nil]; omega
  · simp only [er, erL, PyData.depth, PyData.depthAll, sg_dp hs]; omega
  · rw [bk_tup, bk_cons, bk_cons, bk_nil, bk_tup, sg_bk hs]; simp [er, PyData.bulk]; omega
  · intro k hk; simp only [labs, labsL, sg_labs hs, List.append_nil] at hk; cases hk
  · simp only [Co, CoL, true_and, and_true]; exact co_sg hs
theorem wl_sd {T : Nat → Option D} {l m n L : Nat} {b : Int} {t : D} (hb : 10000 ≤ b) (hL : 400 ≤ L) (h : Sd t) : Wl T l m n b L 2 1000 t := by
  have hn := sd_nl h
  refine ⟨?_, ?_, ?_, (fun k hk => absurd hk (by rw [nl_labs t hn]; exact List.not_mem_nil)), nl_co t hn⟩
  · obtain ⟨ss, b', e, m', rfl, hs, ls, hb', he', hm⟩ := h
    have q3 : Ob m b L m' = true := by
      rcases hm with rfl | ⟨a, c, rfl, ha, hc⟩
      · rfl
      · simp only [Ob, ObL, Bool.and_true, Bool.and_eq_true, decide_eq_true_eq, List.length_cons, List.length_nil]; omega
    simp only [Ob, ObL, sg_ob hb hs, q3, Bool.and_true, Bool.and_eq_true, decide_eq_true_eq, List.length_cons, List.length_nil]
    omega
  · obtain ⟨ss, b', e, m', rfl, hs, ls, hb', he', hm⟩ := h
    have q3 : (er m').depth ≤ 1 := by rcases hm with rfl | ⟨a, c, rfl, ha, hc⟩ <;> simp [er, erL, PyData.depth, PyData.depthAll]
    simp only [er, erL, PyData.depth, PyData.depthAll, sg_dp hs]; omega
  · obtain ⟨ss, b', e, m', rfl, hs, ls, hb', he', hm⟩ := h
    have q3 : (er m').bulk ≤ 2 := by
      rcases hm with rfl | ⟨a, c, rfl, ha, hc⟩
      · simp [er, PyData.bulk]
      · rw [bk_tup, bk_cons, bk_cons, bk_nil]; simp [er, PyData.bulk]
    rw [bk_tup, bk_cons, bk_cons, bk_cons, bk_cons, bk_nil, bk_tup, sg_bk hs]
    simp only [er, PyData.bulk]
    omega
noncomputable def spB : MS := sAsg (.tp [.nm 7, .nm 8]) (mCB [(mCall (f_l_spoilt 12) [(mVar 2), (mVar 7)]), (mCall (f_l_spoilt 12) [(mVar 2), (mVar 8)])] tupD)
theorem spB_eq (ns : List Int) (i far lim j a c x : Int) (l n m L K S : Nat) (b : Int) (bar : List D) (st t u : D) (T : Nat → Option D) (hbar : Sg bar) (hst : Sd st) (ht : Wl T l m n b L K S t) (hu : Wl T l m n b L K S u) (hbg : Bg c x) (hl : l < m) (hm : m ≤ n) (h3 : 3 ≤ L) (hL : L ≤ 1000) (hb : 10 ^ 59 ≤ b) (hK : K ≤ 11) :
    ∃ c' x' t' u' n' T', Bg c' x' ∧ Wl T' l m n' (b + 100) (L + 1) (K + 2) (2 * S + 40) t' ∧ Wl T' l m n' (b + 100) (L + 1) (K + 2) (2 * S + 40) u' ∧ n ≤ n' ∧
      spB ⟨[some (.ro (ns.map .int)), some (.int i), some (.lst l [.int c, .int x]), some (.int far), some (.tup [.int lim, .tup bar]), some st, some (.int j), some t, some u, some (.int a)], [some (.ro (ns.map .int))], n⟩ = .nx ⟨[some (.ro (ns.map .int)), some (.int i), some (.lst l [.int c', .int x']), some (.int far), some (.tup [.int lim, .tup bar]), some st, some (.int j), some t', some u', some (.int a)], [some (.ro (ns.map .int))], n'⟩ := by
  have sr : ∀ k d, rp (pl k d) (.ro (ns.map .int)) = .ro (ns.map .int) := fun k d => rp_fresh (by
    simp only [labs]; intro h; obtain ⟨e, he, hk⟩ := labsL_mem h; obtain ⟨j, _, rfl⟩ := List.mem_map.mp he; simp [labs] at hk)
  have rb := sg_rp hbar
  have rst : ∀ k d, rp (pl k d) st = st := fun k d => rp_fresh (by rw [nl_labs st (sd_nl hst)]; exact List.not_mem_nil)
  have fresh : ∀ {L : Nat} {b : Int} {t : D}, L ≤ 2000 → Ob m b L t = true → l ∉ labs t := fun hL h => Rs_fresh (Ob_rs hL _ h) hl
  have rt1 : ∀ d, rp (pl l d) t = t := fun d => rp_fresh (fresh (by omega) ht.ob)
  have ru1 : ∀ d, rp (pl l d) u = u := fun d => rp_fresh (fresh (by omega) hu.ob)
  have cst : ∀ T, Co T l st := fun T => nl_co st (sd_nl hst)
  have cb : ∀ T, CoL T l bar := fun T => co_sg hbar
  have cn : ∀ T, CoL T l (ns.map .int) := fun T => co_ints ns
  unfold spB
  walk_at "mr"
  obtain ⟨t', c1, x1, n1, T1, w1, hT1, hn1, b1, e1⟩ := spoilt_eq m L l b hl h3 hL hb K 11 hK T S t c x n ht hbg hm
  have r1 : ∀ d, rp (pl l d) t' = t' := fun d => rp_fresh (fresh (by omega) w1.ob)
  rw [e1, callK_bagC (T := T) rfl rfl (by simp only [CoL]; exact ⟨ht.co, trivial⟩) (by simp only [labsL, List.append_nil]; exact fresh (by omega) ht.ob) (by simp only [RsL, Bool.and_true]; exact Rs_mono (Nat.zero_le _) t (Ob_rs (by omega) t ht.ob))
    (by simp only [CoO, Co, CoL, cn, cb, cst, ht.co, hu.co, true_or, true_and, and_true])
    (by simp only [CoO, Co, CoL, cn, true_and, and_true])
    (by walk_at "mr"; simp only [sr, rb, rst, rt1, ru1]) (by walk_at "mr"; simp only [sr])]
  walk_at "mr"
  simp only [sr, rb, rst, rt1, ru1]
  have hu1 : Wl T1 l m n1 b L K S u := ⟨hu.ob, hu.dp, hu.bu, up_mono hu.up hn1, co_ext hT1 u hu.up hu.co⟩
  have ct1 : Co T1 l t := co_ext hT1 t ht.up ht.co
  obtain ⟨u', c2, x2, n2, T2, w2, hT2, hn2, b2, e2⟩ := spoilt_eq m L l b hl h3 hL hb K 11 hK T1 S u c1 x1 n1 hu1 b1 (by omega)
  rw [e2, callK_bagC (T := T1) rfl rfl (by simp only [CoL]; exact ⟨hu1.co, trivial⟩) (by simp only [labsL, List.append_nil]; exact fresh (by omega) hu.ob) (by simp only [RsL, Bool.and_true]; exact Rs_mono (Nat.zero_le _) u (Ob_rs (by omega) u hu.ob))
    (by simp only [CoO, Co, CoL, cn, cb, cst, ct1, hu1.co, true_or, true_and, and_true])
    (by simp only [CoO, Co, CoL, cn, w1.co, true_and, and_true])
    (by walk_at "mr"; simp only [sr, rb, rst, rt1, ru1]) (by walk_at "mr"; simp only [sr, r1])]
  walk_at "mr"
  simp only [sr, rb, rst, rt1, ru1, r1]
  try (walk_at "mr")
  exact ⟨c2, x2, t', u', n2, T2, b2, ⟨w1.ob, w1.dp, w1.bu, up_mono w1.up hn2, co_ext hT2 t' w1.up w1.co⟩, w2, by omega, rfl⟩
noncomputable def Sj : Nat → Nat
  | 0 => 1000
  | k + 1 => 2 * Sj k + 40
noncomputable def chkM : MS := sIf (mOr (mNot (mTest (mCall f_l_right [(mVar 4), (mVar 7), (mVar 8)]))) (mNot (mTest (mCall f_l_right [(mVar 4), (mVar 8), (mVar 7)])))) (sRet (mC (.bool false))) sNx
theorem chk_eq (ns : List Int) (i far lim c x : Int) (l n m L : Nat) (b : Int) (bar : List D) (st t u : D) (o6 o9 : Option D) (hbar : Sg bar) (lbar : bar.length ≤ 20) (hst : Sd st) (h0 : 0 ≤ lim) (h1 : lim ≤ 60) (hb : b < 10 ^ 61) (hL0 : 2 ≤ L) (hL : L ≤ 2000) (ot : Ob m b L t = true) (ou : Ob m b L u = true) (dt : (er t).depth ≤ 10) (du : (er u).depth ≤ 10) (bt : (er t).bulk ≤ 90000) (bu : (er u).bulk ≤ 90000) :
    ∃ n', n ≤ n' ∧ chkM ⟨[some (.ro (ns.map .int)), some (.int i), some (.lst l [.int c, .int x]), some (.int far), some (.tup [.int lim, .tup bar]), some st, o6, some t, some u, o9], [some (.ro (ns.map .int))], n⟩ = .nx ⟨[some (.ro (ns.map .int)), some (.int i), some (.lst l [.int c, .int x]), some (.int far), some (.tup [.int lim, .tup bar]), some st, o6, some t, some u, o9], [some (.ro (ns.map .int))], n'⟩ := by
  unfold chkM
  walk_at "mr"
  obtain ⟨n1, hn1, e1⟩ := right_eq lim bar t u n m L b h0 h1 hbar hb hL0 hL ot ou dt du bt bu
  rw [e1]
  walk_at "mr"
  obtain ⟨n2, hn2, e2⟩ := right_eq lim bar u t n1 m L b h0 h1 hbar hb hL0 hL ou ot du dt bu bt
  rw [e2]
  walk_at "mr"
  exact ⟨n2, by omega, rfl⟩
noncomputable def trnB : MS := (seqS (sAsg (.tp [.nm 7, .nm 8]) (mCB [(mVar 4), (mVar 5)] tupD)) (seqS (sFor (mRng1 [(mBin (mC (.int 1)) (mCall f_l_take [(mVar 2), (mC (.int 3))]) addD)]) (.nm 9) spB) chkM))
theorem trnB_eq (ns : List Int) (i far lim j c x : Int) (l n : Nat) (bar : List D) (st : D) (o7 o8 o9 : Option D) (hbar : Sg bar) (lbar : bar.length ≤ 20) (hst : Sd st) (h0 : 0 ≤ lim) (h1 : lim ≤ 60) (hbg : Bg c x) (hl : l < n) (r9 : ∀ d, Option.map (rp (pl l d)) o9 = o9) :
    ∃ c' x' t u a n', Bg c' x' ∧ (∀ d, rp (pl l d) t = t) ∧ (∀ d, rp (pl l d) u = u) ∧ Up n' t ∧ Up n' u ∧ n ≤ n' ∧ trnB ⟨[some (.ro (ns.map .int)), some (.int i), some (.lst l [.int c, .int x]), some (.int far), some (.tup [.int lim, .tup bar]), some st, some (.int j), o7, o8, o9], [some (.ro (ns.map .int))], n⟩ = .nx ⟨[some (.ro (ns.map .int)), some (.int i), some (.lst l [.int c', .int x']), some (.int far), some (.tup [.int lim, .tup bar]), some st, some (.int j), some t, some u, some (.int a)], [some (.ro (ns.map .int))], n'⟩ := by
  have sr : ∀ k d, rp (pl k d) (.ro (ns.map .int)) = .ro (ns.map .int) := fun k d => rp_fresh (by
    simp only [labs]; intro h; obtain ⟨e, he, hk⟩ := labsL_mem h; obtain ⟨j, _, rfl⟩ := List.mem_map.mp he; simp [labs] at hk)
  have rb := sg_rp hbar
  have rst : ∀ k d, rp (pl k d) st = st := fun k d => rp_fresh (by rw [nl_labs st (sd_nl hst)]; exact List.not_mem_nil)
  unfold trnB
  walk_at "mr"
  obtain ⟨q, c1, x1, hq0, hq1, b1, e1⟩ := take_eq l c x 3 n hbg (by decide) (by decide)
  rw [e1, callK_bag rfl rfl rfl (by walk_at "mr"; simp only [sr, rb, rst, r9]) (by walk_at "mr"; simp only [sr])]
  walk_at "mr"
  simp only [sr, rb, rst, r9]
  rw [y_rng1 ⟨by omega, by omega⟩]
  walk_at "mr"
  obtain ⟨s', e2, c2, x2, t, u, o, n2, T, rfl, b2, wt, wu, hn2, ho⟩ := for_rng (P := fun k s => ∃ (c x : Int) (t u : D) (o : Option D) (n' : Nat) (T : Nat → Option D), s = ⟨[some (.ro (ns.map .int)), some (.int i), some (.lst l [.int c, .int x]), some (.int far), some (.tup [.int lim, .tup bar]), some st, some (.int j), some t, some u, o], [some (.ro (ns.map .int))], n'⟩ ∧ Bg c x ∧ Wl T l (l + 1) n' (10 ^ 59 + 100 * (k : Int)) (400 + k) (2 + 2 * k) (Sj k) t ∧ Wl T l (l + 1) n' (10 ^ 59 + 100 * (k : Int)) (400 + k) (2 + 2 * k) (Sj k) u ∧ n ≤ n' ∧ (0 < k → ∃ a, o = some (.int a))) (lo := 0) (N := (1 + q).toNat) (g := .nm 9) (b := spB) (by
    rintro k hk s ⟨c, x, t, u, o, n', T, rfl, hb, wt, wu, hn, _⟩
    refine ⟨_, rfl, ?_⟩
    obtain ⟨c', x', t', u', n'', T', b', wt', wu', hn', e'⟩ := spB_eq ns i far lim j (0 + (k : Int)) c x l n' (l + 1) (400 + k) (2 + 2 * k) (Sj k) (10 ^ 59 + 100 * (k : Int)) bar st t u T hbar hst wt wu hb (by omega) (by omega) (by omega) (by omega) (by omega) (by omega)
    have cast : (10 ^ 59 + 100 * (k : Int) + 100) = 10 ^ 59 + 100 * ((k + 1 : Nat) : Int) := by omega
    rw [cast] at wt' wu'
    exact ⟨_, e', c', x', t', u', _, n'', T', rfl, b', wt', wu', by omega, fun _ => ⟨_, rfl⟩⟩) (1 + q).toNat 0 ⟨[some (.ro (ns.map .int)), some (.int i), some (.lst l [.int c1, .int x1]), some (.int far), some (.tup [.int lim, .tup bar]), some st, some (.int j), some (.tup [.int lim, .tup bar]), some st, o9], [some (.ro (ns.map .int))], n⟩ (by omega) ⟨c1, x1, _, _, o9, n, fun _ => none, rfl, b1, wl_field (by omega) (by omega) h0 h1 hbar (by omega), wl_sd (by omega) (by omega) hst, Nat.le_refl _, fun h => absurd h (by omega)⟩
  rw [e2]
  walk_at "mr"
  have hN : (1 + q).toNat = 1 ∨ (1 + q).toNat = 2 ∨ (1 + q).toNat = 3 := by omega
  obtain ⟨a, rfl⟩ := ho (by omega)
  have fresh : ∀ {L : Nat} {b : Int} {t : D}, L ≤ 2000 → Ob (l + 1) b L t = true → l ∉ labs t := fun hL h => Rs_fresh (Ob_rs hL _ h) (Nat.lt_succ_self l)
  have big : Sj (1 + q).toNat ≤ 90000 := by rcases hN with h | h | h <;> rw [h] <;> decide
  have hL2 : 400 + (1 + q).toNat ≤ 2000 := by omega
  obtain ⟨n3, hn3, e3⟩ := chk_eq ns i far lim c2 x2 l n2 (l + 1) (400 + (1 + q).toNat) (10 ^ 59 + 100 * (((1 + q).toNat : Nat) : Int)) bar st t u (some (.int j)) (some (.int a)) hbar lbar hst h0 h1 (by omega) (by omega) hL2 wt.ob wu.ob (by have := wt.dp; omega) (by have := wu.dp; omega) (Nat.le_trans wt.bu big) (Nat.le_trans wu.bu big)
  rw [e3]
  exact ⟨c2, x2, t, u, a, n3, b2, fun d => rp_fresh (fresh hL2 wt.ob), fun d => rp_fresh (fresh hL2 wu.ob), up_mono wt.up hn3, up_mono wu.up hn3, by omega, rfl⟩
theorem k8 {a b c d e f g h : D} {σ tm : List (Option D)} {n : Nat} : lstM [a, b, c, d, e, f, g, h] ⟨σ, tm, n⟩ = .ok (.lst n [a, b, c, d, e, f, g, h]) ⟨σ, tm, n + 1⟩ := y_lst (by rw [zl]; simp)
theorem y_mulT {bar : List D} (hb : Sg bar) (hl : bar.length ≤ 20) : ∃ bb, Sg bb ∧ bb.length ≤ 40 ∧ ∀ s, mulT (.tup bar) (.int 2) s = .ok (.tup bb) s := by
  cases bar with
  | nil => exact ⟨[], hb, by simp, fun s => by simp only [mulT]; rw [if_pos (by decide)]; rfl⟩
  | cons d ds =>
    refine ⟨(d :: ds) ++ (d :: ds), sg_app hb hb, by simp only [List.length_append]; omega, fun s => ?_⟩
    have e : mulT (.tup (d :: ds)) (.int 2) s = mulD (.tup (d :: ds)) (.int 2) s := rfl
    rw [e]
    simp only [mulD]
    rw [if_pos ⟨by simp, by decide, by decide, by rw [zl]; show _ * 2 ≤ _; omega⟩]
    show Res.ok (D.tup (List.replicate 2 (d :: ds)).flatten) s = _
    simp [List.replicate]
noncomputable def itmB : MS := sIf (mNot (mTest (mCall f_l_right [(mVar 4), (mVar 7), (mVar 7)]))) (sRet (mC (.bool false))) sNx
noncomputable def itmM : MS := sFor (mSeqI (mCB [(mC .non), (mCB [] tupD), (mCB [] lstM), (mCB [(mC (.int 0)), (mCB [] tupD)] lstM), (mCB [(mC (.int 0)), (mCB [] tupD)] tupD), (mCB [(mCB [] tupD), (mC (.int 0)), (mC (.int 0)), (mC .non)] tupD), (mCall f_l_odd [(mVar 2)]), (mCB [(mC (.int 60)), (mBin (mBin (mVar 4) (mC (.int 1)) ixD) (mC (.int 2)) mulT)] tupD)] lstM)) (.nm 7) itmB
theorem itm_eq (ns : List Int) (i far lim c x : Int) (l n : Nat) (bar : List D) (st : D) (o6 o7 o8 o9 : Option D) (hbar : Sg bar) (lbar : bar.length ≤ 20) (hst : Sd st) (h0 : 0 ≤ lim) (h1 : lim ≤ 60) (hbg : Bg c x) (hl : l < n) (r6 : ∀ d, Option.map (rp (pl l d)) o6 = o6) (r7 : ∀ d, Option.map (rp (pl l d)) o7 = o7) (r8 : ∀ d, Option.map (rp (pl l d)) o8 = o8) (r9 : ∀ d, Option.map (rp (pl l d)) o9 = o9) (u7 : UpO n o7) :
    ∃ c' x' p7 n', Bg c' x' ∧ UpO n' p7 ∧ n ≤ n' ∧ itmM ⟨[some (.ro (ns.map .int)), some (.int i), some (.lst l [.int c, .int x]), some (.int far), some (.tup [.int lim, .tup bar]), some st, o6, o7, o8, o9], [some (.ro (ns.map .int))], n⟩ = .nx ⟨[some (.ro (ns.map .int)), some (.int i), some (.lst l [.int c', .int x']), some (.int far), some (.tup [.int lim, .tup bar]), some st, o6, p7, o8, o9], [some (.ro (ns.map .int))], n'⟩ := by
  have sr : ∀ k d, rp (pl k d) (.ro (ns.map .int)) = .ro (ns.map .int) := fun k d => rp_fresh (by
    simp only [labs]; intro h; obtain ⟨e, he, hk⟩ := labsL_mem h; obtain ⟨j, _, rfl⟩ := List.mem_map.mp he; simp [labs] at hk)
  have rb := sg_rp hbar
  have rst : ∀ k d, rp (pl k d) st = st := fun k d => rp_fresh (by rw [nl_labs st (sd_nl hst)]; exact List.not_mem_nil)
  have q0 : n ≠ l := by omega
  have q1 : n + 1 ≠ l := by omega
  obtain ⟨bb, hbb, lbb, eb⟩ := y_mulT hbar lbar
  obtain ⟨o, c1, x1, wo, b1, e1⟩ := odd_eq (fun _ => none) l c x (n + 1 + 1) hbg (by omega)
  have ro : ∀ d, rp (pl l d) o = o := fun d => rp_fresh (Rs_fresh (Ob_rs (by decide) o wo.ob) (by omega))
  have e2 : (mCB [(mC .non), (mCB [] tupD), (mCB [] lstM), (mCB [(mC (.int 0)), (mCB [] tupD)] lstM), (mCB [(mC (.int 0)), (mCB [] tupD)] tupD), (mCB [(mCB [] tupD), (mC (.int 0)), (mC (.int 0)), (mC .non)] tupD), (mCall f_l_odd [(mVar 2)]), (mCB [(mC (.int 60)), (mBin (mBin (mVar 4) (mC (.int 1)) ixD) (mC (.int 2)) mulT)] tupD)] lstM) ⟨[some (.ro (ns.map .int)), some (.int i), some (.lst l [.int c, .int x]), some (.int far), some (.tup [.int lim, .tup bar]), some st, o6, o7, o8, o9], [some (.ro (ns.map .int))], n⟩ = .ok (.lst (n + 1 + 1 + 5) [D.non, D.tup [], D.lst n [], D.lst (n + 1) [D.int 0, D.tup []], D.tup [D.int 0, D.tup []], D.tup [D.tup [], D.int 0, D.int 0, D.non], o, D.tup [D.int 60, D.tup bb]]) ⟨[some (.ro (ns.map .int)), some (.int i), some (.lst l [.int c1, .int x1]), some (.int far), some (.tup [.int lim, .tup bar]), some st, o6, o7, o8, o9], [some (.ro (ns.map .int))], n + 1 + 1 + 5 + 1⟩ := by
    walk_at "mr"
    rw [e1, callK_bag rfl rfl rfl (by walk_at "mr"; simp only [sr, rb, rst, r6, r7, r8, r9]) (by walk_at "mr"; simp only [sr, rp_ne q0, rp_ne q1]; walk_at "mr")]
    walk_at "mr"
    simp only [sr, rb, rst, r6, r7, r8, r9, rp_ne q0, rp_ne q1]
    walk_at "mr"
    rw [eb]
    walk_at "mr"
    rw [k8]
  have ok : ∀ d ∈ [D.non, D.tup [], D.lst n [], D.lst (n + 1) [D.int 0, D.tup []], D.tup [D.int 0, D.tup []], D.tup [D.tup [], D.int 0, D.int 0, D.non], o, D.tup [D.int 60, D.tup bb]], (Ob 0 (10 ^ 59) 400 d = true ∧ (er d).depth ≤ 10 ∧ (er d).bulk ≤ 90000) ∧ Up (n + 1 + 1 + 5 + 1) d := by
    have w8 := @wl_field (fun _ => none) l 0 0 400 (10 ^ 59) 60 bb (by decide) (by decide) (by decide) (by decide) hbb lbb
    simp only [List.forall_mem_cons]
    refine ⟨?_, ?_, ?_, ?_, ?_, ?_, ⟨⟨Ob_mono (Nat.zero_le _) (Int.le_refl _) (by decide) o wo.ob, by have := wo.dp; omega, by have := wo.bu; omega⟩, up_mono wo.up (by omega)⟩, ⟨⟨w8.ob, by have := w8.dp; omega, by have := w8.bu; omega⟩, up_mono w8.up (by omega)⟩, (fun _ h => nomatch h)⟩ <;>
      (simp only [Up, labs, labsL, Ob, ObL, er, erL, PyData.depth, PyData.depthAll, PyData.bulk, PyData.bulkAll, List.length_nil, List.length_cons]; simp; try omega)
  unfold itmM
  rw [x_for, x_seqI e2, lf_ok]
  obtain ⟨s', eL, p7, n9, rfl, hn9, v7⟩ := for_lst (P := fun s => ∃ (p7 : Option D) (n9 : Nat), s = ⟨[some (.ro (ns.map .int)), some (.int i), some (.lst l [.int c1, .int x1]), some (.int far), some (.tup [.int lim, .tup bar]), some st, o6, p7, o8, o9], [some (.lst (n + 1 + 1 + 5) [D.non, D.tup [], D.lst n [], D.lst (n + 1) [D.int 0, D.tup []], D.tup [D.int 0, D.tup []], D.tup [D.tup [], D.int 0, D.int 0, D.non], o, D.tup [D.int 60, D.tup bb]]), some (.ro (ns.map .int))], n9⟩ ∧ n + 1 + 1 + 5 + 1 ≤ n9 ∧ UpO n9 p7) (l := n + 1 + 1 + 5) (ds := [D.non, D.tup [], D.lst n [], D.lst (n + 1) [D.int 0, D.tup []], D.tup [D.int 0, D.tup []], D.tup [D.tup [], D.int 0, D.int 0, D.non], o, D.tup [D.int 60, D.tup bb]]) (g := .nm 7) (b := itmB) (tm := [some (.ro (ns.map .int))]) (by rintro s ⟨_, _, rfl, _⟩; rfl) (by
    rintro d hd s ⟨p7, n9, rfl, hn9, v7⟩
    refine ⟨_, rfl, ?_⟩
    obtain ⟨⟨d1, d2, d3⟩, d4⟩ := ok d hd
    obtain ⟨k', hk', e⟩ := right_eq lim bar d d n9 0 400 (10 ^ 59) h0 h1 hbar (by decide) (by decide) (by decide) d1 d1 d2 d2 d3 d3
    refine ⟨⟨[some (.ro (ns.map .int)), some (.int i), some (.lst l [.int c1, .int x1]), some (.int far), some (.tup [.int lim, .tup bar]), some st, o6, some d, o8, o9], [some (.lst (n + 1 + 1 + 5) [D.non, D.tup [], D.lst n [], D.lst (n + 1) [D.int 0, D.tup []], D.tup [D.int 0, D.tup []], D.tup [D.tup [], D.int 0, D.int 0, D.non], o, D.tup [D.int 60, D.tup bb]]), some (.ro (ns.map .int))], k'⟩, ?_, some d, k', rfl, by omega, ?_⟩
    · unfold itmB
      walk_at "mr"
      rw [e]
      walk_at "mr"
    · rintro _ ⟨⟩; exact up_mono d4 (by omega)) 8 0 ⟨[some (.ro (ns.map .int)), some (.int i), some (.lst l [.int c1, .int x1]), some (.int far), some (.tup [.int lim, .tup bar]), some st, o6, o7, o8, o9], [some (.lst (n + 1 + 1 + 5) [D.non, D.tup [], D.lst n [], D.lst (n + 1) [D.int 0, D.tup []], D.tup [D.int 0, D.tup []], D.tup [D.tup [], D.int 0, D.int 0, D.non], o, D.tup [D.int 60, D.tup bb]]), some (.ro (ns.map .int))], n + 1 + 1 + 5 + 1⟩ rfl ⟨o7, n + 1 + 1 + 5 + 1, rfl, Nat.le_refl _, fun d e j hj => by have := u7 d e j hj; omega⟩
  exact ⟨c1, x1, p7, n9, b1, v7, by omega, eL⟩
noncomputable def rg0 : MS := sIf (mOr (mNot (mTest (mCall f_l_right [(mVar 4), (mVar 4), (mVar 5)]))) (mNot (mTest (mCall f_l_right [(mCall f_l_field [(mVar 2), (mVar 3)]), (mVar 5), (mVar 5)])))) (sRet (mC (.bool false))) sNx
theorem rg0_eq (ns : List Int) (i far lim c x : Int) (l n : Nat) (bar : List D) (st : D) (o6 o7 o8 o9 : Option D) (hbar : Sg bar) (lbar : bar.length ≤ 20) (hst : Sd st) (h0 : 0 ≤ lim) (h1 : lim ≤ 60) (hbg : Bg c x) (hl : l < n) (hf : 0 ≤ far) (r6 : ∀ d, Option.map (rp (pl l d)) o6 = o6) (r7 : ∀ d, Option.map (rp (pl l d)) o7 = o7) (r8 : ∀ d, Option.map (rp (pl l d)) o8 = o8) (r9 : ∀ d, Option.map (rp (pl l d)) o9 = o9) :
    ∃ c' x' n', Bg c' x' ∧ n ≤ n' ∧ rg0 ⟨[some (.ro (ns.map .int)), some (.int i), some (.lst l [.int c, .int x]), some (.int far), some (.tup [.int lim, .tup bar]), some st, o6, o7, o8, o9], [some (.ro (ns.map .int))], n⟩ = .nx ⟨[some (.ro (ns.map .int)), some (.int i), some (.lst l [.int c', .int x']), some (.int far), some (.tup [.int lim, .tup bar]), some st, o6, o7, o8, o9], [some (.ro (ns.map .int))], n'⟩ := by
  have sr : ∀ k d, rp (pl k d) (.ro (ns.map .int)) = .ro (ns.map .int) := fun k d => rp_fresh (by
    simp only [labs]; intro h; obtain ⟨e, he, hk⟩ := labsL_mem h; obtain ⟨j, _, rfl⟩ := List.mem_map.mp he; simp [labs] at hk)
  have rb := sg_rp hbar
  have rst : ∀ k d, rp (pl k d) st = st := fun k d => rp_fresh (by rw [nl_labs st (sd_nl hst)]; exact List.not_mem_nil)
  have ws := @wl_sd (fun _ => none) l 0 0 400 (10 ^ 59) st (by decide) (by decide) hst
  have wf := @wl_field (fun _ => none) l 0 0 400 (10 ^ 59) lim bar (by decide) (by decide) h0 h1 hbar (by omega)
  unfold rg0
  walk_at "mr"
  obtain ⟨n1, hn1, e1⟩ := right_eq lim bar (.tup [.int lim, .tup bar]) st n 0 400 (10 ^ 59) h0 h1 hbar (by decide) (by decide) (by decide) wf.ob ws.ob (by have := wf.dp; omega) (by have := ws.dp; omega) (by have := wf.bu; omega) (by have := ws.bu; omega)
  rw [e1]
  walk_at "mr"
  obtain ⟨lim2, bar2, c2, x2, n2, ⟨g0, g1⟩, hb2, lb2, b2, hn2, e2⟩ := field_eq l c x far n1 hbg (by omega) hf
  rw [e2, callK_bag rfl rfl rfl (by walk_at "mr"; simp only [sr, rb, rst, r6, r7, r8, r9]) (by walk_at "mr"; simp only [sr])]
  walk_at "mr"
  simp only [sr, rb, rst, r6, r7, r8, r9]
  try (walk_at "mr")
  obtain ⟨n3, hn3, e3⟩ := right_eq lim2 bar2 st st n2 0 400 (10 ^ 59) g0 g1 hb2 (by decide) (by decide) (by decide) ws.ob ws.ob (by have := ws.dp; omega) (by have := ws.dp; omega) (by have := ws.bu; omega) (by have := ws.bu; omega)
  rw [e3]
  walk_at "mr"
  exact ⟨c2, x2, n3, b2, by omega, rfl⟩
noncomputable def turnM : MS := (seqS (sAsg (.nm 2) (mCall f_l_bag [(mVar 0), (mVar 1)]))
    (seqS (sAsg (.nm 3) (mCall f_l_take [(mVar 2), (mC (.int 1040))]))
    (seqS (sAsg (.nm 4) (mCall f_l_field [(mVar 2), (mVar 3)]))
    (seqS (sAsg (.nm 5) (mCall f_l_over [(mVar 2), (mVar 4), (mVar 3)]))
    (seqS rg0
    (seqS (sFor (mRng1 [(mC (.int 8))]) (.nm 6) trnB)
    itmM))))))
theorem turn_eq (ns : List Int) (hl : ns.length < 1000) (i : Nat) (hi : i < 10) (n : Nat) (o2 o3 o4 o5 o6 o7 o8 o9 : Option D) (u2 : UpO n o2) (u3 : UpO n o3) (u4 : UpO n o4) (u5 : UpO n o5) (u6 : UpO n o6) (u7 : UpO n o7) (u8 : UpO n o8) (u9 : UpO n o9) :
    ∃ n' p2 p3 p4 p5 p6 p7 p8 p9, turnM ⟨[some (.ro (ns.map .int)), some (.int i), o2, o3, o4, o5, o6, o7, o8, o9], [some (.ro (ns.map .int))], n⟩ = .nx ⟨[some (.ro (ns.map .int)), some (.int i), p2, p3, p4, p5, p6, p7, p8, p9], [some (.ro (ns.map .int))], n'⟩ ∧ UpO n' p2 ∧ UpO n' p3 ∧ UpO n' p4 ∧ UpO n' p5 ∧ UpO n' p6 ∧ UpO n' p7 ∧ UpO n' p8 ∧ UpO n' p9 := by
  have s3 := u3.fix
  have s4 := u4.fix
  have s5 := u5.fix
  have s6 := u6.fix
  have s7 := u7.fix
  have s8 := u8.fix
  have s9 := u9.fix
  have sr : ∀ k d, rp (pl k d) (.ro (ns.map .int)) = .ro (ns.map .int) := fun k d => rp_fresh (by
    simp only [labs]; intro h; obtain ⟨e, he, hk⟩ := labsL_mem h; obtain ⟨j, _, rfl⟩ := List.mem_map.mp he; simp [labs] at hk)
  have up1 : ∀ {k m : Nat} {o : Option D}, UpO k o → k ≤ m → UpO m o := fun h hk d e => up_mono (h d e) hk
  unfold turnM
  walk_at "mr"
  obtain ⟨c, x, b0, e0⟩ := bag_eq ns i n (by omega) hl
  rw [e0]
  walk_at "mr"
  obtain ⟨far, c1, x1, hf0, hf1, b1, e1⟩ := take_eq n c x 1040 (n + 1) b0 (by decide) (by decide)
  rw [e1, callK_bag rfl rfl rfl (by walk_at "mr"; simp only [sr, s3, s4, s5, s6, s7, s8, s9]) (by walk_at "mr"; simp only [sr])]
  walk_at "mr"
  simp only [sr, s3, s4, s5, s6, s7, s8, s9]
  obtain ⟨lim, bar, c2, x2, n2, ⟨g0, g1⟩, hb2, lb2, b2, hn2, e2⟩ := field_eq n c1 x1 far (n + 1) b1 (by omega) hf0
  have rb := sg_rp hb2
  rw [e2, callK_bag rfl rfl rfl (by walk_at "mr"; simp only [sr, s4, s5, s6, s7, s8, s9]) (by walk_at "mr"; simp only [sr])]
  walk_at "mr"
  simp only [sr, s4, s5, s6, s7, s8, s9]
  obtain ⟨st, c3, x3, n3, hst, b3, hn3, e3⟩ := over_eq n c2 x2 lim far bar n2 b2 (by omega) hf0 g0 g1 hb2 lb2
  have rst : ∀ k d, rp (pl k d) st = st := fun k d => rp_fresh (by rw [nl_labs st (sd_nl hst)]; exact List.not_mem_nil)
  rw [e3, callK_bag rfl rfl (by simp only [labsL, labs, sg_labs hb2, List.append_nil]) (by walk_at "mr"; simp only [sr, rb, s5, s6, s7, s8, s9]) (by walk_at "mr"; simp only [sr])]
  walk_at "mr"
  simp only [sr, rb, s5, s6, s7, s8, s9]
  try (walk_at "mr")
  obtain ⟨c4, x4, n4, b4, hn4, e4⟩ := rg0_eq ns i far lim c3 x3 n n3 bar st o6 o7 o8 o9 hb2 lb2 hst g0 g1 b3 (by omega) hf0 s6 s7 s8 s9
  rw [e4]
  walk_at "mr"
  rw [y_rng1 ⟨by decide, by decide⟩]
  walk_at "mr"
  obtain ⟨s', e5, c5, x5, q6, q7, q8, q9, n5, rfl, b5, hn5, ⟨r6, r7, r8, r9⟩, v6, v7, v8, v9⟩ := for_rng (P := fun k s => ∃ (c x : Int) (q6 q7 q8 q9 : Option D) (n5 : Nat), s = ⟨[some (.ro (ns.map .int)), some (.int i), some (.lst n [.int c, .int x]), some (.int far), some (.tup [.int lim, .tup bar]), some st, q6, q7, q8, q9], [some (.ro (ns.map .int))], n5⟩ ∧ Bg c x ∧ n4 ≤ n5 ∧ ((∀ d, Option.map (rp (pl n d)) q6 = q6) ∧ (∀ d, Option.map (rp (pl n d)) q7 = q7) ∧ (∀ d, Option.map (rp (pl n d)) q8 = q8) ∧ (∀ d, Option.map (rp (pl n d)) q9 = q9)) ∧ UpO n5 q6 ∧ UpO n5 q7 ∧ UpO n5 q8 ∧ UpO n5 q9) (lo := 0) (N := (8 : Int).toNat) (g := .nm 6) (b := trnB) (by
    rintro k hk s ⟨c, x, q6, q7, q8, q9, n5, rfl, hb, hn5, ⟨r6, r7, r8, r9⟩, v6, v7, v8, v9⟩
    refine ⟨_, rfl, ?_⟩
    obtain ⟨c', x', t, u, a, n', b', rt', ru', ut, uu, hn', e'⟩ := trnB_eq ns i far lim (0 + (k : Int)) c x n n5 bar st q7 q8 q9 hb2 lb2 hst g0 g1 hb (by omega) r9
    refine ⟨_, e', c', x', _, _, _, _, n', rfl, b', by omega, ⟨fun _ => rfl, fun d => by rw [Option.map_some, rt'], fun d => by rw [Option.map_some, ru'], fun _ => rfl⟩, ?_, ?_, ?_, ?_⟩
    · rintro _ ⟨⟩ j hj; simp [labs] at hj
    · rintro _ ⟨⟩; exact ut
    · rintro _ ⟨⟩; exact uu
    · rintro _ ⟨⟩ j hj; simp [labs] at hj) (8 : Int).toNat 0 ⟨[some (.ro (ns.map .int)), some (.int i), some (.lst n [.int c4, .int x4]), some (.int far), some (.tup [.int lim, .tup bar]), some st, o6, o7, o8, o9], [some (.ro (ns.map .int))], n4⟩ (by decide) ⟨c4, x4, o6, o7, o8, o9, n4, rfl, b4, Nat.le_refl _, ⟨s6, s7, s8, s9⟩, up1 u6 (by omega), up1 u7 (by omega), up1 u8 (by omega), up1 u9 (by omega)⟩
  rw [e5]
  walk_at "mr"
  obtain ⟨c6, x6, p7, n6, b6, w7, hn6, e6⟩ := itm_eq ns i far lim c5 x5 n n5 bar st q6 q7 q8 q9 hb2 lb2 hst g0 g1 b5 (by omega) r6 r7 r8 r9 v7
  rw [e6]
  refine ⟨n6, _, _, _, _, _, p7, _, _, rfl, ?_, ?_, ?_, ?_, up1 v6 hn6, w7, up1 v8 hn6, up1 v9 hn6⟩
  · rintro _ ⟨⟩ k hk; simp [labs, labsL] at hk; omega
  · rintro _ ⟨⟩ k hk; simp [labs] at hk
  · rintro _ ⟨⟩ k hk; simp only [labs, labsL, sg_labs hb2, List.append_nil] at hk; cases hk
  · rintro _ ⟨⟩ k hk; rw [nl_labs st (sd_nl hst)] at hk; cases hk
theorem law_eq (ns : List Int) (hl : ns.length < 1000) (n : Nat) : ∃ n', f_law [.ro (ns.map .int)] n = .ok (.bool true) [.ro (ns.map .int)] n' := by
  unfold f_law
  have e0 : m_law = seqS (sFor (mRng1 [(mCB [(mC (.int 2)), (mCB [(mCB [(mVar 0)] lenD), (mC (.int 6))] minD)] maxD)]) (.nm 1) turnM) (sRet (mC (.bool true))) := rfl
  rw [e0]
  walk_at "mr"
  have w0 : ((ns.map D.int).length : Int) = ns.length := by simp
  rw [w0]
  generalize hk : (if (if (6 : Int) < (ns.length : Int) then (6 : Int) else (ns.length : Int)) > 2 then (if (6 : Int) < (ns.length : Int) then (6 : Int) else (ns.length : Int)) else (2 : Int)) = k
  have hk0 : 0 ≤ k ∧ k ≤ 6 := by split at hk <;> (try split at hk) <;> omega
  rw [y_rng1 ⟨by omega, by omega⟩]
  walk_at "mr"
  obtain ⟨s', e2, o1, o2, o3, o4, o5, o6, o7, o8, o9, m, rfl, u2, u3, u4, u5, u6, u7, u8, u9⟩ := for_rng (P := fun i s => ∃ (o1 o2 o3 o4 o5 o6 o7 o8 o9 : Option D) (n : Nat), s = ⟨[some (.ro (ns.map .int)), o1, o2, o3, o4, o5, o6, o7, o8, o9], [some (.ro (ns.map .int))], n⟩ ∧ UpO n o2 ∧ UpO n o3 ∧ UpO n o4 ∧ UpO n o5 ∧ UpO n o6 ∧ UpO n o7 ∧ UpO n o8 ∧ UpO n o9) (lo := 0) (N := k.toNat) (g := .nm 1) (b := turnM) (by
    rintro i hi s ⟨o1, o2, o3, o4, o5, o6, o7, o8, o9, n, rfl, u2, u3, u4, u5, u6, u7, u8, u9⟩
    refine ⟨[some (.ro (ns.map .int)), some (.int i), o2, o3, o4, o5, o6, o7, o8, o9], by simp only [Int.zero_add]; rfl, ?_⟩
    obtain ⟨n', p2, p3, p4, p5, p6, p7, p8, p9, e, v2, v3, v4, v5, v6, v7, v8, v9⟩ := turn_eq ns hl i (by omega) n o2 o3 o4 o5 o6 o7 o8 o9 u2 u3 u4 u5 u6 u7 u8 u9
    exact ⟨_, e, _, p2, p3, p4, p5, p6, p7, p8, p9, n', rfl, v2, v3, v4, v5, v6, v7, v8, v9⟩) k.toNat 0 ⟨[some (.ro (ns.map .int)), none, none, none, none, none, none, none, none, none], [some (.ro (ns.map .int))], n⟩ (by omega) ⟨none, none, none, none, none, none, none, none, none, n, rfl, nofun, nofun, nofun, nofun, nofun, nofun, nofun, nofun⟩
  rw [e2]
  walk_at "mr"
  exact ⟨m, rfl⟩
end My
set_option maxHeartbeats 4000000
namespace Mi
open PySem L2 PySem.Spec PyProof.Rows
noncomputable def spTop (K : PySem.W.Frag) (np : Nat) (f : FM) : Sp := fun vs H Q E => vs.length = np ∧ (KD K H → spM (G0 K) np f vs H Q E)
theorem fn_top {P : Program} {w : World} {K : PySem.W.Frag} {mg : Str → Option Value} {base : Heap} {CX : CXT} {k : Nat} {fa : Addr} {fd : FuncData} {x : Str} {f : FM} (F : FnOk P w K mg base CX k fa fd [x] (spM (G0 K) 1 f)) : FnOk P w K mg base CX k fa fd [x] (spTop K 1 f) :=
  ⟨fun _ _ _ _ h => h.1, fun A outer s H args us vs Q E hr e0 hb hv h => F.run A outer s H args us vs Q E hr e0 hb hv (h.2 fun a o e => (e0.bs a o (e0.mod.kin a o e)).2)⟩
theorem RDs.ints {G : Gx} {ρ : Nat → Addr} {H : Hp} : ∀ ns : List Int, RDs G ρ H (ns.map D.int) (ns.map V.int)
  | [] => by simp only [List.map_nil, RDs]
  | n :: ns => by
    simp only [List.map_cons, RDs]
    exact ⟨_, _, rfl, by simp only [RD], RDs.ints ns⟩
theorem labs_ints : ∀ ns : List Int, labsL (ns.map D.int) = []
  | [] => by simp only [List.map_nil, labsL]
  | n :: ns => by simp only [List.map_cons, labsL, labs, labs_ints ns, List.nil_append]
theorem top_sp {K : PySem.W.Frag} {H : Hp} {a : Addr} {ns : List Int} {f : FM} {E : XK} (e : ∀ n, ∃ n', f [.ro (ns.map D.int)] n = .ok (.bool true) [.ro (ns.map D.int)] n') (hO : Only H) (hS : SqL K H a (ns.map V.int)) : spTop K 1 f [.ref a] H (fun v _ => v = .bl true) E := by
  refine ⟨rfl, fun kd => ⟨rfl, fun _ => a, 0, [.ro (ns.map D.int)], ?_, fun i j hi => absurd hi (Nat.not_lt_zero _), fun l hl => absurd hl (Nat.not_lt_zero _), fun l hl => ?_, kd, ?_⟩⟩
  · simp only [RDs, RD]
    refine ⟨_, _, rfl, ⟨a, ns.map V.int, rfl, ?_, RDs.ints ns⟩, rfl⟩
    rcases hS with (h | h) | h
    · rcases hO a with z | ⟨o, xs, z⟩ <;> rw [h] at z <;> cases z
    · exact .inl h
    · exact .inr h
  · simp only [labsL, labs, labs_ints, List.append_nil] at hl
    cases hl
  · obtain ⟨n', e⟩ := e 0
    rw [e]
    intro ρ' v H' _ rd _
    simp only [RD] at rd
    exact rd
end Mi
namespace My
open PySem L2 Mi
theorem all_mk {l : PySem.W.OpenLaw} {w : World} {K : PySem.W.Frag} {h : Heap} {mg : Str → Option Value} {fa f0 f1 f2 f3 f4 f5 f6 f7 f8 f9 f10 f11 f12 f13 f14 f15 f16 f17 f18 f19 f20 f21 f22 f23 f24 f25 : Addr} (X : K.In h) (G : h.Ns mainGlobals mg) (hfa : mg "law" = some (.ref fa))
    {od0 an0 : Option Addr} {sl0 : Array (Option Value)} {oc0 kV0 dc0 pm0 cd0 ct0 : Value}
    {od1 an1 : Option Addr} {sl1 : Array (Option Value)} {oc1 kV1 dc1 pm1 cd1 ct1 : Value}
    {od2 an2 : Option Addr} {sl2 : Array (Option Value)} {oc2 kV2 dc2 pm2 cd2 ct2 : Value}
    {od3 an3 : Option Addr} {sl3 : Array (Option Value)} {oc3 kV3 dc3 pm3 cd3 ct3 : Value}
    {od4 an4 : Option Addr} {sl4 : Array (Option Value)} {oc4 kV4 dc4 pm4 cd4 ct4 : Value}
    {od5 an5 : Option Addr} {sl5 : Array (Option Value)} {oc5 kV5 dc5 pm5 cd5 ct5 : Value}
    {od6 an6 : Option Addr} {sl6 : Array (Option Value)} {oc6 kV6 dc6 pm6 cd6 ct6 : Value}
    {od7 an7 : Option Addr} {sl7 : Array (Option Value)} {oc7 kV7 dc7 pm7 cd7 ct7 : Value}
    {od8 an8 : Option Addr} {sl8 : Array (Option Value)} {oc8 kV8 dc8 pm8 cd8 ct8 : Value}
    {od9 an9 : Option Addr} {sl9 : Array (Option Value)} {oc9 kV9 dc9 pm9 cd9 ct9 : Value}
    {od10 an10 : Option Addr} {sl10 : Array (Option Value)} {oc10 kV10 dc10 pm10 cd10 ct10 : Value}
    {od11 an11 : Option Addr} {sl11 : Array (Option Value)} {oc11 kV11 dc11 pm11 cd11 ct11 : Value}
    {od12 an12 : Option Addr} {sl12 : Array (Option Value)} {oc12 kV12 dc12 pm12 cd12 ct12 : Value}
    {od13 an13 : Option Addr} {sl13 : Array (Option Value)} {oc13 kV13 dc13 pm13 cd13 ct13 : Value}
    {od14 an14 : Option Addr} {sl14 : Array (Option Value)} {oc14 kV14 dc14 pm14 cd14 ct14 : Value}
    {od15 an15 : Option Addr} {sl15 : Array (Option Value)} {oc15 kV15 dc15 pm15 cd15 ct15 : Value}
    {od16 an16 : Option Addr} {sl16 : Array (Option Value)} {oc16 kV16 dc16 pm16 cd16 ct16 : Value}
    {od17 an17 : Option Addr} {sl17 : Array (Option Value)} {oc17 kV17 dc17 pm17 cd17 ct17 : Value}
    {od18 an18 : Option Addr} {sl18 : Array (Option Value)} {oc18 kV18 dc18 pm18 cd18 ct18 : Value}
    {od19 an19 : Option Addr} {sl19 : Array (Option Value)} {oc19 kV19 dc19 pm19 cd19 ct19 : Value}
    {od20 an20 : Option Addr} {sl20 : Array (Option Value)} {oc20 kV20 dc20 pm20 cd20 ct20 : Value}
    {od21 an21 : Option Addr} {sl21 : Array (Option Value)} {oc21 kV21 dc21 pm21 cd21 ct21 : Value}
    {od22 an22 : Option Addr} {sl22 : Array (Option Value)} {oc22 kV22 dc22 pm22 cd22 ct22 : Value}
    {od23 an23 : Option Addr} {sl23 : Array (Option Value)} {oc23 kV23 dc23 pm23 cd23 ct23 : Value}
    {od24 an24 : Option Addr} {sl24 : Array (Option Value)} {oc24 kV24 dc24 pm24 cd24 ct24 : Value}
    {od25 an25 : Option Addr} {sl25 : Array (Option Value)} {oc25 kV25 dc25 pm25 cd25 ct25 : Value}
    (a0 : PySem.W.nsIn K mainGlobals "is_number" = some (some (.ref f0))) (l0 : K.lookup f0 = some ⟨oc0, od0, .func (PySem.W.fnOf "is_number" "is_number" (defArgs s_p_is_number) (defBody s_p_is_number) (defScope s_p_is_number) .none kV0 dc0 pm0 an0 cd0 ct0), sl0⟩) (c0 : PySem.W.codeIn K cd0 "is_number" = true) (k0 : PySem.W.keepIn K (.ref f0) = true)
    (a1 : PySem.W.nsIn K mainGlobals "is_whole" = some (some (.ref f1))) (l1 : K.lookup f1 = some ⟨oc1, od1, .func (PySem.W.fnOf "is_whole" "is_whole" (defArgs s_p_is_whole) (defBody s_p_is_whole) (defScope s_p_is_whole) .none kV1 dc1 pm1 an1 cd1 ct1), sl1⟩) (c1 : PySem.W.codeIn K cd1 "is_whole" = true) (k1 : PySem.W.keepIn K (.ref f1) = true)
    (a2 : PySem.W.nsIn K mainGlobals "is_row" = some (some (.ref f2))) (l2 : K.lookup f2 = some ⟨oc2, od2, .func (PySem.W.fnOf "is_row" "is_row" (defArgs s_p_is_row) (defBody s_p_is_row) (defScope s_p_is_row) .none kV2 dc2 pm2 an2 cd2 ct2), sl2⟩) (c2 : PySem.W.codeIn K cd2 "is_row" = true) (k2 : PySem.W.keepIn K (.ref f2) = true)
    (a3 : PySem.W.nsIn K mainGlobals "is_field" = some (some (.ref f3))) (l3 : K.lookup f3 = some ⟨oc3, od3, .func (PySem.W.fnOf "is_field" "is_field" (defArgs s_p_is_field) (defBody s_p_is_field) (defScope s_p_is_field) .none kV3 dc3 pm3 an3 cd3 ct3), sl3⟩) (c3 : PySem.W.codeIn K cd3 "is_field" = true) (k3 : PySem.W.keepIn K (.ref f3) = true)
    (a4 : PySem.W.nsIn K mainGlobals "is_standing" = some (some (.ref f4))) (l4 : K.lookup f4 = some ⟨oc4, od4, .func (PySem.W.fnOf "is_standing" "is_standing" (defArgs s_p_is_standing) (defBody s_p_is_standing) (defScope s_p_is_standing) .none kV4 dc4 pm4 an4 cd4 ct4), sl4⟩) (c4 : PySem.W.codeIn K cd4 "is_standing" = true) (k4 : PySem.W.keepIn K (.ref f4) = true)
    (a5 : PySem.W.nsIn K mainGlobals "is_marked_stretch" = some (some (.ref f5))) (l5 : K.lookup f5 = some ⟨oc5, od5, .func (PySem.W.fnOf "is_marked_stretch" "is_marked_stretch" (defArgs s_p_is_marked_stretch) (defBody s_p_is_marked_stretch) (defScope s_p_is_marked_stretch) .none kV5 dc5 pm5 an5 cd5 ct5), sl5⟩) (c5 : PySem.W.codeIn K cd5 "is_marked_stretch" = true) (k5 : PySem.W.keepIn K (.ref f5) = true)
    (a6 : PySem.W.nsIn K mainGlobals "free_signs" = some (some (.ref f6))) (l6 : K.lookup f6 = some ⟨oc6, od6, .func (PySem.W.fnOf "free_signs" "free_signs" (defArgs s_p_free_signs) (defBody s_p_free_signs) (defScope s_p_free_signs) .none kV6 dc6 pm6 an6 cd6 ct6), sl6⟩) (c6 : PySem.W.codeIn K cd6 "free_signs" = true) (k6 : PySem.W.keepIn K (.ref f6) = true)
    (a7 : PySem.W.nsIn K mainGlobals "has_barred" = some (some (.ref f7))) (l7 : K.lookup f7 = some ⟨oc7, od7, .func (PySem.W.fnOf "has_barred" "has_barred" (defArgs s_p_has_barred) (defBody s_p_has_barred) (defScope s_p_has_barred) .none kV7 dc7 pm7 an7 cd7 ct7), sl7⟩) (c7 : PySem.W.codeIn K cd7 "has_barred" = true) (k7 : PySem.W.keepIn K (.ref f7) = true)
    (a8 : PySem.W.nsIn K mainGlobals "_law_bag" = some (some (.ref f8))) (l8 : K.lookup f8 = some ⟨oc8, od8, .func (PySem.W.fnOf "_law_bag" "_law_bag" (defArgs s_l_bag) (defBody s_l_bag) (defScope s_l_bag) .none kV8 dc8 pm8 an8 cd8 ct8), sl8⟩) (c8 : PySem.W.codeIn K cd8 "_law_bag" = true) (k8 : PySem.W.keepIn K (.ref f8) = true)
    (a9 : PySem.W.nsIn K mainGlobals "_law_take" = some (some (.ref f9))) (l9 : K.lookup f9 = some ⟨oc9, od9, .func (PySem.W.fnOf "_law_take" "_law_take" (defArgs s_l_take) (defBody s_l_take) (defScope s_l_take) .none kV9 dc9 pm9 an9 cd9 ct9), sl9⟩) (c9 : PySem.W.codeIn K cd9 "_law_take" = true) (k9 : PySem.W.keepIn K (.ref f9) = true)
    (a10 : PySem.W.nsIn K mainGlobals "_law_sign" = some (some (.ref f10))) (l10 : K.lookup f10 = some ⟨oc10, od10, .func (PySem.W.fnOf "_law_sign" "_law_sign" (defArgs s_l_sign) (defBody s_l_sign) (defScope s_l_sign) .none kV10 dc10 pm10 an10 cd10 ct10), sl10⟩) (c10 : PySem.W.codeIn K cd10 "_law_sign" = true) (k10 : PySem.W.keepIn K (.ref f10) = true)
    (a11 : PySem.W.nsIn K mainGlobals "_law_signs" = some (some (.ref f11))) (l11 : K.lookup f11 = some ⟨oc11, od11, .func (PySem.W.fnOf "_law_signs" "_law_signs" (defArgs s_l_signs) (defBody s_l_signs) (defScope s_l_signs) .none kV11 dc11 pm11 an11 cd11 ct11), sl11⟩) (c11 : PySem.W.codeIn K cd11 "_law_signs" = true) (k11 : PySem.W.keepIn K (.ref f11) = true)
    (a12 : PySem.W.nsIn K mainGlobals "_law_field" = some (some (.ref f12))) (l12 : K.lookup f12 = some ⟨oc12, od12, .func (PySem.W.fnOf "_law_field" "_law_field" (defArgs s_l_field) (defBody s_l_field) (defScope s_l_field) .none kV12 dc12 pm12 an12 cd12 ct12), sl12⟩) (c12 : PySem.W.codeIn K cd12 "_law_field" = true) (k12 : PySem.W.keepIn K (.ref f12) = true)
    (a13 : PySem.W.nsIn K mainGlobals "_law_free" = some (some (.ref f13))) (l13 : K.lookup f13 = some ⟨oc13, od13, .func (PySem.W.fnOf "_law_free" "_law_free" (defArgs s_l_free) (defBody s_l_free) (defScope s_l_free) .none kV13 dc13 pm13 an13 cd13 ct13), sl13⟩) (c13 : PySem.W.codeIn K cd13 "_law_free" = true) (k13 : PySem.W.keepIn K (.ref f13) = true)
    (a14 : PySem.W.nsIn K mainGlobals "_law_standing" = some (some (.ref f14))) (l14 : K.lookup f14 = some ⟨oc14, od14, .func (PySem.W.fnOf "_law_standing" "_law_standing" (defArgs s_l_standing) (defBody s_l_standing) (defScope s_l_standing) .none kV14 dc14 pm14 an14 cd14 ct14), sl14⟩) (c14 : PySem.W.codeIn K cd14 "_law_standing" = true) (k14 : PySem.W.keepIn K (.ref f14) = true)
    (a15 : PySem.W.nsIn K mainGlobals "_law_is_from" = some (some (.ref f15))) (l15 : K.lookup f15 = some ⟨oc15, od15, .func (PySem.W.fnOf "_law_is_from" "_law_is_from" (defArgs s_l_is_from) (defBody s_l_is_from) (defScope s_l_is_from) .none kV15 dc15 pm15 an15 cd15 ct15), sl15⟩) (c15 : PySem.W.codeIn K cd15 "_law_is_from" = true) (k15 : PySem.W.keepIn K (.ref f15) = true)
    (a16 : PySem.W.nsIn K mainGlobals "_law_are_signs" = some (some (.ref f16))) (l16 : K.lookup f16 = some ⟨oc16, od16, .func (PySem.W.fnOf "_law_are_signs" "_law_are_signs" (defArgs s_l_are_signs) (defBody s_l_are_signs) (defScope s_l_are_signs) .none kV16 dc16 pm16 an16 cd16 ct16), sl16⟩) (c16 : PySem.W.codeIn K cd16 "_law_are_signs" = true) (k16 : PySem.W.keepIn K (.ref f16) = true)
    (a17 : PySem.W.nsIn K mainGlobals "_law_is_stretch" = some (some (.ref f17))) (l17 : K.lookup f17 = some ⟨oc17, od17, .func (PySem.W.fnOf "_law_is_stretch" "_law_is_stretch" (defArgs s_l_is_stretch) (defBody s_l_is_stretch) (defScope s_l_is_stretch) .none kV17 dc17 pm17 an17 cd17 ct17), sl17⟩) (c17 : PySem.W.codeIn K cd17 "_law_is_stretch" = true) (k17 : PySem.W.keepIn K (.ref f17) = true)
    (a18 : PySem.W.nsIn K mainGlobals "_law_is_standing" = some (some (.ref f18))) (l18 : K.lookup f18 = some ⟨oc18, od18, .func (PySem.W.fnOf "_law_is_standing" "_law_is_standing" (defArgs s_l_is_standing) (defBody s_l_is_standing) (defScope s_l_is_standing) .none kV18 dc18 pm18 an18 cd18 ct18), sl18⟩) (c18 : PySem.W.codeIn K cd18 "_law_is_standing" = true) (k18 : PySem.W.keepIn K (.ref f18) = true)
    (a19 : PySem.W.nsIn K mainGlobals "_law_is_field" = some (some (.ref f19))) (l19 : K.lookup f19 = some ⟨oc19, od19, .func (PySem.W.fnOf "_law_is_field" "_law_is_field" (defArgs s_l_is_field) (defBody s_l_is_field) (defScope s_l_is_field) .none kV19 dc19 pm19 an19 cd19 ct19), sl19⟩) (c19 : PySem.W.codeIn K cd19 "_law_is_field" = true) (k19 : PySem.W.keepIn K (.ref f19) = true)
    (a20 : PySem.W.nsIn K mainGlobals "_law_odd" = some (some (.ref f20))) (l20 : K.lookup f20 = some ⟨oc20, od20, .func (PySem.W.fnOf "_law_odd" "_law_odd" (defArgs s_l_odd) (defBody s_l_odd) (defScope s_l_odd) .none kV20 dc20 pm20 an20 cd20 ct20), sl20⟩) (c20 : PySem.W.codeIn K cd20 "_law_odd" = true) (k20 : PySem.W.keepIn K (.ref f20) = true)
    (a21 : PySem.W.nsIn K mainGlobals "_law_spoilt" = some (some (.ref f21))) (l21 : K.lookup f21 = some ⟨oc21, od21, .func (PySem.W.fnOf "_law_spoilt" "_law_spoilt" (defArgs s_l_spoilt) (defBody s_l_spoilt) (defScope s_l_spoilt) .none kV21 dc21 pm21 an21 cd21 ct21), sl21⟩) (c21 : PySem.W.codeIn K cd21 "_law_spoilt" = true) (k21 : PySem.W.keepIn K (.ref f21) = true)
    (a22 : PySem.W.nsIn K mainGlobals "_law_over" = some (some (.ref f22))) (l22 : K.lookup f22 = some ⟨oc22, od22, .func (PySem.W.fnOf "_law_over" "_law_over" (defArgs s_l_over) (defBody s_l_over) (defScope s_l_over) .none kV22 dc22 pm22 an22 cd22 ct22), sl22⟩) (c22 : PySem.W.codeIn K cd22 "_law_over" = true) (k22 : PySem.W.keepIn K (.ref f22) = true)
    (a23 : PySem.W.nsIn K mainGlobals "_law_copy" = some (some (.ref f23))) (l23 : K.lookup f23 = some ⟨oc23, od23, .func (PySem.W.fnOf "_law_copy" "_law_copy" (defArgs s_l_copy) (defBody s_l_copy) (defScope s_l_copy) .none kV23 dc23 pm23 an23 cd23 ct23), sl23⟩) (c23 : PySem.W.codeIn K cd23 "_law_copy" = true) (k23 : PySem.W.keepIn K (.ref f23) = true)
    (a24 : PySem.W.nsIn K mainGlobals "_law_right" = some (some (.ref f24))) (l24 : K.lookup f24 = some ⟨oc24, od24, .func (PySem.W.fnOf "_law_right" "_law_right" (defArgs s_l_right) (defBody s_l_right) (defScope s_l_right) .none kV24 dc24 pm24 an24 cd24 ct24), sl24⟩) (c24 : PySem.W.codeIn K cd24 "_law_right" = true) (k24 : PySem.W.keepIn K (.ref f24) = true)
    (a25 : PySem.W.nsIn K mainGlobals "law" = some (some (.ref f25))) (l25 : K.lookup f25 = some ⟨oc25, od25, .func (PySem.W.fnOf "law" "law" (defArgs s_law) (defBody s_law) (defScope s_law) .none kV25 dc25 pm25 an25 cd25 ct25), sl25⟩) (c25 : PySem.W.codeIn K cd25 "law" = true) (k25 : PySem.W.keepIn K (.ref f25) = true)
    (z0 : PySem.W.nsIn K mainGlobals "abs" = some none)
    (z1 : PySem.W.nsIn K mainGlobals "all" = some none)
    (z2 : PySem.W.nsIn K mainGlobals "any" = some none)
    (z3 : PySem.W.nsIn K mainGlobals "bool" = some none)
    {tk4 : Nat} (z4 : PySem.W.nsIn K mainGlobals "LAST_LIMIT" = some (some (.int 60 tk4)))
    {tk5 : Nat} (z5 : PySem.W.nsIn K mainGlobals "LAST_SIGN" = some (some (.int 1039 tk5)))
    {tk6 : Nat} (z6 : PySem.W.nsIn K mainGlobals "MOST_BARRED" = some (some (.int 20 tk6)))
    {tk7 : Nat} (z7 : PySem.W.nsIn K mainGlobals "MOST_MARKED" = some (some (.int 96 tk7)))
    (z8 : PySem.W.nsIn K mainGlobals "enumerate" = some none)
    (z9 : PySem.W.nsIn K mainGlobals "int" = some none)
    (z10 : PySem.W.nsIn K mainGlobals "isinstance" = some none)
    (z11 : PySem.W.nsIn K mainGlobals "len" = some none)
    (z12 : PySem.W.nsIn K mainGlobals "list" = some none)
    (z13 : PySem.W.nsIn K mainGlobals "max" = some none)
    (z14 : PySem.W.nsIn K mainGlobals "min" = some none)
    (z15 : PySem.W.nsIn K mainGlobals "range" = some none)
    (z16 : PySem.W.nsIn K mainGlobals "str" = some none)
    (z17 : PySem.W.nsIn K mainGlobals "tuple" = some none)
    : ∃ fd : FuncData, (∀ (s : Shared) (v : Value), BindsTo s fd ⟨[v], []⟩ [("_law_script", v)]) ∧ ∀ base : Heap, K.In base → base.Ns mainGlobals mg → FnOk l.prog w K mg base CX0 16 fa fd ["_law_script"] (spTop K 1 f_law) := by
  have e := hfa.symm.trans (PySem.W.mg_of X G a25)
  cases e
  have F0 := fun_mk (st := s_p_is_number) l0 c0 k0
  have F1 := fun_mk (st := s_p_is_whole) l1 c1 k1
  have F2 := fun_mk (st := s_p_is_row) l2 c2 k2
  have F3 := fun_mk (st := s_p_is_field) l3 c3 k3
  have F4 := fun_mk (st := s_p_is_standing) l4 c4 k4
  have F5 := fun_mk (st := s_p_is_marked_stretch) l5 c5 k5
  have F6 := fun_mk (st := s_p_free_signs) l6 c6 k6
  have F7 := fun_mk (st := s_p_has_barred) l7 c7 k7
  have F8 := fun_mk (st := s_l_bag) l8 c8 k8
  have F9 := fun_mk (st := s_l_take) l9 c9 k9
  have F10 := fun_mk (st := s_l_sign) l10 c10 k10
  have F11 := fun_mk (st := s_l_signs) l11 c11 k11
  have F12 := fun_mk (st := s_l_field) l12 c12 k12
  have F13 := fun_mk (st := s_l_free) l13 c13 k13
  have F14 := fun_mk (st := s_l_standing) l14 c14 k14
  have F15 := fun_mk (st := s_l_is_from) l15 c15 k15
  have F16 := fun_mk (st := s_l_are_signs) l16 c16 k16
  have F17 := fun_mk (st := s_l_is_stretch) l17 c17 k17
  have F18 := fun_mk (st := s_l_is_standing) l18 c18 k18
  have F19 := fun_mk (st := s_l_is_field) l19 c19 k19
  have F20 := fun_mk (st := s_l_odd) l20 c20 k20
  have F21 := fun_mk (st := s_l_spoilt) l21 c21 k21
  have F22 := fun_mk (st := s_l_over) l22 c22 k22
  have F23 := fun_mk (st := s_l_copy) l23 c23 k23
  have F24 := fun_mk (st := s_l_right) l24 c24 k24
  have F25 := fun_mk (st := s_law) l25 c25 k25
  have b0 := F0.binds (ps := ["thing"]) fun _ _ _ _ _ _ us hl => match us, hl with | [_], _ => rfl
  have b1 := F1.binds (ps := ["thing", "low", "high"]) fun _ _ _ _ _ _ us hl => match us, hl with | [_, _, _], _ => rfl
  have b2 := F2.binds (ps := ["thing", "fewest", "most", "high"]) fun _ _ _ _ _ _ us hl => match us, hl with | [_, _, _, _], _ => rfl
  have b3 := F3.binds (ps := ["thing"]) fun _ _ _ _ _ _ us hl => match us, hl with | [_], _ => rfl
  have b4 := F4.binds (ps := ["field", "thing"]) fun _ _ _ _ _ _ us hl => match us, hl with | [_, _], _ => rfl
  have b5 := F5.binds (ps := ["thing", "many"]) fun _ _ _ _ _ _ us hl => match us, hl with | [_, _], _ => rfl
  have b6 := F6.binds (ps := ["signs", "marked"]) fun _ _ _ _ _ _ us hl => match us, hl with | [_, _], _ => rfl
  have b7 := F7.binds (ps := ["barred", "signs"]) fun _ _ _ _ _ _ us hl => match us, hl with | [_, _], _ => rfl
  have b8 := F8.binds (ps := ["_law_script", "_law_at"]) fun _ _ _ _ _ _ us hl => match us, hl with | [_, _], _ => rfl
  have b9 := F9.binds (ps := ["_law_bag_here", "_law_many"]) fun _ _ _ _ _ _ us hl => match us, hl with | [_, _], _ => rfl
  have b10 := F10.binds (ps := ["_law_bag_here", "_law_far"]) fun _ _ _ _ _ _ us hl => match us, hl with | [_, _], _ => rfl
  have b11 := F11.binds (ps := ["_law_bag_here", "_law_far", "_law_many"]) fun _ _ _ _ _ _ us hl => match us, hl with | [_, _, _], _ => rfl
  have b12 := F12.binds (ps := ["_law_bag_here", "_law_far"]) fun _ _ _ _ _ _ us hl => match us, hl with | [_, _], _ => rfl
  have b13 := F13.binds (ps := ["_law_field_here", "_law_sign_here"]) fun _ _ _ _ _ _ us hl => match us, hl with | [_, _], _ => rfl
  have b14 := F14.binds (ps := ["_law_bag_here", "_law_field_here", "_law_far"]) fun _ _ _ _ _ _ us hl => match us, hl with | [_, _, _], _ => rfl
  have b15 := F15.binds (ps := ["_law_thing", "_law_least", "_law_most"]) fun _ _ _ _ _ _ us hl => match us, hl with | [_, _, _], _ => rfl
  have b16 := F16.binds (ps := ["_law_thing", "_law_least", "_law_most"]) fun _ _ _ _ _ _ us hl => match us, hl with | [_, _, _], _ => rfl
  have b17 := F17.binds (ps := ["_law_thing", "_law_many"]) fun _ _ _ _ _ _ us hl => match us, hl with | [_, _], _ => rfl
  have b18 := F18.binds (ps := ["_law_field_here", "_law_thing"]) fun _ _ _ _ _ _ us hl => match us, hl with | [_, _], _ => rfl
  have b19 := F19.binds (ps := ["_law_thing"]) fun _ _ _ _ _ _ us hl => match us, hl with | [_], _ => rfl
  have b20 := F20.binds (ps := ["_law_bag_here"]) fun _ _ _ _ _ _ us hl => match us, hl with | [_], _ => rfl
  have b21 := F21.binds (ps := ["_law_bag_here", "_law_thing"]) fun _ _ _ _ _ _ us hl => match us, hl with | [_, _], _ => rfl
  have b22 := F22.binds (ps := ["_law_bag_here", "_law_field_here", "_law_far"]) fun _ _ _ _ _ _ us hl => match us, hl with | [_, _, _], _ => rfl
  have b23 := F23.binds (ps := ["_law_thing"]) fun _ _ _ _ _ _ us hl => match us, hl with | [_], _ => rfl
  have b24 := F24.binds (ps := ["_law_field_here", "_law_thing", "_law_other"]) fun _ _ _ _ _ _ us hl => match us, hl with | [_, _, _], _ => rfl
  have b25 := F25.binds (ps := ["_law_script"]) fun _ _ _ _ _ _ us hl => match us, hl with | [_], _ => rfl
  exact ⟨PySem.W.fnOf "law" "law" (defArgs s_law) (defBody s_law) (defScope s_law) .none kV25 dc25 pm25 an25 cd25 ct25, fun s v => .of_eq rfl, fun base _ _ => fn_top (ok_law ⟨⟨_, _, F0, b0, PySem.W.mg_of X G a0⟩, ⟨_, _, F1, b1, PySem.W.mg_of X G a1⟩, ⟨_, _, F2, b2, PySem.W.mg_of X G a2⟩, ⟨_, _, F3, b3, PySem.W.mg_of X G a3⟩, ⟨_, _, F4, b4, PySem.W.mg_of X G a4⟩, ⟨_, _, F5, b5, PySem.W.mg_of X G a5⟩, ⟨_, _, F6, b6, PySem.W.mg_of X G a6⟩, ⟨_, _, F7, b7, PySem.W.mg_of X G a7⟩, ⟨_, _, F8, b8, PySem.W.mg_of X G a8⟩, ⟨_, _, F9, b9, PySem.W.mg_of X G a9⟩, ⟨_, _, F10, b10, PySem.W.mg_of X G a10⟩, ⟨_, _, F11, b11, PySem.W.mg_of X G a11⟩, ⟨_, _, F12, b12, PySem.W.mg_of X G a12⟩, ⟨_, _, F13, b13, PySem.W.mg_of X G a13⟩, ⟨_, _, F14, b14, PySem.W.mg_of X G a14⟩, ⟨_, _, F15, b15, PySem.W.mg_of X G a15⟩, ⟨_, _, F16, b16, PySem.W.mg_of X G a16⟩, ⟨_, _, F17, b17, PySem.W.mg_of X G a17⟩, ⟨_, _, F18, b18, PySem.W.mg_of X G a18⟩, ⟨_, _, F19, b19, PySem.W.mg_of X G a19⟩, ⟨_, _, F20, b20, PySem.W.mg_of X G a20⟩, ⟨_, _, F21, b21, PySem.W.mg_of X G a21⟩, ⟨_, _, F22, b22, PySem.W.mg_of X G a22⟩, ⟨_, _, F23, b23, PySem.W.mg_of X G a23⟩, ⟨_, _, F24, b24, PySem.W.mg_of X G a24⟩, ⟨_, _, F25, b25, PySem.W.mg_of X G a25⟩, PySem.W.mg_none_of X G z0, PySem.W.mg_none_of X G z1, PySem.W.mg_none_of X G z2, PySem.W.mg_none_of X G z3, ⟨_, PySem.W.mg_of X G z4⟩, ⟨_, PySem.W.mg_of X G z5⟩, ⟨_, PySem.W.mg_of X G z6⟩, ⟨_, PySem.W.mg_of X G z7⟩, PySem.W.mg_none_of X G z8, PySem.W.mg_none_of X G z9, PySem.W.mg_none_of X G z10, PySem.W.mg_none_of X G z11, PySem.W.mg_none_of X G z12, PySem.W.mg_none_of X G z13, PySem.W.mg_none_of X G z14, PySem.W.mg_none_of X G z15, PySem.W.mg_none_of X G z16, PySem.W.mg_none_of X G z17⟩)⟩
theorem walk {l : PySem.W.OpenLaw} {q : Program} {loose : List Str} {XP : (Str → Option Value) → Heap → Prop} {YP : World → Heap → Prop} {d : DefRec} {K : Params → PySem.W.Frag} (hn : l.most = some 63) (hdf : d.params.defaults = [])
    (hY : ∀ (w : World) (h : Heap), YP w h → (K w.params).In h)
    (F : ∀ (w : World) (mg : Str → Option Value) (fa : Addr) (h : Heap), (K w.params).In h → h.Ns mainGlobals mg → mg d.name = some (.ref fa) →
      ∃ fd : FuncData, (∀ (s : Shared) (u : Value), BindsTo s fd ⟨[u], []⟩ [("_law_script", u)]) ∧ ∀ base : Heap, (K w.params).In base → base.Ns mainGlobals mg → FnOk l.prog w (K w.params) mg base CX0 16 fa fd ["_law_script"] (spTop (K w.params) 1 f_law)) :
    PySem.W.WalkO q loose XP YP l.row.toRowW d [] (fun f vs => PySem.call f vs) :=
  L2.walk_of (n := 63) (k := 16) (x := "_law_script") (CX := fun _ => CX0) (sp := fun w => spTop (K w.params) 1 f_law) hn (by decide) hdf ⟨rfl, by decide, by decide, rfl⟩ hY F (fun _ _ a ns hl hO hS => top_sp (fun n => law_eq ns (by omega) n) hO hS) fun _ _ _ _ _ h => h.elim
end My
open PySem PySem.W PyProof.Rows
set_option maxRecDepth 100000 in
set_option maxHeartbeats 0 in
theorem PySem.Challenge.cw_signbench_k44_fields_and_standings_of_an_holds : PySem.Challenge.rw_signbench_k44_fields_and_standings_of_an.Holds := by
  w_on; o_law; k_head; (case hw => w_witness2)
  k_fill
  refine My.walk (l := PySem.Challenge.rw_signbench_k44_fields_and_standings_of_an) rfl rfl (fun w h Y => PySem.W.kIn_of Y) ?F
  case F =>
    intro w mg fa h KX G hmg
    refine' My.all_mk KX G hmg ?a0 ?l0 ?c0 ?k0 ?a1 ?l1 ?c1 ?k1 ?a2 ?l2 ?c2 ?k2 ?a3 ?l3 ?c3 ?k3 ?a4 ?l4 ?c4 ?k4 ?a5 ?l5 ?c5 ?k5 ?a6 ?l6 ?c6 ?k6 ?a7 ?l7 ?c7 ?k7 ?a8 ?l8 ?c8 ?k8 ?a9 ?l9 ?c9 ?k9 ?a10 ?l10 ?c10 ?k10 ?a11 ?l11 ?c11 ?k11 ?a12 ?l12 ?c12 ?k12 ?a13 ?l13 ?c13 ?k13 ?a14 ?l14 ?c14 ?k14 ?a15 ?l15 ?c15 ?k15 ?a16 ?l16 ?c16 ?k16 ?a17 ?l17 ?c17 ?k17 ?a18 ?l18 ?c18 ?k18 ?a19 ?l19 ?c19 ?k19 ?a20 ?l20 ?c20 ?k20 ?a21 ?l21 ?c21 ?k21 ?a22 ?l22 ?c22 ?k22 ?a23 ?l23 ?c23 ?k23 ?a24 ?l24 ?c24 ?k24 ?a25 ?l25 ?c25 ?k25 ?z0 ?z1 ?z2 ?z3 ?z4 ?z5 ?z6 ?z7 ?z8 ?z9 ?z10 ?z11 ?z12 ?z13 ?z14 ?z15 ?z16 ?z17
    (case a0 => k_is)
    (case l0 => k_is)
    (case c0 => k_is)
    (case k0 => k_is)
    (case a1 => k_is)
    (case l1 => k_is)
    (case c1 => k_is)
    (case k1 => k_is)
    (case a2 => k_is)
    (case l2 => k_is)
    (case c2 => k_is)
    (case k2 => k_is)
    (case a3 => k_is)
    (case l3 => k_is)
    (case c3 => k_is)
    (case k3 => k_is)
    (case a4 => k_is)
    (case l4 => k_is)
    (case c4 => k_is)
    (case k4 => k_is)
    (case a5 => k_is)
    (case l5 => k_is)
    (case c5 => k_is)
    (case k5 => k_is)
    (case a6 => k_is)
    (case l6 => k_is)
    (case c6 => k_is)
    (case k6 => k_is)
    (case a7 => k_is)
    (case l7 => k_is)
    (case c7 => k_is)
    (case k7 => k_is)
    (case a8 => k_is)
    (case l8 => k_is)
    (case c8 => k_is)
    (case k8 => k_is)
    (case a9 => k_is)
    (case l9 => k_is)
    (case c9 => k_is)
    (case k9 => k_is)
    (case a10 => k_is)
    (case l10 => k_is)
    (case c10 => k_is)
    (case k10 => k_is)
    (case a11 => k_is)
    (case l11 => k_is)
    (case c11 => k_is)
    (case k11 => k_is)
    (case a12 => k_is)
    (case l12 => k_is)
    (case c12 => k_is)
    (case k12 => k_is)
    (case a13 => k_is)
    (case l13 => k_is)
    (case c13 => k_is)
    (case k13 => k_is)
    (case a14 => k_is)
    (case l14 => k_is)
    (case c14 => k_is)
    (case k14 => k_is)
    (case a15 => k_is)
    (case l15 => k_is)
    (case c15 => k_is)
    (case k15 => k_is)
    (case a16 => k_is)
    (case l16 => k_is)
    (case c16 => k_is)
    (case k16 => k_is)
    (case a17 => k_is)
    (case l17 => k_is)
    (case c17 => k_is)
    (case k17 => k_is)
    (case a18 => k_is)
    (case l18 => k_is)
    (case c18 => k_is)
    (case k18 => k_is)
    (case a19 => k_is)
    (case l19 => k_is)
    (case c19 => k_is)
    (case k19 => k_is)
    (case a20 => k_is)
    (case l20 => k_is)
    (case c20 => k_is)
    (case k20 => k_is)
    (case a21 => k_is)
    (case l21 => k_is)
    (case c21 => k_is)
    (case k21 => k_is)
    (case a22 => k_is)
    (case l22 => k_is)
    (case c22 => k_is)
    (case k22 => k_is)
    (case a23 => k_is)
    (case l23 => k_is)
    (case c23 => k_is)
    (case k23 => k_is)
    (case a24 => k_is)
    (case l24 => k_is)
    (case c24 => k_is)
    (case k24 => k_is)
    (case a25 => k_is)
    (case l25 => k_is)
    (case c25 => k_is)
    (case k25 => k_is)
    (case z0 => k_is)
    (case z1 => k_is)
    (case z2 => k_is)
    (case z3 => k_is)
    (case z4 => k_is)
    (case z5 => k_is)
    (case z6 => k_is)
    (case z7 => k_is)
    (case z8 => k_is)
    (case z9 => k_is)
    (case z10 => k_is)
    (case z11 => k_is)
    (case z12 => k_is)
    (case z13 => k_is)
    (case z14 => k_is)
    (case z15 => k_is)
    (case z16 => k_is)
    (case z17 => k_is)
