import PyProof.Rows.All
import Wide.All
import OpenK.AllK
import Wide.FinOn
import Lean
import PyProof.EqAt
import PyProof.EqKinds
import PyProof.TupleCall
import KE.KSortTup
import PyProof.Draws
import PyProof.ZipIter
import PyProof.ListMulAny
import PyProof.ListMulRoad
import PySem.Challenge.RW_daytellings_k52_groups
set_option Elab.async false
set_option linter.all false
set_option maxRecDepth 100000
namespace L2
open PySem PySem.Spec PyProof.Rows
noncomputable abbrev Key := Sum Int Str
noncomputable def keyIs : Key → Value → Bool
  | .inl k, v => Value.isInt k v
  | .inr x, v => Value.isStrOf x v
noncomputable def keyH (w : World) : Key → Int
  | .inl k => hashInt k
  | .inr x => hashStr w x
theorem keyIs_shape : ∀ {k : Key} {v : Value}, keyIs k v = true → (∃ i t, k = Sum.inl i ∧ v = Value.int i t) ∨ (∃ x t, k = Sum.inr x ∧ v = Value.str x t)
  | .inl i, v, h => by
    obtain ⟨t, e⟩ := Value.isInt_shape (k := i) (v := v) h
    exact .inl ⟨i, t, rfl, e⟩
  | .inr x, v, h => by
    obtain ⟨t, e⟩ := Value.isStrOf_shape (x := x) (v := v) h
    exact .inr ⟨x, t, rfl, e⟩
theorem key_ll (a b : Int) : decide ((Sum.inl a : Key) = Sum.inl b) = (a == b) := by
  by_cases e : a = b
  · subst e; simp
  · have h : ¬ (Sum.inl a : Key) = Sum.inl b := fun q => e (Sum.inl.inj q)
    rw [decide_eq_false h]
    exact (beq_eq_false_iff_ne.mpr e).symm
theorem key_rr (a b : Str) : decide ((Sum.inr a : Key) = Sum.inr b) = decide (a = b) := by
  by_cases e : a = b
  · subst e; simp
  · have h : ¬ (Sum.inr a : Key) = Sum.inr b := fun q => e (Sum.inr.inj q)
    rw [decide_eq_false h, decide_eq_false e]
theorem key_lr (a : Int) (b : Str) : decide ((Sum.inl a : Key) = Sum.inr b) = false := decide_eq_false (fun q => nomatch q)
theorem key_rl (a : Str) (b : Int) : decide ((Sum.inr a : Key) = Sum.inl b) = false := decide_eq_false (fun q => nomatch q)
noncomputable def mixKind (prog : Program) (w : World) : PySem.KeyKind prog w Key where
  is := keyIs
  hash := keyH w
  inj := fun v a b ha hb => by
    rcases keyIs_shape ha with ⟨i, t, rfl, rfl⟩ | ⟨x, t, rfl, rfl⟩
    · rcases keyIs_shape hb with ⟨j, u, rfl, e⟩ | ⟨y, u, rfl, e⟩
      · injection e with e1 _; rw [e1]
      · exact nomatch e
    · rcases keyIs_shape hb with ⟨j, u, rfl, e⟩ | ⟨y, u, rfl, e⟩
      · exact nomatch e
      · injection e with e1 _; rw [e1]
  byValue := fun k v h => by
    rcases keyIs_shape h with ⟨i, t, rfl, rfl⟩ | ⟨x, t, rfl, rfl⟩ <;> rfl
  pyHash := fun hv h => by
    rcases keyIs_shape hv with ⟨i, t, rfl, rfl⟩ | ⟨x, t, rfl, rfl⟩
    · exact wpAny_pyHash_int h
    · exact wpAny_pyHash_str h
  eqBool := fun hu hv h => by
    rcases keyIs_shape hu with ⟨i, t, rfl, rfl⟩ | ⟨x, t, rfl, rfl⟩
    · rcases keyIs_shape hv with ⟨j, u, rfl, rfl⟩ | ⟨y, u, rfl, rfl⟩
      · rw [key_ll] at h; exact wpAny_eqBool_int h
      · rw [key_lr] at h; exact SeqAt.EqAt.int_str i t y u _ _ _ _ h
    · rcases keyIs_shape hv with ⟨j, u, rfl, rfl⟩ | ⟨y, u, rfl, rfl⟩
      · rw [key_rl] at h; exact SeqAt.EqAt.str_int x t j u _ _ _ _ h
      · rw [key_rr] at h; exact wpAny_eqBool_str h
  «strs» := fun k x t v h => by
    rcases keyIs_shape h with ⟨i, u, rfl, e⟩ | ⟨y, u, rfl, e⟩
    · exact nomatch e
    · injection e with e1 _
      subst e1
      cases v <;> rfl
end L2
namespace L2
open PySem PySem.Spec PyProof.Rows
inductive V where
  | non | bl (b : Bool) | int (i : Int) | str (x : Str) | byt (b : Array UInt8) | flt (b : UInt64) | ref (a : Addr) | ty (n : String)
  deriving DecidableEq
noncomputable def RelV : V → Value → Prop
  | .non, u => u = Value.none
  | .bl b, u => u = Value.bool b
  | .int i, u => ∃ t, u = Value.int i t
  | .str x, u => ∃ t, u = Value.str x t
  | .byt b, u => ∃ t, u = Value.bytes b t
  | .flt b, u => ∃ t, u = Value.float b t
  | .ref a, u => u = Value.ref a
  | .ty n, u => u = Value.type n
noncomputable abbrev Vals : List V → List Value → Prop := Paired RelV
theorem Vals.length {xs : List V} {us : List Value} (r : Vals xs us) : xs.length = us.length := Paired.length r
theorem Vals.get : ∀ {xs : List V} {us : List Value} {i : Nat} {x : V}, Vals xs us → xs[i]? = some x → ∃ u, us[i]? = some u ∧ RelV x u
  | _, _, _, _, .nil, e => by simp at e
  | _, _, 0, _, .cons r _, e => by simp at e; subst e; exact ⟨_, rfl, r⟩
  | _, _, i + 1, x, .cons _ t, e => by
    obtain ⟨u, h1, h2⟩ := Vals.get (i := i) (x := x) t (by simpa using e)
    exact ⟨u, by simpa using h1, h2⟩
theorem Vals.set {x : V} {u : Value} (r : RelV x u) : ∀ {xs : List V} {us : List Value} (i : Nat), Vals xs us → Vals (xs.set i x) (us.set i u)
  | _, _, _, .nil => .nil
  | _, _, 0, .cons _ t => .cons r t
  | _, _, i + 1, .cons q t => .cons q (Vals.set r i t)
theorem Vals.append : ∀ {xs ys : List V} {us ws : List Value}, Vals xs us → Vals ys ws → Vals (xs ++ ys) (us ++ ws)
  | _, _, _, _, .nil, s => s
  | _, _, _, _, .cons r t, s => .cons r (Vals.append t s)
theorem Vals.take : ∀ {xs : List V} {us : List Value} (n : Nat), Vals xs us → Vals (xs.take n) (us.take n)
  | _, _, 0, _ => .nil
  | _, _, _ + 1, .nil => .nil
  | _, _, n + 1, .cons r t => .cons r (Vals.take n t)
theorem Vals.drop : ∀ {xs : List V} {us : List Value} (n : Nat), Vals xs us → Vals (xs.drop n) (us.drop n)
  | _, _, 0, r => r
  | _, _, _ + 1, .nil => .nil
  | _, _, n + 1, .cons _ t => Vals.drop n t
noncomputable def RelO : Option V → Option Value → Prop
  | some v, some u => RelV v u
  | none, none => True
  | _, _ => False
noncomputable def KV {κ : Type} : List (κ × V) → List (κ × Value) → Prop := Paired fun (p : κ × V) (q : κ × Value) => p.1 = q.1 ∧ RelV p.2 q.2
noncomputable def kV : Key → V
  | .inl i => .int i
  | .inr x => .str x
inductive HO where
  | lst (xs : List V)
  | tup (xs : List V)
  | dK (kvs : List (Key × V)) | dT (kvs : List (List Key × V))
  | set (S : Int → Bool) (n : Nat)
  | ins (C dx : Addr) (fs : List (Str × V))
  | own (x : Addr)
  | xd (fs : List (Str × V))
  | met (f x : Addr)
  | rng (lo hi : Int)
  | frz (o : Obj) (u : HO)
  | tbl (ps : Array Value)
  | ext (φ : Heap → Prop)
noncomputable abbrev Hp := Addr → Option HO
noncomputable def upd (H : Hp) (a : Addr) (o : HO) : Hp := fun b => if b = a then some o else H b
theorem upd_same {H : Hp} {a : Addr} {o : HO} : upd H a o a = some o := by unfold upd; rw [if_pos rfl]
theorem upd_ne {H : Hp} {a b : Addr} {o : HO} (h : b ≠ a) : upd H a o b = H b := by unfold upd; rw [if_neg h]
theorem ne_of_none {H : Hp} {a b : Addr} {o : HO} (h : H a = some o) (h' : H b = none) : a ≠ b := by
  intro e; subst e; rw [h] at h'; cases h'
section
variable (P : Program) (w : World)
noncomputable def ObjOk (H : Hp) (h : Heap) (a : Addr) : HO → Prop
  | .lst xs => xs.length ≤ sizeLine ∧ ∃ (its : List Value) (n : Nat), Vals xs its ∧ h.get? a = some { cls := .type "list", data := .seq its.toArray n }
  | .tup xs => xs.length ≤ sizeLine ∧ ∃ its : List Value, Vals xs its ∧ IsTup h a its.toArray
  | .dK kvs => kvs.length ≤ sizeLine ∧ (a == sysModules) = false ∧ ∃ vs, KV kvs vs ∧ h.DictOf (mixKind P w) a vs
  | .dT kvs => kvs.length ≤ sizeLine ∧ (a == sysModules) = false ∧ ∃ xs : List (List Key × Addr × Value),
      Paired (fun (p : List Key × V) (q : List Key × Addr × Value) => p.1 = q.1 ∧ H q.2.1 = some (.tup (p.1.map kV)) ∧ RelV p.2 q.2.2) kvs xs ∧
      ∃ o es ep, h.get? a = some o ∧ o.ExactDict ∧ o.data = .dict es ep ∧ es.toList = xs.map (entryOfKey (tupleKind (mixKind P w))) ∧ (xs.map (·.1)).Nodup
  | .set S n => h.SetOf (intKind P w) a S n
  | .ins C dx fs => H dx = some (.own a) ∧ fs.length ≤ 1000 ∧ dx ≠ a ∧ h.get? a = some (PySem.W.instObj C dx) ∧
      ∃ mA, h.Ns1 dx mA ∧ (∀ f, RelO (fs.lookup f) (mA f)) ∧ PySem.Within mA (fs.map (·.1))
  | .own _ => ∃ o, h.get? a = some o
  | .xd fs => ∃ mA, h.Ns1 a mA ∧ ∀ f, RelO (fs.lookup f) (mA f)
  | .rng lo hi => ∃ t u v, h.get? a = some { cls := .type "range", data := .fields #[.int lo t, .int hi u, .int 1 v] }
  | .frz o u => h.get? a = some o ∧ ObjOk H h a u
  | .tbl ps => h.get? a = some { cls := .none, data := .fields ps }
  | .met f x => h.get? a = some (PySem.W.methodObj (.ref f) (.ref x))
  | .ext φ => φ h ∧ (∃ o, h.get? a = some o) ∧ ∀ h1 h2 : Heap, φ h1 → (∀ o, h1.get? a = some o → h2.get? a = some o) → φ h2
noncomputable def HOk (H : Hp) (h : Heap) : Prop := ∀ a o, H a = some o → ObjOk P w H h a o
end
section
variable {P : Program} {w : World} {H H' : Hp} {h h' : Heap} {a : Addr} {o : HO}
theorem ObjOk.lt (x : ObjOk P w H h a o) : a < h.objs.size := by
  cases o with
  | lst xs => obtain ⟨_, _, _, _, e⟩ := x; exact Heap.lt_size e
  | tup xs => obtain ⟨_, _, _, p⟩ := x; exact p.lt
  | dK kvs => obtain ⟨_, _, _, _, o, _, _, e, _⟩ := x; exact Heap.lt_size e
  | dT kvs => obtain ⟨_, _, _, _, o, _, _, e, _⟩ := x; exact Heap.lt_size e
  | set S n => obtain ⟨o, _, _, _, e, _⟩ := x; exact Heap.lt_size e
  | ins C dx fs => obtain ⟨_, _, _, e, _⟩ := x; exact Heap.lt_size e
  | own y => obtain ⟨_, e⟩ := x; exact Heap.lt_size e
  | xd fs => obtain ⟨_, ⟨_, _, _, e, _⟩, _⟩ := x; exact Heap.lt_size e
  | rng lo hi => obtain ⟨_, _, _, e⟩ := x; exact Heap.lt_size e
  | frz ob u => obtain ⟨e, _⟩ := x; exact Heap.lt_size e
  | tbl ps => exact Heap.lt_size (show h.get? a = some _ from x)
  | met f y => exact Heap.lt_size (show h.get? a = some _ from x)
  | ext φ => obtain ⟨_, ⟨_, e⟩, _⟩ := x; exact Heap.lt_size e
theorem Paired.mapP {α β : Type} {F G : α → β → Prop} : ∀ {l₁ : List α} {l₂ : List β}, Paired F l₁ l₂ → (∀ a b, F a b → G a b) → Paired G l₁ l₂
  | _, _, .nil, _ => .nil
  | _, _, .cons r t, f => .cons (f _ _ r) (Paired.mapP t f)
theorem ObjOk.stay (x : ObjOk P w H h a o) (k : ∀ b u, (b = a ∨ H b = some (.own a)) → h.get? b = some u → h'.get? b = some u)
    (ho : ∀ b, H b = some (.own a) → H' b = some (.own a)) (ht : ∀ b xs, H b = some (.tup xs) → H' b = some (.tup xs)) : ObjOk P w H' h' a o := by
  induction o with
  | lst xs => obtain ⟨z, its, n, r, e⟩ := x; exact ⟨z, its, n, r, k _ _ (.inl rfl) e⟩
  | tup xs => obtain ⟨z, its, r, ob, e, c⟩ := x; exact ⟨z, its, r, ob, k _ _ (.inl rfl) e, c⟩
  | dK kvs => obtain ⟨z, y, vs, r, ob, es, ep, e, c⟩ := x; exact ⟨z, y, vs, r, ob, es, ep, k _ _ (.inl rfl) e, c⟩
  | dT kvs =>
    obtain ⟨z, y, xs, r, ob, es, ep, e, c⟩ := x
    exact ⟨z, y, xs, Paired.mapP r fun p q z => ⟨z.1, ht _ _ z.2.1, z.2.2⟩, ob, es, ep, k _ _ (.inl rfl) e, c⟩
  | set S n => obtain ⟨ob, es, ep, t, e, c⟩ := x; exact ⟨ob, es, ep, t, k _ _ (.inl rfl) e, c⟩
  | ins C dx fs =>
    obtain ⟨d, z, ne, e, mA, ⟨od, es, ep, e2, c⟩, r⟩ := x
    exact ⟨ho _ d, z, ne, k _ _ (.inl rfl) e, mA, ⟨od, es, ep, k _ _ (.inr d) e2, c⟩, r⟩
  | own y => obtain ⟨ob, e⟩ := x; exact ⟨ob, k _ _ (.inl rfl) e⟩
  | xd fs => obtain ⟨mA, ⟨od, es, ep, e, c⟩, r⟩ := x; exact ⟨mA, ⟨od, es, ep, k _ _ (.inl rfl) e, c⟩, r⟩
  | rng lo hi => obtain ⟨t, u, v, e⟩ := x; exact ⟨t, u, v, k _ _ (.inl rfl) e⟩
  | frz ob u ih => obtain ⟨e, q⟩ := x; exact ⟨k _ _ (.inl rfl) e, ih q⟩
  | tbl ps =>
    have e : h.get? a = some { cls := .none, data := .fields ps } := x
    show h'.get? a = some { cls := .none, data := .fields ps }
    exact k a _ (.inl rfl) e
  | met f y =>
    have e : h.get? a = some (PySem.W.methodObj (.ref f) (.ref y)) := x
    show h'.get? a = some (PySem.W.methodObj (.ref f) (.ref y))
    exact k a _ (.inl rfl) e
  | ext φ => obtain ⟨p, ⟨o, e⟩, st⟩ := x; exact ⟨st _ _ p fun o q => k _ _ (.inl rfl) q, ⟨o, k _ _ (.inl rfl) e⟩, st⟩
theorem HOk.lt (x : HOk P w H h) (e : H a = some o) : a < h.objs.size := (x a o e).lt
theorem HOk.fresh (x : HOk P w H h) (e : h.objs.size ≤ a) : H a = none := by
  cases q : H a with
  | none => rfl
  | some u => exact absurd (Nat.lt_of_lt_of_le (x.lt q) e) (Nat.lt_irrefl _)
theorem HOk.kept (x : HOk P w H h) (k : ∀ b u, h.get? b = some u → h'.get? b = some u) : HOk P w H h' := fun a o e =>
  (x a o e).stay (fun b u _ q => k b u q) (fun _ q => q) fun _ _ q => q
theorem HOk.laid (x : HOk P w H h) (k : ∀ b u, h.get? b = some u → h'.get? b = some u) (hp : h.objs.size ≤ a) (new : ObjOk P w (upd H a o) h' a o) : HOk P w (upd H a o) h' := fun b u e => by
  have hn := x.fresh hp
  by_cases hb : b = a
  · subst hb; rw [upd_same] at e; cases e; exact new
  · rw [upd_ne hb] at e
    exact (x b u e).stay (fun c v _ q => k c v q) (fun c q => by rw [upd_ne (ne_of_none q hn)]; exact q) fun c xs q => by rw [upd_ne (ne_of_none q hn)]; exact q
end
noncomputable def Rd (H : Hp) (a : Addr) (u : HO) : Prop := H a = some u ∨ ∃ o, H a = some (.frz o u)
theorem Rd.ok {P : Program} {w : World} {H : Hp} {h : Heap} {a : Addr} {u : HO} (r : Rd H a u) (x : HOk P w H h) : ObjOk P w H h a u := by
  rcases r with r | ⟨o, r⟩
  · exact x a u r
  · obtain ⟨_, q⟩ := x a _ r
    exact q
noncomputable def Mut : Option HO → Prop
  | some (.lst _) => True
  | some (.dK _) => True
  | some (.dT _) => True
  | some (.set _ _) => True
  | some (.ins _ _ _) => True
  | some (.ext _) => True
  | _ => False
section
variable {P : Program} {w : World} {H : Hp} {h h' : Heap} {x e : Addr} {o' : HO}
theorem HOk.write (ok : HOk P w H h) (mu : Mut (H x)) (he : e = x ∨ H e = some (.own x)) (k : ∀ b u, b ≠ e → h.get? b = some u → h'.get? b = some u) (heo : ∃ u, h'.get? e = some u)
    (new : ObjOk P w (upd H x o') h' x o') : HOk P w (upd H x o') h' := fun b u q => by
  have nown : ∀ c y, H c = some (.own y) → c ≠ x := fun c y r z => by subst z; rw [r] at mu; exact mu
  have ntup : ∀ c xs, H c = some (.tup xs) → c ≠ x := fun c xs r z => by subst z; rw [r] at mu; exact mu
  by_cases hb : b = x
  · subst hb; rw [upd_same] at q; cases q; exact new
  · rw [upd_ne hb] at q
    by_cases hbe : b = e
    · have q' : H b = some (.own x) := by
        rcases he with z | z
        · exact absurd (hbe.trans z) hb
        · rw [hbe]; exact z
      rw [q] at q'; cases q'
      obtain ⟨v, hv⟩ := heo
      exact ⟨v, by rw [hbe]; exact hv⟩
    · refine (ok b u q).stay (fun c v hc r => k c v ?_ r) (fun c r => by rw [upd_ne (nown c b r)]; exact r) fun c xs r => by rw [upd_ne (ntup c xs r)]; exact r
      rcases hc with rfl | hc
      · exact hbe
      · rintro rfl
        rcases he with z | z
        · exact nown c b hc z
        · rw [hc] at z; cases z; exact hb rfl
end
structure Un (fs ex : List Addr) (H H' : Hp) (h h' : Heap) : Prop where
  keep : ∀ b o, h.get? b = some o → H b = none → b ∉ fs → b ∉ ex → h'.get? b = some o
  slot : ∀ b o, h.get? b = some o → H b = none → b ∈ fs → b ∉ ex → ∃ sl, h'.get? b = some { o with slots := sl }
  free : ∀ b o, h.get? b = some o → H b = none → b ∉ ex → H' b = none
  there : ∀ b o, h.get? b = some o → b ∉ ex → ∃ o', h'.get? b = some o'
  tups : ∀ b xs, H b = some (.tup xs) → H' b = some (.tup xs)
  frzs : ∀ b o u, H b = some (.frz o u) → H' b = some (.frz o u)
  tbls : ∀ b ps, H b = some (.tbl ps) → ∃ more, H' b = some (.tbl (ps ++ more))
section
variable {fs fs' ex ex' : List Addr} {H H1 H2 : Hp} {h h1 h2 h' : Heap} {a x e : Addr} {o : HO}
theorem Un.any (u : Un fs ex H H1 h h1) {b : Addr} {ob : Obj} (q : h.get? b = some ob) (n : H b = none) (hx : b ∉ ex) : ∃ sl, h1.get? b = some { ob with slots := sl } := by
  by_cases hb : b ∈ fs
  · exact u.slot b ob q n hb hx
  · exact ⟨ob.slots, u.keep b ob q n hb hx⟩
theorem Un.trans (a : Un fs ex H H1 h h1) (b : Un fs ex H1 H2 h1 h2) : Un fs ex H H2 h h2 where
  keep := fun c ob q n hc hx => b.keep c ob (a.keep c ob q n hc hx) (a.free c ob q n hx) hc hx
  slot := fun c ob q n hc hx => by
    obtain ⟨sl, e1⟩ := a.slot c ob q n hc hx
    obtain ⟨sl', e2⟩ := b.slot c _ e1 (a.free c ob q n hx) hc hx
    exact ⟨sl', e2⟩
  free := fun c ob q n hx => by
    obtain ⟨o', e1⟩ := a.there c ob q hx
    exact b.free c o' e1 (a.free c ob q n hx) hx
  there := fun c ob q hx => by
    obtain ⟨o', e1⟩ := a.there c ob q hx
    exact b.there c o' e1 hx
  tups := fun c xs q => b.tups c xs (a.tups c xs q)
  frzs := fun c ob xs q => b.frzs c ob xs (a.frzs c ob xs q)
  tbls := fun c ps q => by
    obtain ⟨m1, e1⟩ := a.tbls c ps q
    obtain ⟨m2, e2⟩ := b.tbls c _ e1
    exact ⟨m1 ++ m2, by rw [e2, Array.append_assoc]⟩
theorem Un.kept (k : ∀ b u, h.get? b = some u → h'.get? b = some u) : Un fs ex H H h h' :=
  ⟨fun b ob q _ _ _ => k b ob q, fun b ob q _ _ _ => ⟨ob.slots, k b ob q⟩, fun _ _ _ n _ => n, fun b ob q _ => ⟨ob, k b ob q⟩, fun _ _ q => q, fun _ _ _ q => q, fun _ ps q => ⟨#[], by rw [q]; simp⟩⟩
theorem Un.refl : Un fs ex H H h h := Un.kept fun _ _ q => q
theorem Un.laid (k : ∀ b u, h.get? b = some u → h'.get? b = some u) (hp : h.objs.size ≤ a) (hn : H a = none) : Un fs ex H (upd H a o) h h' where
  keep := fun b u q _ _ _ => k b u q
  slot := fun b u q _ _ _ => ⟨u.slots, k b u q⟩
  free := fun b u q n _ => by rw [upd_ne (Nat.ne_of_lt (Nat.lt_of_lt_of_le (Heap.lt_size q) hp))]; exact n
  there := fun b u q _ => ⟨u, k b u q⟩
  tups := fun b xs q => by rw [upd_ne (ne_of_none q hn)]; exact q
  frzs := fun b u xs q => by rw [upd_ne (ne_of_none q hn)]; exact q
  tbls := fun b ps q => ⟨#[], by rw [upd_ne (ne_of_none q hn), q]; simp⟩
theorem Un.write (mu : Mut (H x)) (he : e = x ∨ H e = some (.own x)) (k : ∀ b u, b ≠ e → h.get? b = some u → h'.get? b = some u) (heo : ∃ u, h'.get? e = some u) : Un fs ex H (upd H x o) h h' := by
  have hx : ∀ b, H b = none → b ≠ x := fun b n z => by subst z; rw [n] at mu; exact mu
  have hb : ∀ b, H b = none → b ≠ e := fun b n z => by
    subst z
    rcases he with r | r
    · exact hx b n r
    · rw [n] at r; cases r
  have hm : ∀ b u, H b = some u → ¬ Mut (some u) → b ≠ x := fun b u q nm z => by subst z; rw [q] at mu; exact nm mu
  refine ⟨fun b u q n _ _ => k b u (hb b n) q, fun b u q n _ _ => ⟨u.slots, k b u (hb b n) q⟩, fun b u q n _ => by rw [upd_ne (hx b n)]; exact n, fun b u q _ => ?_,
    fun b xs q => by rw [upd_ne (hm b _ q fun z => z)]; exact q, fun b u xs q => by rw [upd_ne (hm b _ q fun z => z)]; exact q, fun b ps q => ⟨#[], by rw [upd_ne (hm b _ q fun z => z), q]; simp⟩⟩
  by_cases hbe : b = e
  · subst hbe; exact heo
  · exact ⟨u, k b u hbe q⟩
end
noncomputable def trk (h : Heap) (H : Hp) : List Addr := (List.range h.objs.size).filter fun a => (H a).isSome
noncomputable def hidT (h : Heap) (H : Hp) : Heap := PySem.W.hideAll h (trk h H)
theorem hidT_size (h : Heap) (H : Hp) : (hidT h H).objs.size = h.objs.size := PySem.W.hideAll_size _ _
theorem hidT_get {h : Heap} {H : Hp} {b : Addr} {o : Obj} (e : h.get? b = some o) (n : H b = none) : (hidT h H).get? b = some o :=
  PySem.W.hideAll_get _ e fun hm => by
    have q : (H b).isSome = true := (List.mem_filter.mp hm).2
    rw [n] at q; simp at q
theorem of_hidT {h : Heap} {H : Hp} {b : Addr} {o : Obj} (e : (hidT h H).get? b = some o) : h.get? b = some o ∧ H b = none := by
  have e' : h.get? b = some o := PySem.W.of_hideAll (trk h H) e
  refine ⟨e', ?_⟩
  cases q : H b with
  | none => rfl
  | some x =>
    have hm : b ∈ trk h H := List.mem_filter.mpr ⟨List.mem_range.mpr (Heap.lt_size e'), by simp [q]⟩
    have z : (hidT h H).get? b = none := PySem.W.hideAll_none (trk h H) hm
    rw [z] at e; cases e
end L2
namespace L2
open PySem PySem.Spec PyProof.Rows
structure Mod (K : PySem.W.Frag) (mg : Str → Option Value) (base : Heap) : Prop where
  kin : K.In base
  glob : base.Ns mainGlobals mg
  blt : ∃ mb, base.Ns builtinsNs mb ∧ ∀ x : Str, x ≠ "__name__" → mb x = bootBuiltins x
  nolimit : base.NoLimit
structure Cx where
  prog : Program
  w : World
  K : PySem.W.Frag
  mg : Str → Option Value
  base : Heap
  A : Around
  N : List Str
  s₀ : Shared
  H₀ : Hp
  env : Env
  outer : List Env
  stack : List Env
  ex : List Addr
  fn : Str → Bool
  calm : Bool
  pn : List (Addr × Obj)
  xe : Value → Shared → Prop
noncomputable def frs (l : List Env) : List Addr := l.filterMap (·.frame)
noncomputable abbrev Cx.fs (X : Cx) : List Addr := frs X.outer
noncomputable def Vis (sc : Scope) (x : Str) : Prop := sc.names.lookup x = some .local ∨ sc.names.lookup x = some .cell ∨ sc.names.lookup x = some .free
noncomputable def Loc (sc : Scope) (x : Str) : Prop := sc.names.lookup x = some .local ∨ sc.names.lookup x = some .cell
noncomputable def Look (env : Env) (h : Heap) (m : Str → Option Value) (x : Str) (u : Value) : Prop :=
  (env.kindOf x = some .local ∧ m x = some u) ∨ ((env.kindOf x = some .cell ∨ env.kindOf x = some .free) ∧ ∃ c, env.cells.lookup x = some c ∧ h.IsCell c (some u))
structure Cx.Ok (X : Cx) : Prop where
  mod : Mod X.K X.mg X.base
  kind : X.env.scope.kind = .function
  glob : X.env.globals = mainGlobals
  blt : X.env.builtins = builtinsNs
  above : X.s₀.heap.objs.size ≤ X.env.locals
  inj : ∀ x y c, X.env.cells.lookup x = some c → X.env.cells.lookup y = some c → x = y
  has : ∀ x, (X.env.kindOf x = some .cell ∨ X.env.kindOf x = some .free) → ∃ c, X.env.cells.lookup x = some c
  cab : ∀ x c, X.fn x = true → X.env.cells.lookup x = some c → X.s₀.heap.objs.size ≤ c
  hd : X.calm = true → X.A.handled = none
  frames : X.A.frames = some X.stack
  stk : X.stack = X.outer ∨ (X.stack = X.env :: X.outer ∧ X.env.frame = some X.env.locals)
  exf : ∀ b ∈ X.ex, b ≠ X.env.locals ∧ ∀ x c, X.env.cells.lookup x = some c → c ≠ b
  bs : ∀ b o, X.base.get? b = some o → X.s₀.heap.get? b = some o ∧ X.H₀ b = none
  bsz : X.base.objs.size ≤ X.s₀.heap.objs.size
  noex : ∀ b o, X.base.get? b = some o → b ∉ X.ex
  exfs : ∀ b ∈ X.ex, b ∉ X.fs
  funs : X.s₀.heap.FunFrames X.base X.outer
  frf : ∀ b ∈ X.fs, X.H₀ b = none
structure Inv (X : Cx) (pins : List (Addr × Obj)) (σ : List (Option V)) (H : Hp) (s : Shared) : Prop where
  ok : X.Ok
  os : s.os = X.s₀.os
  bare : AllBare s.gens
  base : Un X.fs X.ex X.H₀ H X.s₀.heap s.heap
  loc : ∃ m, s.heap.Ns X.env.locals m ∧ ∀ (i : Nat) (x : Str) (v : V), X.N[i]? = some x → σ[i]? = some (some v) → Vis X.env.scope x → ∃ u, RelV v u ∧ Look X.env s.heap m x u
  cell : ∀ x c, X.env.cells.lookup x = some c → ∃ v, s.heap.IsCell c v
  free : H X.env.locals = none
  freeC : ∀ x c, X.env.cells.lookup x = some c → H c = none
  pin : ∀ p ∈ X.pn ++ pins, s.heap.get? p.1 = some p.2 ∧ H p.1 = none ∧ p.1 ≠ X.env.locals ∧ p.1 ∉ X.fs ∧ ∀ v, p.2.data ≠ .cell v
  hok : HOk X.prog X.w H s.heap
  len : σ.length = X.N.length
section
variable {X : Cx} {pins : List (Addr × Obj)} {σ : List (Option V)} {H H' : Hp} {s : Shared} {h' : Heap}
theorem Cx.Ok.nofr (ok : X.Ok) {b : Addr} {o : Obj} (e : X.base.get? b = some o) : b ∉ X.fs := fun hb => by
  have := (ok.funs.mem hb).1
  rw [e] at this; cases this
theorem Inv.bs (I : Inv X pins σ H s) : ∀ b o, X.base.get? b = some o → s.heap.get? b = some o ∧ H b = none := fun b o e =>
  ⟨I.base.keep b o (I.ok.bs b o e).1 (I.ok.bs b o e).2 (I.ok.nofr e) (I.ok.noex b o e), I.base.free b o (I.ok.bs b o e).1 (I.ok.bs b o e).2 (I.ok.noex b o e)⟩
theorem Inv.bk (I : Inv X pins σ H s) : ∀ b o, X.base.get? b = some o → s.heap.get? b = some o := fun b o e => (I.bs b o e).1
theorem Inv.mod (I : Inv X pins σ H s) : Mod X.K X.mg X.base := I.ok.mod
theorem Inv.kIn (I : Inv X pins σ H s) : X.K.In s.heap := I.ok.mod.kin.keeps I.bk
theorem Inv.lt (I : Inv X pins σ H s) : X.env.locals < s.heap.objs.size := let ⟨_, hn, _⟩ := I.loc; hn.lt
theorem Inv.sz (I : Inv X pins σ H s) : X.s₀.heap.objs.size ≤ s.heap.objs.size := Nat.le_trans I.ok.above (Nat.le_of_lt I.lt)
theorem Inv.nofs (I : Inv X pins σ H s) {a : Addr} (h : s.heap.objs.size ≤ a) : a ∉ X.fs := fun hb => by
  obtain ⟨_, o, ho, _⟩ := I.ok.funs.mem hb
  exact absurd (Nat.lt_of_lt_of_le (Heap.lt_size ho) (Nat.le_trans I.sz h)) (Nat.lt_irrefl _)
theorem Inv.cne (I : Inv X pins σ H s) : ∀ x c, X.env.cells.lookup x = some c → c ≠ X.env.locals := fun x c e z => by
  obtain ⟨v, o, ho, hd⟩ := I.cell x c e
  obtain ⟨m, ⟨o', es, ep, ho', hd', _⟩, _⟩ := I.loc
  rw [z, ho'] at ho; cases ho; rw [hd'] at hd; cases hd
theorem Inv.funs (I : Inv X pins σ H s) : s.heap.FunFrames X.base X.outer := by
  have all : ∀ (l : List Env), (∀ b ∈ frs l, b ∈ X.fs) → X.s₀.heap.FunFrames X.base l → s.heap.FunFrames X.base l := by
    intro l
    induction l with
    | nil => intro _ _; trivial
    | cons env r ih =>
      intro hs hl
      obtain ⟨hk, ⟨L, o, hf, hn, ho, hd⟩, hr⟩ := hl
      have hL : L ∈ X.fs := hs L (by unfold frs; rw [List.filterMap_cons, hf]; exact List.mem_cons_self)
      obtain ⟨sl, e⟩ := I.base.slot L o ho (I.ok.frf L hL) hL fun z => I.ok.exfs L z hL
      exact ⟨hk, ⟨L, _, hf, hn, e, hd⟩, ih (fun b hb => hs b (by unfold frs; rw [List.filterMap_cons, hf]; exact List.mem_cons_of_mem _ hb)) hr⟩
  exact all X.outer (fun _ hb => hb) I.ok.funs
theorem Inv.stack (I : Inv X pins σ H s) : s.heap.FunFrames X.base X.stack := by
  rcases I.ok.stk with e | ⟨e, hf⟩
  · rw [e]; exact I.funs
  · rw [e]
    obtain ⟨m, hn, _⟩ := I.loc
    refine .cons (by rw [I.ok.kind]; decide) hf hn ?_ I.funs
    exact Heap.get?_none_of_le (Nat.le_trans I.ok.bsz I.ok.above)
theorem Inv.stkSub (I : Inv X pins σ H s) : ∀ b ∈ frs X.stack, b ∈ X.env.locals :: X.fs := fun b hb => by
  rcases I.ok.stk with e | ⟨e, hf⟩
  · rw [e] at hb; exact List.mem_cons_of_mem _ hb
  · rw [e] at hb
    unfold frs at hb
    rw [List.filterMap_cons, hf] at hb
    exact hb
theorem Inv.stkFree (I : Inv X pins σ H s) : ∀ b ∈ frs X.stack, H b = none := fun b hb => by
  rcases List.mem_cons.mp (I.stkSub b hb) with e | hb
  · rw [e]; exact I.free
  · obtain ⟨_, o, ho, _⟩ := I.ok.funs.mem hb
    exact I.base.free b o ho (I.ok.frf b hb) fun z => I.ok.exfs b z hb
theorem Inv.step {g' : Array GenState} {t' : Nat} {d' : Drawn} {ch : List Addr} (I : Inv X pins σ H s)
    (hch : ∀ b ∈ ch, (b ∈ X.ex ∨ X.s₀.heap.objs.size ≤ b) ∧ b ≠ X.env.locals ∧ (∀ x c, X.env.cells.lookup x = some c → c ≠ b) ∧ ∀ p ∈ X.pn ++ pins, p.1 ≠ b)
    (keep : ∀ b o, b ≠ X.env.locals → b ∉ X.fs → b ∉ ch → s.heap.get? b = some o → H b = none → h'.get? b = some o)
    (slot : ∀ b o, b ≠ X.env.locals → b ∈ X.fs → b ∉ ch → s.heap.get? b = some o → H b = none → ∃ sl, h'.get? b = some { o with slots := sl }) (free : ∀ b o, b ∉ ch → s.heap.get? b = some o → H b = none → H' b = none)
    (there : ∀ b o, b ∉ ch → s.heap.get? b = some o → ∃ o', h'.get? b = some o')
    (tups : ∀ b xs, H b = some (.tup xs) → H' b = some (.tup xs)) (frzs : ∀ b o u, H b = some (.frz o u) → H' b = some (.frz o u)) (tbls : ∀ b ps, H b = some (.tbl ps) → ∃ more, H' b = some (.tbl (ps ++ more)))
    (ns : ∀ m, s.heap.Ns X.env.locals m → h'.Ns X.env.locals m) (hok : HOk X.prog X.w H' h') (hg : AllBare g') :
    Inv X pins σ H' { s with heap := h', gens := g', drawn := d', toks := t' } := by
  have neL : ∀ b o, X.s₀.heap.get? b = some o → b ≠ X.env.locals := fun b o e => Nat.ne_of_lt (Nat.lt_of_lt_of_le (Heap.lt_size e) I.ok.above)
  have neC : ∀ b o, X.s₀.heap.get? b = some o → b ∉ X.ex → b ∉ ch := fun b o e hx hb => by
    rcases (hch b hb).1 with z | z
    · exact hx z
    · exact absurd (Nat.lt_of_lt_of_le (Heap.lt_size e) z) (Nat.lt_irrefl _)
  have cellK : ∀ x c, X.env.cells.lookup x = some c → ∀ v, s.heap.IsCell c v → h'.IsCell c v := fun x c e v h_0 => by
    obtain ⟨o, ho, hd⟩ := h_0
    have nch : c ∉ ch := fun z => (hch c z).2.2.1 x c e rfl
    by_cases hc : c ∈ X.fs
    · obtain ⟨sl, q⟩ := slot c o (I.cne x c e) hc nch ho (I.freeC x c e)
      exact ⟨_, q, hd⟩
    · exact ⟨o, keep c o (I.cne x c e) hc nch ho (I.freeC x c e), hd⟩
  refine ⟨I.ok, I.os, hg, ⟨fun b o e n hb hx => ?_, fun b o e n hb hx => ?_, fun b o e n hx => ?_, fun b o e hx => ?_, fun b xs e => tups b xs (I.base.tups b xs e), fun b o xs e => frzs b o xs (I.base.frzs b o xs e), fun b ps e => ?_⟩, ?_, fun x c e => ?_, ?_, fun x c e => ?_, fun p hp => ?_, hok, I.len⟩
  · exact keep b o (neL b o e) hb (neC b o e hx) (I.base.keep b o e n hb hx) (I.base.free b o e n hx)
  · obtain ⟨sl, e1⟩ := I.base.slot b o e n hb hx
    obtain ⟨sl', e2⟩ := slot b _ (neL b o e) hb (neC b o e hx) e1 (I.base.free b o e n hx)
    exact ⟨sl', e2⟩
  · obtain ⟨o', e1⟩ := I.base.there b o e hx
    exact free b o' (neC b o e hx) e1 (I.base.free b o e n hx)
  · obtain ⟨o', e1⟩ := I.base.there b o e hx
    exact there b o' (neC b o e hx) e1
  · obtain ⟨m1, e1⟩ := I.base.tbls b ps e
    obtain ⟨m2, e2⟩ := tbls b _ e1
    exact ⟨m1 ++ m2, by rw [e2, Array.append_assoc]⟩
  · obtain ⟨m, hn, hl⟩ := I.loc
    refine ⟨m, ns m hn, fun i x v e1 e2 e3 => ?_⟩
    obtain ⟨u, r, l⟩ := hl i x v e1 e2 e3
    refine ⟨u, r, ?_⟩
    rcases l with l | ⟨k, c, e, z⟩
    · exact .inl l
    · exact .inr ⟨k, c, e, cellK x c e _ z⟩
  · obtain ⟨v, z⟩ := I.cell x c e
    exact ⟨v, cellK x c e v z⟩
  · obtain ⟨m, ⟨o, _, _, ho, _⟩, _⟩ := I.loc
    exact free _ o (fun z => (hch _ z).2.1 rfl) ho I.free
  · obtain ⟨v, o, ho, hd⟩ := I.cell x c e
    exact free c o (fun z => (hch c z).2.2.1 x c e rfl) ho (I.freeC x c e)
  · obtain ⟨e, n, ne, nf, d⟩ := I.pin p hp
    have nch : p.1 ∉ ch := fun z => (hch p.1 z).2.2.2 p hp rfl
    exact ⟨keep p.1 p.2 ne nf nch e n, free p.1 p.2 nch e n, ne, nf, d⟩
theorem Inv.un {t' : Nat} (I : Inv X pins σ H s) (u : Un X.fs [] H H' s.heap h') (hok : HOk X.prog X.w H' h') : Inv X pins σ H' { s with heap := h', toks := t' } := by
  obtain ⟨m, ⟨o, es, ep, ho, r⟩, _⟩ := id I.loc
  obtain ⟨sl, hL⟩ := u.any ho I.free (by simp)
  exact I.step (g' := s.gens) (d' := s.drawn) (ch := []) (fun _ z => nomatch z) (fun b o _ hb _ e n => u.keep b o e n hb (by simp)) (fun b o _ hb _ e n => u.slot b o e n hb (by simp)) (fun b o _ e n => u.free b o e n (by simp)) (fun b o _ e => u.there b o e (by simp)) u.tups u.frzs u.tbls (fun m' hm => by
    obtain ⟨o', es', ep', ho', r'⟩ := hm
    rw [ho] at ho'; cases ho'
    exact ⟨_, es', ep', hL, r'⟩) hok I.bare
theorem Inv.call {g' : Array GenState} {t' : Nat} {d' : Drawn} {ch : List Addr} (I : Inv X pins σ H s) (u : Un (frs X.stack) ch H H' s.heap h') (hok : HOk X.prog X.w H' h') (hg : AllBare g')
    (hch : ∀ b ∈ ch, (b ∈ X.ex ∨ X.s₀.heap.objs.size ≤ b) ∧ b ≠ X.env.locals ∧ (∀ x c, X.env.cells.lookup x = some c → c ≠ b) ∧ ∀ p ∈ X.pn ++ pins, p.1 ≠ b) :
    Inv X pins σ H' { s with heap := h', gens := g', drawn := d', toks := t' } := by
  obtain ⟨m, ⟨o, es, ep, ho, r⟩, _⟩ := id I.loc
  obtain ⟨sl, hL⟩ := u.any ho I.free fun z => (hch _ z).2.1 rfl
  exact I.step (ch := ch) hch (fun b o hL hb hc e n => u.keep b o e n (fun z => (List.mem_cons.mp (I.stkSub b z)).elim hL hb) hc) (fun b o _ _ hc e n => u.any e n hc) (fun b o hc e n => u.free b o e n hc) (fun b o hc e => u.there b o e hc) u.tups u.frzs u.tbls (fun m' hm => by
    obtain ⟨o', es', ep', ho', r'⟩ := hm
    rw [ho] at ho'; cases ho'
    exact ⟨_, es', ep', hL, r'⟩) hok hg
theorem Inv.turned {t' : Nat} {it : Addr} (I : Inv X pins σ H s) (k : ∀ b o, b ≠ it → s.heap.get? b = some o → h'.get? b = some o) (hn : H it = none) (hL : it ≠ X.env.locals)
    (h1 : it ∈ X.ex ∨ X.s₀.heap.objs.size ≤ it) (h2 : ∀ x c, X.env.cells.lookup x = some c → c ≠ it) (h3 : ∀ p ∈ X.pn ++ pins, p.1 ≠ it) : Inv X pins σ H { s with heap := h', toks := t' } := by
  have nit : ∀ b u, H b = some u → b ≠ it := fun b u e z => by rw [z, hn] at e; cases e
  refine I.step (g' := s.gens) (d' := s.drawn) (ch := [it]) (fun b hb => ?_) (fun b o _ _ hc e _ => k b o (fun z => hc (by simp [z])) e) (fun b o _ _ hc e _ => ⟨o.slots, k b o (fun z => hc (by simp [z])) e⟩) (fun _ _ _ _ n => n)
    (fun b o hc e => ⟨o, k b o (fun z => hc (by simp [z])) e⟩) (fun _ _ e => e) (fun _ _ _ e => e) (fun b ps e => ⟨#[], by rw [e]; simp⟩) (fun m hm => ?_) (fun b u e => ?_) I.bare
  · have e : b = it := by simpa using hb
    subst e
    exact ⟨h1, hL, h2, h3⟩
  · obtain ⟨o, es, ep, ho, r⟩ := hm
    exact ⟨o, es, ep, k _ o (Ne.symm hL) ho, r⟩
  · refine (I.hok b u e).stay (fun c v hc q => k c v ?_ q) (fun _ q => q) fun _ _ q => q
    rcases hc with z | z
    · rw [z]; exact nit b u e
    · exact nit c _ z
theorem Inv.tok (I : Inv X pins σ H s) (t : Nat) : Inv X pins σ H { s with toks := t } := I.un (h' := s.heap) (t' := t) Un.refl I.hok
theorem Inv.kept {t' : Nat} (I : Inv X pins σ H s) (k : ∀ b u, s.heap.get? b = some u → h'.get? b = some u) : Inv X pins σ H { s with heap := h', toks := t' } := I.un (Un.kept k) (I.hok.kept k)
theorem Inv.laid {a : Addr} {o : HO} {t' : Nat} (I : Inv X pins σ H s) (k : ∀ b u, s.heap.get? b = some u → h'.get? b = some u) (hp : s.heap.objs.size ≤ a) (new : ObjOk X.prog X.w (upd H a o) h' a o) :
    Inv X pins σ (upd H a o) { s with heap := h', toks := t' } := I.un (Un.laid k hp (I.hok.fresh hp)) (I.hok.laid k hp new)
theorem Inv.write {x e : Addr} {o : HO} {t' : Nat} (I : Inv X pins σ H s) (mu : Mut (H x)) (he : e = x ∨ H e = some (.own x)) (k : ∀ b u, b ≠ e → s.heap.get? b = some u → h'.get? b = some u) (heo : ∃ u, h'.get? e = some u)
    (new : ObjOk X.prog X.w (upd H x o) h' x o) : Inv X pins σ (upd H x o) { s with heap := h', toks := t' } := I.un (Un.write mu he k heo) (I.hok.write mu he k heo new)
theorem Inv.pins_of {pins' : List (Addr × Obj)} (I : Inv X pins σ H s) (h : ∀ p ∈ pins', s.heap.get? p.1 = some p.2 ∧ H p.1 = none ∧ p.1 ≠ X.env.locals ∧ p.1 ∉ X.fs ∧ ∀ v, p.2.data ≠ .cell v) : Inv X pins' σ H s :=
  ⟨I.ok, I.os, I.bare, I.base, I.loc, I.cell, I.free, I.freeC, fun p hp => (List.mem_append.mp hp).elim (fun z => I.pin p (List.mem_append_left _ z)) (h p), I.hok, I.len⟩
theorem nodup_ix {N : List Str} (hN : N.Nodup) {i j : Nat} {x : Str} (a : N[i]? = some x) (b : N[j]? = some x) : i = j := by
  obtain ⟨h1, e1⟩ := List.getElem?_eq_some_iff.mp a
  obtain ⟨h2, e2⟩ := List.getElem?_eq_some_iff.mp b
  exact (List.getElem_inj hN).mp (e1.trans e2.symm)
theorem store_ok2 {M : Model} {A : Around} {E : Value → Shared → Prop} {i : Nat} {x : Str} {v : V} {u : Value} {Q : Unit → Shared → Prop} (I : Inv X pins σ H s) (hN : X.N.Nodup) (hi : X.N[i]? = some x) (hx : Loc X.env.scope x) (r : RelV v u)
    (h : ∀ s', Inv X pins (σ.set i (some v)) H s' → (∃ a, Heap.SameBut a s.heap s'.heap ∧ (a = X.env.locals ∨ X.env.cells.lookup x = some a)) → Q () s') (hf : X.fn x = true ∨ X.env.scope.names.lookup x = some .local := by first | exact .inl rfl | exact .inr rfl | assumption) : wpAny M A (storeName X.env x u) Q E s := by
  obtain ⟨m, hn, hl⟩ := id I.loc
  have hcls : (X.env.scope.kind == .class || (X.env.scope.kind == .module && X.env.locals != X.env.globals)) = false := by rw [I.ok.kind]; rfl
  have hiσ : i < σ.length := by rw [I.len]; exact (List.getElem?_eq_some_iff.mp hi).1
  have cne := I.cne
  have tracked : ∀ {a : Addr} {h' : Heap}, (∃ o, s.heap.get? a = some o ∧ H a = none) → Heap.SameBut a s.heap h' → HOk X.prog X.w H h' := fun {a h'} ha hs b ob e => by
    obtain ⟨_, _, hfree⟩ := ha
    refine (I.hok b ob e).stay (fun c w' hc q => (hs.2 c ?_).trans q) (fun _ q => q) fun _ _ q => q
    rintro rfl
    rcases hc with rfl | hc
    · rw [hfree] at e; cases e
    · rw [hfree] at hc; cases hc
  rcases hx with hk | hk
  · refine wpAny_storeName_local hk hn (fun h' hn' hs => ?_) hcls
    obtain ⟨oL, _, _, hoL, _⟩ := id hn
    refine h _ ⟨I.ok, I.os, I.bare, ⟨fun b o e n hb hx => ?_, fun b o e n hb hx => ?_, I.base.free, fun b o e hx => ?_, I.base.tups, I.base.frzs, I.base.tbls⟩, ⟨_, hn', fun j y v' e1 e2 e3 => ?_⟩, fun y c e => ?_, I.free, I.freeC, fun p hp => ?_, tracked ⟨oL, hoL, I.free⟩ hs, by simpa using I.len⟩ ⟨_, hs, .inl rfl⟩
    · exact (hs.2 b (Nat.ne_of_lt (Nat.lt_of_lt_of_le (Heap.lt_size e) I.ok.above))).trans (I.base.keep b o e n hb hx)
    · obtain ⟨sl, e1⟩ := I.base.slot b o e n hb hx
      exact ⟨sl, (hs.2 b (Nat.ne_of_lt (Nat.lt_of_lt_of_le (Heap.lt_size e) I.ok.above))).trans e1⟩
    · obtain ⟨o', e1⟩ := I.base.there b o e hx
      exact ⟨o', (hs.2 b (Nat.ne_of_lt (Nat.lt_of_lt_of_le (Heap.lt_size e) I.ok.above))).trans e1⟩
    · by_cases hj : j = i
      · subst hj
        rw [hi] at e1; cases e1
        rw [List.getElem?_set_self hiσ] at e2
        cases e2
        exact ⟨u, r, .inl ⟨hk, by simp⟩⟩
      · rw [List.getElem?_set_ne (Ne.symm hj)] at e2
        obtain ⟨u', r', q⟩ := hl j y v' e1 e2 e3
        refine ⟨u', r', ?_⟩
        rcases q with ⟨k, e⟩ | ⟨k, c, e, z⟩
        · refine .inl ⟨k, ?_⟩
          have : y ≠ x := fun e => hj (nodup_ix hN e1 (e ▸ hi))
          simp [this, e]
        · exact .inr ⟨k, c, e, z.sameBut hs (cne y c e)⟩
    · obtain ⟨w', z⟩ := I.cell y c e
      exact ⟨w', z.sameBut hs (cne y c e)⟩
    · obtain ⟨e, n, ne, nf, d⟩ := I.pin p hp
      exact ⟨(hs.2 p.1 ne).trans e, n, ne, nf, d⟩
  · have hfn : X.fn x = true := by
      rcases hf with z | z
      · exact z
      · rw [z] at hk; cases hk
    obtain ⟨c, hc⟩ := I.ok.has x (.inl hk)
    obtain ⟨w', z⟩ := I.cell x c hc
    refine wpAny_storeName_cell I.ok.kind hk hc z (fun h' hc' hs => ?_)
    obtain ⟨oc, hoc, hocd⟩ := id z
    refine h { s with heap := h' } ⟨I.ok, I.os, I.bare, ⟨fun b o e n hb hx => ?_, fun b o e n hb hx => ?_, I.base.free, fun b o e hx => ?_, I.base.tups, I.base.frzs, I.base.tbls⟩, ⟨m, hn.sameBut hs (Ne.symm (cne x c hc)), fun j y v' e1 e2 e3 => ?_⟩, fun y c' e => ?_, I.free, I.freeC, fun p hp => ?_, tracked ⟨oc, hoc, I.freeC x c hc⟩ hs, by simpa using I.len⟩ ⟨c, hs, .inr hc⟩
    · exact (hs.2 b (Nat.ne_of_lt (Nat.lt_of_lt_of_le (Heap.lt_size e) (I.ok.cab x c hfn hc)))).trans (I.base.keep b o e n hb hx)
    · obtain ⟨sl, e1⟩ := I.base.slot b o e n hb hx
      exact ⟨sl, (hs.2 b (Nat.ne_of_lt (Nat.lt_of_lt_of_le (Heap.lt_size e) (I.ok.cab x c hfn hc)))).trans e1⟩
    · obtain ⟨o', e1⟩ := I.base.there b o e hx
      exact ⟨o', (hs.2 b (Nat.ne_of_lt (Nat.lt_of_lt_of_le (Heap.lt_size e) (I.ok.cab x c hfn hc)))).trans e1⟩
    · by_cases hj : j = i
      · subst hj
        rw [hi] at e1; cases e1
        rw [List.getElem?_set_self hiσ] at e2
        cases e2
        exact ⟨u, r, .inr ⟨.inl hk, c, hc, hc'⟩⟩
      · rw [List.getElem?_set_ne (Ne.symm hj)] at e2
        obtain ⟨u', r', q⟩ := hl j y v' e1 e2 e3
        refine ⟨u', r', ?_⟩
        rcases q with q | ⟨k, c', e, z'⟩
        · exact .inl q
        · refine .inr ⟨k, c', e, z'.sameBut hs ?_⟩
          rintro rfl
          exact hj (nodup_ix hN e1 (I.ok.inj _ _ _ e hc ▸ hi))
    · by_cases hcc : c' = c
      · subst hcc; exact ⟨_, hc'⟩
      · obtain ⟨w2, z2⟩ := I.cell y c' e
        exact ⟨w2, z2.sameBut hs hcc⟩
    · obtain ⟨e, n, ne, nf, d⟩ := I.pin p hp
      refine ⟨(hs.2 p.1 ?_).trans e, n, ne, nf, d⟩
      intro q
      rw [q, hoc] at e
      have q' : oc = p.2 := Option.some.inj e
      exact d w' (by rw [← q']; exact hocd)
theorem store_ok {M : Model} {A : Around} {E : Value → Shared → Prop} {i : Nat} {x : Str} {v : V} {u : Value} {Q : Unit → Shared → Prop} (I : Inv X pins σ H s) (hN : X.N.Nodup) (hi : X.N[i]? = some x) (hx : Loc X.env.scope x) (r : RelV v u)
    (h : ∀ s', Inv X pins (σ.set i (some v)) H s' → Q () s') (hf : X.fn x = true ∨ X.env.scope.names.lookup x = some .local := by first | exact .inl rfl | exact .inr rfl | assumption) : wpAny M A (storeName X.env x u) Q E s :=
  store_ok2 I hN hi hx r (fun s' I' _ => h s' I') hf
theorem Inv.call' {s' : Shared} {ch : List Addr} (I : Inv X pins σ H s) (ho : s'.os = s.os) (u : Un (frs X.stack) ch H H' s.heap s'.heap) (hok : HOk X.prog X.w H' s'.heap) (hg : AllBare s'.gens)
    (hch : ∀ b ∈ ch, (b ∈ X.ex ∨ X.s₀.heap.objs.size ≤ b) ∧ b ≠ X.env.locals ∧ (∀ x c, X.env.cells.lookup x = some c → c ≠ b) ∧ ∀ p ∈ X.pn ++ pins, p.1 ≠ b) : Inv X pins σ H' s' := by
  obtain ⟨h', g', d', t', o'⟩ := s'
  have e : o' = s.os := ho
  subst e
  exact I.call (g' := g') (t' := t') (d' := d') u hok hg hch
end
noncomputable abbrev XK := Value → Option Addr → Hp → Prop
noncomputable abbrev St := List (Option V)
noncomputable abbrev VK := V → Hp → Prop
noncomputable abbrev TE := St → Hp → VK → Prop
noncomputable abbrev TT := St → Hp → (Bool → Hp → Prop) → Prop
noncomputable abbrev TA := St → Hp → (List V → Hp → Prop) → Prop
structure Ends where
  nx : St → Hp → Prop
  rt : VK
  bk : St → Hp → Prop := fun _ _ => False
  ct : St → Hp → Prop := fun _ _ => False
noncomputable abbrev TS := Ends → St → Hp → Prop
noncomputable def EP (X : Cx) (pins : List (Addr × Obj)) (σ : St) (Q : VK) (u : Value) (s' : Shared) : Prop := ∃ v H', Inv X pins σ H' s' ∧ RelV v u ∧ Q v H'
noncomputable def TP (X : Cx) (pins : List (Addr × Obj)) (σ : St) (Q : Bool → Hp → Prop) (b : Bool) (s' : Shared) : Prop := ∃ H', Inv X pins σ H' s' ∧ Q b H'
noncomputable def AP (X : Cx) (pins : List (Addr × Obj)) (σ : St) (Q : List V → Hp → Prop) (us : List Value) (s' : Shared) : Prop := ∃ vs H', Inv X pins σ H' s' ∧ Vals vs us ∧ Q vs H'
noncomputable def SP (X : Cx) (pins : List (Addr × Obj)) (D : Ends) (f : Flow) (s' : Shared) : Prop :=
  match f with
  | .next => ∃ σ' H', Inv X pins σ' H' s' ∧ D.nx σ' H'
  | .brk => ∃ σ' H', Inv X pins σ' H' s' ∧ D.bk σ' H'
  | .cont => ∃ σ' H', Inv X pins σ' H' s' ∧ D.ct σ' H'
  | .ret u => ∃ v σ' H', Inv X pins σ' H' s' ∧ RelV v u ∧ D.rt v H'
noncomputable def PE (X : Cx) (e : Expr) (t : TE) : Prop :=
  ∀ (pins : List (Addr × Obj)) (s : Shared) (σ : St) (H : Hp) (Q : VK), Inv X pins σ H s → t σ H Q → wpAny (model X.prog X.w) X.A (eval e X.env) (EP X pins σ Q) X.xe s
noncomputable def PT (X : Cx) (e : Expr) (t : TT) : Prop :=
  ∀ (pins : List (Addr × Obj)) (s : Shared) (σ : St) (H : Hp) (Q : Bool → Hp → Prop), Inv X pins σ H s → t σ H Q → wpAny (model X.prog X.w) X.A (isTrue e X.env (eval e X.env)) (TP X pins σ Q) X.xe s
noncomputable def PW (X : Cx) (e : Expr) (t : TT) : Prop :=
  ∀ (whole : Sem Value) (pins : List (Addr × Obj)) (s : Shared) (σ : St) (H : Hp) (Q : Bool → Hp → Prop), Inv X pins σ H s → t σ H Q → wpAny (model X.prog X.w) X.A (isTrue e X.env whole) (TP X pins σ Q) X.xe s
theorem PW.pt {X : Cx} {e : Expr} {t : TT} (h : PW X e t) : PT X e t := h _
noncomputable def PA (X : Cx) (es : List Expr) (t : TA) : Prop :=
  ∀ (pos : Pos) (pins : List (Addr × Obj)) (s : Shared) (σ : St) (H : Hp) (Q : List V → Hp → Prop), Inv X pins σ H s → t σ H Q → wpAny (model X.prog X.w) X.A (spliced (backTo pos (starEach es X.env))) (AP X pins σ Q) X.xe s
noncomputable def PS (X : Cx) (st : Stmt) (t : TS) : Prop :=
  ∀ (pins : List (Addr × Obj)) (s : Shared) (σ : St) (H : Hp) (D : Ends), Inv X pins σ H s → t D σ H → wpAny (model X.prog X.w) X.A (exec st X.env) (SP X pins D) X.xe s
noncomputable def PSs (X : Cx) (st : List Stmt) (t : TS) : Prop :=
  ∀ (pins : List (Addr × Obj)) (s : Shared) (σ : St) (H : Hp) (D : Ends), Inv X pins σ H s → t D σ H → wpAny (model X.prog X.w) X.A (execs st X.env) (SP X pins D) X.xe s
theorem thn {α : Type} {t : Sem α} {Q Q' : α → Shared → Prop} {M : Model} {A : Around} {E : Value → Shared → Prop} {s : Shared} (h : wpAny M A t Q E s) (hQ : ∀ a s, Q a s → Q' a s) : wpAny M A t Q' E s := wpAny_mono h hQ fun _ _ x => x
end L2
namespace L2
open PySem PySem.Spec PyProof.Rows
section
variable {X : Cx}
noncomputable def tVar (i : Nat) : TE := fun σ H Q => ∃ v, σ[i]? = some (some v) ∧ Q v H
noncomputable def tC (v : V) : TE := fun _ H Q => Q v H
theorem pe_var {i : Nat} {x : Str} {pos : Pos} (hN : X.N[i]? = some x) (hv : Vis X.env.scope x) (hd : (x == ("__debug__" : Str)) = false := by decide) (hcd : (x == ("__classdict__" : Str)) = false := by decide) : PE X (.Name x pos) (tVar i) := by
  intro pins s σ H Q I h
  obtain ⟨v, e, h⟩ := h
  obtain ⟨m, hn, hl⟩ := I.loc
  obtain ⟨u, r, l⟩ := hl i x v hN e hv
  have fin : EP X pins σ Q u s := ⟨v, H, I, r, h⟩
  rcases l with ⟨hk, hm⟩ | ⟨hk, c, hc, hcell⟩
  · exact wpAny_Name (wpAny_loadName_local I.ok.kind hk hn hm fin) hd
  · rcases hk with hk | hk
    · exact wpAny_Name (wpAny_loadName_cell I.ok.kind hk hc hcell fin) hd
    · exact wpAny_Name (wpAny_loadName_free I.ok.kind hk hc hcell fin hcd) hd
theorem pe_int {i j pos} : PE X (.Constant (.int i) j pos) (tC (.int i)) := fun _ _ _ H _ I h => wpAny_Constant_int ⟨.int i, H, I.tok _, ⟨_, rfl⟩, h⟩
theorem pe_bl {b j pos} : PE X (.Constant (.bool b) j pos) (tC (.bl b)) := fun _ _ _ H _ I h => Constant_bool ⟨.bl b, H, I, rfl, h⟩
theorem pe_non {j pos} : PE X (.Constant .none j pos) (tC .non) := fun _ _ _ H _ I h => Constant_none ⟨.non, H, I, rfl, h⟩
theorem pe_str {x j pos} : PE X (.Constant (.str x) j pos) (tC (.str x)) := fun _ _ _ H _ I h => Calls.Constant_str ⟨.str x, H, I.tok _, ⟨_, rfl⟩, h⟩
noncomputable def Gl (X : Cx) (x : Str) : Prop := X.env.kindOf x = some .globalImplicit
theorem ld_glob {E : Value → Shared → Prop} {pins : List (Addr × Obj)} {s : Shared} {σ : St} {H : Hp} {x : Str} {u : Value} {pos : Pos} {Q : Value → Shared → Prop} (I : Inv X pins σ H s) (hg : Gl X x) (hm : X.mg x = some u) (h : Q u s)
    (hd : (x == ("__debug__" : Str)) = false := by decide) : wpAny (model X.prog X.w) X.A (eval (.Name x pos) X.env) Q E s :=
  Calls.Name_function_global I.ok.kind hg (Calls.loadGlobal_global (by rw [I.ok.glob]; exact I.mod.glob.keeps I.bk) hm h) hd
theorem ld_blt {E : Value → Shared → Prop} {pins : List (Addr × Obj)} {s : Shared} {σ : St} {H : Hp} {x : Str} {u : Value} {pos : Pos} {Q : Value → Shared → Prop} (I : Inv X pins σ H s) (hg : Gl X x) (hm : X.mg x = none) (hv : bootBuiltins x = some u) (h : Q u s)
    (hn : x ≠ "__name__" := by decide) (hd : (x == ("__debug__" : Str)) = false := by decide) : wpAny (model X.prog X.w) X.A (eval (.Name x pos) X.env) Q E s := by
  obtain ⟨mb, h1, h2⟩ := I.mod.blt
  exact Calls.Name_function_global I.ok.kind hg (Calls.loadGlobal_builtin (by rw [I.ok.glob]; exact I.mod.glob.keeps I.bk) hm (by rw [I.ok.blt]; exact h1.keeps I.bk) ((h2 x hn).trans hv) h) hd
theorem pe_glob {x : Str} {v : V} {u : Value} {pos : Pos} (hg : Gl X x) (hm : X.mg x = some u) (r : RelV v u) (hd : (x == ("__debug__" : Str)) = false := by decide) : PE X (.Name x pos) (tC v) :=
  fun _ _ _ H _ I h => ld_glob I hg hm ⟨v, H, I, r, h⟩ hd
theorem pe_bltn {x : Str} {v : V} {u : Value} {pos : Pos} (hg : Gl X x) (hm : X.mg x = none) (hv : bootBuiltins x = some u) (r : RelV v u) (hn : x ≠ "__name__" := by decide) (hd : (x == ("__debug__" : Str)) = false := by decide) : PE X (.Name x pos) (tC v) :=
  fun _ _ _ H _ I h => ld_blt I hg hm hv ⟨v, H, I, r, h⟩ hn hd
variable {a b : Expr} {ta tb : TE} {pos : Pos}
noncomputable def tB (t : TE) : TT := fun σ H Q => t σ H fun x H1 => ∃ c, x = .bl c ∧ Q c H1
theorem pt_val {e : Expr} {t : TE} (h : PE X e t) (he : ∀ whole, isTrue e X.env whole = (do let v ← whole; standAt e.pos; holding [v] (truthy v)) := by intro _; rfl) : PT X e (tB t) := by
  intro pins s σ H Q I hw
  refine isTrue_plain (thn (h pins s σ H _ I hw) fun v s1 h_0 => ?_) (he _)
  obtain ⟨x, H1, I1, r1, q1⟩ := h_0
  obtain ⟨d, rfl, q⟩ := q1
  cases r1
  exact wpAny_truthy_bool ⟨H1, I1, q⟩
variable {tA tB' : TT} {rest : List Expr}
noncomputable def tOr (t u : TT) : TT := fun σ H Q => t σ H fun c H1 => if c = true then Q true H1 else u σ H1 Q
noncomputable def tNot (t : TT) : TT := fun σ H Q => t σ H fun c H1 => Q (!c) H1
theorem pw_or1 (ha : PT X a tA) : PW X (.BoolOp .Or [a] pos) tA := by
  intro wh pins s σ H Q I h
  refine isTrue_or (thn (ha pins s σ H Q I h) fun c s1 e => ?_)
  cases c with
  | false => exact isTrue_or_nil e
  | true => exact e
theorem pw_or (ha : PT X a tA) (hb : PW X (.BoolOp .Or (b :: rest) pos) tB') : PW X (.BoolOp .Or (a :: b :: rest) pos) (tOr tA tB') := by
  intro wh pins s σ H Q I h
  refine isTrue_or (thn (ha pins s σ H _ I h) fun c s1 h_0 => ?_)
  obtain ⟨H1, I1, q1⟩ := h_0
  cases c with
  | true => exact ⟨H1, I1, q1⟩
  | false => exact hb wh pins s1 σ H1 Q I1 q1
theorem pt_not (ha : PT X a tA) : PT X (.UnaryOp .Not a pos) (tNot tA) := by
  intro pins s σ H Q I h
  exact isTrue_not (ha pins s σ H (fun c H1 => Q (!c) H1) I h)
noncomputable def tAndV (ta tb : TE) : TE := fun σ H Q => ta σ H fun x H1 => ∃ c, x = .bl c ∧ if c = true then tb σ H1 Q else Q (.bl false) H1
noncomputable def tNotV (ta : TE) : TE := fun σ H Q => ta σ H fun x H1 => ∃ c, x = .bl c ∧ Q (.bl (!c)) H1
theorem pe_one {op} {t : TE} (h : PE X a t) : PE X (.BoolOp op [a] pos) t := fun pins s σ H Q I hw => BoolOp_one (h pins s σ H Q I hw)
theorem pe_and (ha : PE X a ta) (hb : PE X (.BoolOp .And (b :: rest) pos) tb) : PE X (.BoolOp .And (a :: b :: rest) pos) (tAndV ta tb) := by
  intro pins s σ H Q I h
  refine BoolOp_and (thn (ha pins s σ H _ I h) fun v s1 h_0 => ?_)
  obtain ⟨x, H1, I1, r1, q1⟩ := h_0
  obtain ⟨c, rfl, q1⟩ := q1
  cases r1
  refine wpAny_truthy_bool ?_
  cases c with
  | true => exact hb pins s1 σ H1 Q I1 q1
  | false => exact ⟨.bl false, H1, I1, rfl, q1⟩
theorem pe_not (ha : PE X a ta) : PE X (.UnaryOp .Not a pos) (tNotV ta) := by
  intro pins s σ H Q I h
  refine UnaryOp_ (thn (ha pins s σ H _ I h) fun v s1 h_0 => ?_)
  obtain ⟨x, H1, I1, r1, q1⟩ := h_0
  obtain ⟨c, rfl, q1⟩ := q1
  cases r1
  exact not_of (wpAny_truthy_bool ⟨.bl (!c), H1, I1, rfl, q1⟩)
noncomputable def tIf (t : TT) (ta tb : TE) : TE := fun σ H Q => t σ H fun c H1 => if c = true then ta σ H1 Q else tb σ H1 Q
theorem pe_ifExp {c : Expr} (hc : PT X c tA) (ha : PE X a ta) (hb : PE X b tb) : PE X (.IfExp c a b pos) (tIf tA ta tb) := by
  intro pins s σ H Q I h
  refine wpAny_IfExp (thn (hc pins s σ H _ I h) fun d s1 h_0 => ?_)
  obtain ⟨H1, I1, q1⟩ := h_0
  cases d with
  | true => exact ha pins s1 σ H1 Q I1 q1
  | false => exact hb pins s1 σ H1 Q I1 q1
end
end L2
namespace L2
open PySem PySem.Spec PyProof.Rows
noncomputable def SqL (K : PySem.W.Frag) (H : Hp) (a : Addr) (xs : List V) : Prop :=
  Rd H a (.lst xs) ∨
    ∃ (o : Obj) (its : Array Value) (n : Nat), K.lookup a = some o ∧ o.cls = .type "list" ∧ o.dict = none ∧ o.data = .seq its n ∧ its.size ≤ sizeLine ∧ Vals xs its.toList
noncomputable def SqT (K : PySem.W.Frag) (H : Hp) (a : Addr) (xs : List V) : Prop :=
  Rd H a (.tup xs) ∨
    ∃ (o : Obj) (its : Array Value) (n : Nat), K.lookup a = some o ∧ o.cls = .type "tuple" ∧ o.data = .seq its n ∧ its.size ≤ sizeLine ∧ Vals xs its.toList
noncomputable def absV : Value → Option V
  | .none => some .non
  | .bool b => some (.bl b)
  | .int i _ => some (.int i)
  | .str x _ => some (.str x)
  | .bytes b _ => some (.byt b)
  | .float b _ => some (.flt b)
  | .ref a => some (.ref a)
  | .type n => some (.ty n)
  | _ => none
theorem RelV.abs {x : V} {u : Value} (r : RelV x u) : absV u = some x := by
  cases x with
  | non => cases r; rfl
  | bl _ => cases r; rfl
  | int _ => obtain ⟨t, rfl⟩ := r; rfl
  | str _ => obtain ⟨t, rfl⟩ := r; rfl
  | byt _ => obtain ⟨t, rfl⟩ := r; rfl
  | flt _ => obtain ⟨t, rfl⟩ := r; rfl
  | ref _ => cases r; rfl
  | ty _ => cases r; rfl
theorem RelV.inj {x y : V} {u : Value} (r : RelV x u) (q : RelV y u) : x = y := Option.some.inj (r.abs.symm.trans q.abs)
theorem Vals.inj : ∀ {xs ys : List V} {us : List Value}, Vals xs us → Vals ys us → xs = ys
  | _, _, _, .nil, .nil => rfl
  | _, _, _, .cons r t, .cons r' t' => by rw [r.inj r', Vals.inj t t']
section
variable {X : Cx} {pins : List (Addr × Obj)} {σ : St} {H : Hp} {s : Shared} {a : Addr} {xs ys : List V}
theorem Inv.list (I : Inv X pins σ H s) (h : SqL X.K H a xs) : ∃ its : List Value, Vals xs its ∧ PlainL s.heap a its.toArray ∧ xs.length ≤ sizeLine := by
  rcases h with h | ⟨o, its, n, hk, hc, hd, hs, hz, r⟩
  · obtain ⟨z, its, n, r, e⟩ := h.ok I.hok
    exact ⟨its, r, ⟨_, n, e, rfl, rfl, rfl⟩, z⟩
  · refine ⟨its.toList, r, ⟨o, n, I.kIn a o hk, hc, hd, by simpa using hs⟩, ?_⟩
    have e := r.length
    simp only [Array.length_toList] at e
    omega
theorem Inv.tuple (I : Inv X pins σ H s) (h : SqT X.K H a xs) : ∃ its : List Value, Vals xs its ∧ IsTup s.heap a its.toArray ∧ xs.length ≤ sizeLine := by
  rcases h with h | ⟨o, its, n, hk, hc, hs, hz, r⟩
  · obtain ⟨z, its, r, p⟩ := h.ok I.hok
    exact ⟨its, r, p, z⟩
  · refine ⟨its.toList, r, ⟨o, I.kIn a o hk, hc, n, by simpa using hs⟩, ?_⟩
    have e := r.length
    simp only [Array.length_toList] at e
    omega
theorem Inv.list_inj (I : Inv X pins σ H s) (h : SqL X.K H a xs) (h' : SqL X.K H a ys) : xs = ys := by
  obtain ⟨its, r, ⟨o, n, e, _, _, d⟩, _⟩ := I.list h
  obtain ⟨its', r', ⟨o', n', e', _, _, d'⟩, _⟩ := I.list h'
  rw [e] at e'; cases e'
  rw [d] at d'
  injection d' with d1 _
  have : its = its' := by simpa using congrArg Array.toList d1
  subst this
  exact r.inj r'
theorem Inv.tuple_inj (I : Inv X pins σ H s) (h : SqT X.K H a xs) (h' : SqT X.K H a ys) : xs = ys := by
  obtain ⟨its, r, ⟨o, e, _, n, d⟩, _⟩ := I.tuple h
  obtain ⟨its', r', ⟨o', e', _, n', d'⟩, _⟩ := I.tuple h'
  rw [e] at e'; cases e'
  rw [d] at d'
  injection d' with d1 _
  have : its = its' := by simpa using congrArg Array.toList d1
  subst this
  exact r.inj r'
end
noncomputable abbrev Cx.wish (X : Cx) (E : Value → Shared → Prop) : Cx := { X with xe := E }
noncomputable abbrev Cx.nox (X : Cx) : Cx := X.wish fun _ _ => False
theorem Cx.Ok.wish {X : Cx} (ok : X.Ok) (E : Value → Shared → Prop) : (X.wish E).Ok :=
  ⟨ok.mod, ok.kind, ok.glob, ok.blt, ok.above, ok.inj, ok.has, ok.cab, ok.hd, ok.frames, ok.stk, ok.exf, ok.bs, ok.bsz, ok.noex, ok.exfs, ok.funs, ok.frf⟩
theorem Cx.Ok.unwish {X : Cx} {E : Value → Shared → Prop} (ok : (X.wish E).Ok) : X.Ok :=
  ⟨ok.mod, ok.kind, ok.glob, ok.blt, ok.above, ok.inj, ok.has, ok.cab, ok.hd, ok.frames, ok.stk, ok.exf, ok.bs, ok.bsz, ok.noex, ok.exfs, ok.funs, ok.frf⟩
section
variable {X : Cx} {pins : List (Addr × Obj)} {σ : St} {H : Hp} {s : Shared} {E : Value → Shared → Prop}
theorem Inv.wish (I : Inv X pins σ H s) (E : Value → Shared → Prop) : Inv (X.wish E) pins σ H s := ⟨I.ok.wish E, I.os, I.bare, I.base, I.loc, I.cell, I.free, I.freeC, I.pin, I.hok, I.len⟩
theorem Inv.unwish (I : Inv (X.wish E) pins σ H s) : Inv X pins σ H s := ⟨I.ok.unwish, I.os, I.bare, I.base, I.loc, I.cell, I.free, I.freeC, I.pin, I.hok, I.len⟩
theorem SP.unwish {D : Ends} {f : Flow} {s' : Shared} (h : SP (X.wish E) pins D f s') : SP X pins D f s' := by
  cases f with
  | next => obtain ⟨σ', H', I, q⟩ := h; exact ⟨σ', H', I.unwish, q⟩
  | brk => obtain ⟨σ', H', I, q⟩ := h; exact ⟨σ', H', I.unwish, q⟩
  | cont => obtain ⟨σ', H', I, q⟩ := h; exact ⟨σ', H', I.unwish, q⟩
  | ret u => obtain ⟨v, σ', H', I, r, q⟩ := h; exact ⟨v, σ', H', I.unwish, r, q⟩
theorem PT.nox {e : Expr} {t : TT} (h : PT X.nox e t) : PT X e t := fun pins s σ H Q I hw =>
  wpAny_mono (h pins s σ H Q (I.wish _) hw) (fun _ _ ⟨H', I', q⟩ => ⟨H', I'.unwish, q⟩) fun _ _ z => False.elim z
theorem PSs.nox {st : List Stmt} {t : TS} (h : PSs X.nox st t) : PSs X st t := fun pins s σ H D I hw =>
  wpAny_mono (h pins s σ H D (I.wish _) hw) (fun _ _ q => q.unwish) fun _ _ z => False.elim z
end
section
variable {X : Cx} {st : Stmt} {rest : List Stmt} {t u : TS} {e : Expr} {te : TE} {pos : Pos}
noncomputable def tNext : TS := fun D σ H => D.nx σ H
noncomputable def tSeq (t u : TS) : TS := fun D σ H => t { D with nx := u D } σ H
theorem pss_nil : PSs X [] tNext := fun _ _ σ H _ I h => wpAny_execs_nil ⟨σ, H, I, h⟩
theorem pss_cons (h1 : PS X st t) (h2 : PSs X rest u) : PSs X (st :: rest) (tSeq t u) := by
  intro pins s σ H D I h
  refine wpAny_execs_cons (thn (h1 pins s σ H { D with nx := u D } I h) fun f s1 q => ?_)
  cases f with
  | next =>
    obtain ⟨σ', H', I', q⟩ := q
    exact h2 pins s1 σ' H' D I' q
  | ret v => exact q
  | brk => exact q
  | cont => exact q
theorem pss_one (h1 : PS X st t) : PSs X [st] t := by
  intro pins s σ H D I h
  refine wpAny_execs_cons (thn (h1 pins s σ H D I h) fun f s1 q => ?_)
  cases f with
  | next => exact wpAny_execs_nil q
  | ret v => exact q
  | brk => exact q
  | cont => exact q
theorem Inv.quiet {pins : List (Addr × Obj)} {σ : St} {H : Hp} {s : Shared} (I : Inv X pins σ H s) : interactive X.env = false := by simp [interactive, I.ok.kind]
noncomputable def tDrop (te : TE) : TS := fun D σ H => te σ H fun _ H1 => D.nx σ H1
theorem ps_expr (he : PE X e te) (hs : swapsWith e none pos.line X.env = pure false := by rfl) : PS X (.Expr e pos) (tDrop te) := by
  intro pins s σ H D I h
  exact wpAny_Expr_any (thn (he pins s σ H _ I h) fun v s1 ⟨x, H1, I1, r1, q1⟩ => ⟨σ, H1, I1, q1⟩) I.quiet hs
noncomputable def tRet (te : TE) : TS := fun D σ H => te σ H D.rt
theorem ps_ret (he : PE X e te) : PS X (.Return (some e) pos) (tRet te) := by
  intro pins s σ H D I h
  exact wpAny_Return_some (thn (he pins s σ H _ I h) fun v s1 ⟨x, H1, I1, r1, q1⟩ => ⟨x, σ, H1, I1, r1, q1⟩)
noncomputable def tIfS (c : TT) (t u : TS) : TS := fun D σ H => c σ H fun b H1 => if b = true then t D σ H1 else u D σ H1
theorem ps_if {c : Expr} {a b : List Stmt} {tc : TT} (hc : PT X c tc) (ha : PSs X a t) (hb : PSs X b u) : PS X (.If c a b pos) (tIfS tc t u) := by
  intro pins s σ H D I h
  refine wpAny_If (thn (hc pins s σ H _ I h) fun d s1 h_0 => ?_)
  obtain ⟨H1, I1, q1⟩ := h_0
  cases d with
  | true => exact ha pins s1 σ H1 D I1 q1
  | false => exact hb pins s1 σ H1 D I1 q1
noncomputable def tNever : TS := fun _ _ _ => False
theorem pss_never {sts : List Stmt} : PSs X sts tNever := fun _ _ _ _ _ _ h => h.elim
end
noncomputable abbrev TG := V → St → Hp → (St → Hp → Prop) → Prop
noncomputable abbrev TGs := List V → St → Hp → (St → Hp → Prop) → Prop
noncomputable def PG (X : Cx) (target : Expr) (t : TG) : Prop :=
  ∀ (pins : List (Addr × Obj)) (s : Shared) (σ : St) (H : Hp) (v : V) (u : Value) (Q : St → Hp → Prop), Inv X pins σ H s → RelV v u → t v σ H Q →
    wpAny (model X.prog X.w) X.A (assign target X.env u) (fun _ s' => ∃ σ' H', Inv X pins σ' H' s' ∧ Q σ' H') X.xe s
noncomputable def PGs (X : Cx) (ts : List Expr) (t : TGs) : Prop :=
  ∀ (pins : List (Addr × Obj)) (s : Shared) (σ : St) (H : Hp) (vs : List V) (us : List Value) (Q : St → Hp → Prop), Inv X pins σ H s → Vals vs us → t vs σ H Q →
    wpAny (model X.prog X.w) X.A (assignInOrder ((assignEach ts X.env).map (·.2)) us) (fun _ s' => ∃ σ' H', Inv X pins σ' H' s' ∧ Q σ' H') X.xe s
noncomputable abbrev TSet := V → V → V → Hp → (Hp → Prop) → Prop
noncomputable def PSet (X : Cx) (t : TSet) : Prop :=
  ∀ (pins : List (Addr × Obj)) (s : Shared) (σ : St) (H : Hp) (o i v : V) (ov iv u : Value) (Q : Hp → Prop), Inv X pins σ H s → RelV o ov → RelV i iv → RelV v u → t o i v H Q →
    wpAny (model X.prog X.w) X.A (setItem ov iv u) (fun _ s' => ∃ H', Inv X pins σ H' s' ∧ Q H') X.xe s
section
variable {X : Cx} {pos : Pos}
noncomputable def gName (i : Nat) : TG := fun v σ H Q => Q (σ.set i (some v)) H
theorem pg_name {i : Nat} {x : Str} (hN : X.N.Nodup) (hi : X.N[i]? = some x) (hx : Loc X.env.scope x) (hf : X.fn x = true ∨ X.env.scope.names.lookup x = some .local := by first | exact .inl rfl | exact .inr rfl | assumption) : PG X (.Name x pos) (gName i) := by
  intro pins s σ H v u Q I r h
  exact wpAny_assign_Name (store_ok I hN hi hx r (fun s' I' => ⟨_, H, I', h⟩) hf)
noncomputable def gNil : TGs := fun vs σ H Q => vs = [] ∧ Q σ H
noncomputable def gCons (t : TG) (u : TGs) : TGs := fun vs σ H Q => ∃ v r, vs = v :: r ∧ t v σ H fun σ' H' => u r σ' H' Q
theorem pgs_nil : PGs X [] gNil := by
  intro pins s σ H vs us Q I r h
  obtain ⟨e, h⟩ := h
  subst e
  cases r
  exact assignInOrder_nil ⟨σ, H, I, h⟩
theorem pgs_cons {e : Expr} {es : List Expr} {t : TG} {u : TGs} (h1 : PG X e t) (h2 : PGs X es u)
    (hs : (assignEach (e :: es) X.env).map (·.2) = assign e X.env :: (assignEach es X.env).map (·.2) := by rfl) : PGs X (e :: es) (gCons t u) := by
  intro pins s σ H vs us Q I r h
  obtain ⟨v, vr, e1, h⟩ := h
  subst e1
  cases r with
  | cons r rr =>
    rw [hs]
    refine assignInOrder_cons (thn (h1 pins s σ H _ _ _ I r h) fun _ s1 h_0 => ?_)
    obtain ⟨σ1, H1, I1, q1⟩ := h_0
    exact h2 pins s1 σ1 H1 _ _ Q I1 rr q1
noncomputable def gTup (K : PySem.W.Frag) (n : Nat) (t : TGs) : TG := fun v σ H Q => ∃ a xs, v = .ref a ∧ SqT K H a xs ∧ xs.length = n ∧ t xs σ H Q
theorem pg_tup {es : List Expr} {k : Nat} {t : TGs} {n : Nat} (hc : X.calm = true) (h : PGs X es t)
    (hn : (assignEach es X.env).length = n := by rfl) (hst : (assignEach es X.env).findIdx? (·.1) = none := by rfl) : PG X (.Tuple es k pos) (gTup X.K n t) := by
  intro pins s σ H v u Q I r hw
  obtain ⟨a, xs, e1, hq, hl, hw⟩ := hw
  subst e1
  cases r
  obtain ⟨its, rv, ht, hz⟩ := I.tuple hq
  refine assign_Tuple_tuple (I.ok.hd hc) ht (by simp [hn, ← hl, rv.length]) hst fun h' hx => ?_
  have I1 : Inv X pins σ H { s with heap := h' } := I.kept (t' := s.toks) fun b o e => hx b o (Nat.ne_of_lt (Heap.lt_size e)) e
  exact h pins _ σ H xs _ Q I1 (by simpa using rv) hw
noncomputable def gSub (to ti : TE) (t : TSet) : TG := fun v σ H Q => to σ H fun o H1 => ti σ H1 fun i H2 => t o i v H2 fun H3 => Q σ H3
theorem pg_sub {o i : Expr} {to ti : TE} {t : TSet} (ho : PE X o to) (hi : PE X i ti) (hs : PSet X t)
    (ha : ∀ v, assign (.Subscript o i pos) X.env v = (do
      let ov ← holding [v] (eval o X.env)
      let iv ← holding [v, ov] (eval i X.env)
      standAt pos
      holding [v, ov, iv] (setItem ov iv v)
      release [v, ov, iv] []) := by intro _; rfl) : PG X (.Subscript o i pos) (gSub to ti t) := by
  intro pins s σ H v u Q I r h
  rw [ha]
  refine wpAny_bind (wpAny_holding (thn (ho pins s σ H _ I h) fun ov s1 h_0 => ?_))
  obtain ⟨x, H1, I1, r1, q1⟩ := h_0
  refine wpAny_bind (wpAny_holding (thn (hi pins s1 σ H1 _ I1 q1) fun iv s2 h_0 => ?_))
  obtain ⟨y, H2, I2, r2, q2⟩ := h_0
  refine wpAny_bind (wpAny_standAt (wpAny_bind (wpAny_holding (thn (hs pins s2 σ H2 x y v ov iv u _ I2 r1 r2 r q2) fun _ s3 h_0 => ?_))))
  obtain ⟨H3, I3, q3⟩ := h_0
  exact wpAny_release ⟨σ, H3, I3, q3⟩
noncomputable def tAsg (te : TE) (g : TG) : TS := fun D σ H => te σ H fun x H1 => g x σ H1 D.nx
theorem ps_asg {tg e : Expr} {te : TE} {g : TG} (he : PE X e te) (hg : PG X tg g) (hs : swapsWithSole [tg] e pos.line X.env = pure false := by rfl) (hw : swappedStores [tg] e X.env = pure none := by rfl)
    (h1 : (assignEach [tg] X.env).map (·.2) = [assign tg X.env] := by rfl) : PS X (.Assign [tg] e pos) (tAsg te g) := by
  intro pins s σ H D I h
  refine wpAny_Assign_stores (thn (he pins s σ H _ I h) fun v s1 h_0 => ?_) hs hw
  obtain ⟨x, H1, I1, r1, q1⟩ := h_0
  rw [h1]
  exact thn (hg pins s1 σ H1 x v _ I1 r1 q1) fun _ s2 q => q
theorem ps_set {i : Nat} {x : Str} {e : Expr} {te : TE} {pos' : Pos} (hN : X.N.Nodup) (hi : X.N[i]? = some x) (hx : Loc X.env.scope x) (he : PE X e te) (hs : swapsWith e (some (.Name x pos')) pos.line X.env = pure false := by rfl) (hf : X.fn x = true ∨ X.env.scope.names.lookup x = some .local := by first | exact .inl rfl | exact .inr rfl | assumption) :
    PS X (.Assign [.Name x pos'] e pos) (tAsg te (gName i)) := by
  intro pins s σ H D I h
  refine wpAny_Assign_Name (thn (he pins s σ H _ I h) fun v s1 h_0 => ?_) hs
  obtain ⟨y, H1, I1, r1, q1⟩ := h_0
  exact store_ok I1 hN hi hx r1 (fun s2 I2 => ⟨_, H1, I2, q1⟩) hf
end
section
variable {X : Cx} {pos : Pos}
end
structure It where
  go : Nat → Hp → Prop
  yld : Nat → Hp → V → Hp → Prop
  stop : Nat → Hp → Prop
noncomputable def FpOk (X : Cx) (pins : List (Addr × Obj)) (H : Hp) (b : Addr) : Prop :=
  H b = none ∧ b ≠ X.env.locals ∧ b ∉ X.fs ∧ (b ∈ X.ex ∨ X.s₀.heap.objs.size ≤ b) ∧ (∀ x c, X.env.cells.lookup x = some c → c ≠ b) ∧ ∀ p ∈ X.pn ++ pins, p.1 ≠ b
theorem Inv.fpOk {X : Cx} {pins : List (Addr × Obj)} {σ : St} {H H' : Hp} {s : Shared} {b : Addr} (I : Inv X pins σ H s) (hb : s.heap.objs.size ≤ b) (hn : H' b = none) : FpOk X pins H' b := by
  refine ⟨hn, Nat.ne_of_gt (Nat.lt_of_lt_of_le I.lt hb), I.nofs hb, .inr (Nat.le_trans I.sz hb), fun x c e z => ?_, fun p hp z => ?_⟩
  · obtain ⟨v, q⟩ := I.cell x c e
    exact absurd (Nat.lt_of_lt_of_le q.lt (by rw [z]; exact hb)) (Nat.lt_irrefl _)
  · exact absurd (Nat.lt_of_lt_of_le (Heap.lt_size (I.pin p hp).1) (by rw [z]; exact hb)) (Nat.lt_irrefl _)
structure Turn (P : Program) (w : World) (K : PySem.W.Frag) (tg : Expr) (J : It) (fp : List Addr) (it : Addr) (tn : Nat → Heap → Prop) : Prop where
  mem : it ∈ fp
  obj : ∀ i h, tn i h → ∀ b ∈ fp, ∃ o, h.get? b = some o ∧ ∀ v, o.data ≠ .cell v
  keep : ∀ i h h', tn i h → (∀ b ∈ fp, ∀ o, h.get? b = some o → h'.get? b = some o) → tn i h'
  item : ∀ (X : Cx), X.prog = P → X.w = w → X.K = K → X.calm = true → ∀ (i : Nat) (pins : List (Addr × Obj)) (s : Shared) (σ : St) (H : Hp) (E : Value → Shared → Prop), Inv X pins σ H s → (∀ b ∈ fp, FpOk X pins H b) → tn i s.heap → J.go i H →
    wpAny (model P w) X.A (pyNext (.ref it)) (fun r s1 => ∃ u, r = some u ∧
      wpAny (model P w) X.A (letOwnedTupleGo tg (.ref it) u) (fun _ s2 => ∃ x H', Inv X pins σ H' s2 ∧ RelV x u ∧ J.yld i H x H' ∧ tn (i + 1) s2.heap ∧ ∀ b ∈ fp, H' b = none) E s1) E s
  done : ∀ (X : Cx), X.prog = P → X.w = w → X.K = K → X.calm = true → ∀ (i : Nat) (pins : List (Addr × Obj)) (s : Shared) (σ : St) (H : Hp) (E : Value → Shared → Prop), Inv X pins σ H s → (∀ b ∈ fp, FpOk X pins H b) → tn i s.heap → J.stop i H →
    wpAny (model P w) X.A (pyNext (.ref it)) (fun r s1 => r = none ∧ Inv X pins σ H s1) E s
  self : ∀ (A : Around) (i : Nat) (s : Shared) (Q : Value → Shared → Prop) (E : Value → Shared → Prop), tn i s.heap → Q (.ref it) s → wpAny (model P w) A (pyIter (.ref it)) Q E s
noncomputable abbrev TI := St → Hp → (It → Hp → Prop) → Prop
noncomputable def PIE (X : Cx) (pins : List (Addr × Obj)) (σ : St) (tg : Expr) (R : It → Hp → Prop) (itv : Value) (s2 : Shared) : Prop :=
  ∃ (it : Addr) (fp : List Addr) (tn : Nat → Heap → Prop) (J : It) (H' : Hp), itv = .ref it ∧ Inv X pins σ H' s2 ∧ Turn X.prog X.w X.K tg J fp it tn ∧ tn 0 s2.heap ∧ (∀ b ∈ fp, FpOk X pins H' b) ∧ R J H'
noncomputable def PI (X : Cx) (tg iter : Expr) (wi : TI) : Prop :=
  ∀ (pins : List (Addr × Obj)) (s : Shared) (σ : St) (H : Hp) (R : It → Hp → Prop), Inv X pins σ H s → wi σ H R →
    wpAny (model X.prog X.w) X.A (eval iter X.env) (fun v s1 => wpAny (model X.prog X.w) X.A (pyIter v) (PIE X pins σ tg R) X.xe s1) X.xe s
theorem go_of {M : Model} {A : Around} {E : Value → Shared → Prop} {s : Shared} {tg : Expr} {it : Addr} {u : Value} {o : Obj} {n : String} {vs : Array Value} {Q : Unit → Shared → Prop} (ho : s.heap.get? it = some o) (hc : o.cls = .type n) (hd : o.data = .fields vs)
    (hn : ["enumerate", "zip", "dict_itemiterator", "dict_reverseitemiterator", "odict_iterator", "itertools.zip_longest", "itertools.pairwise"].contains n = false) (hQ : Q () s) : wpAny M A (letOwnedTupleGo tg (.ref it) u) Q E s := by
  unfold letOwnedTupleGo
  cases tg <;> first
    | exact wpAny_pure hQ
    | (cases u <;> first
        | exact wpAny_pure hQ
        | (refine wpAny_bind (wpAny_load ho ?_)
           rw [hc, hd]
           show wpAny M A (if (["enumerate", "zip", "dict_itemiterator", "dict_reverseitemiterator", "odict_iterator", "itertools.zip_longest", "itertools.pairwise"].contains n && vs[0]? == some (rawInt _)) = true then _ else _) Q E s
           rw [if_neg (by intro h; rw [hn, Bool.false_and] at h; cases h)]
           exact wpAny_pure hQ))
noncomputable def Itl (K : PySem.W.Frag) (a : Addr) : It :=
  ⟨fun i H => ∃ xs x, SqL K H a xs ∧ xs[i]? = some x, fun i H x H' => H' = H ∧ ∀ xs, SqL K H a xs → xs[i]? = some x, fun i H => ∃ xs, SqL K H a xs ∧ xs.length ≤ i⟩
noncomputable def Itt (K : PySem.W.Frag) (a : Addr) : It :=
  ⟨fun i H => ∃ xs x, SqT K H a xs ∧ xs[i]? = some x, fun i H x H' => H' = H ∧ ∀ xs, SqT K H a xs → xs[i]? = some x, fun i H => ∃ xs, SqT K H a xs ∧ xs.length ≤ i⟩
noncomputable def Itr (lo : Int) (n : Nat) : It := ⟨fun i _ => i < n, fun i H x H' => H' = H ∧ x = .int (lo + i), fun i _ => n ≤ i⟩
theorem turn_list {P : Program} {w : World} {K : PySem.W.Frag} {tg : Expr} (a it : Addr) : Turn P w K tg (Itl K a) [it] it (fun i h => h.IsListIter it a i) where
  mem := by simp
  obj := fun i h st b hb => by
    have e : b = it := by simpa using hb
    subst e
    obtain ⟨o, e, c, d⟩ := st
    exact ⟨o, e, fun v z => by rw [d] at z; cases z⟩
  keep := fun i h h' st k => st.at fun o e => k it (by simp) o e
  item := by
    intro X hP hw hK hc i pins s σ H E I hf st hg
    subst hP hw hK
    obtain ⟨xs, x, hq, hx⟩ := hg
    obtain ⟨its, rv, p, hz⟩ := I.list hq
    obtain ⟨u, hu, ru⟩ := rv.get hx
    obtain ⟨f0, f1, f2, f3, f4, f5⟩ := hf it (by simp)
    refine wpAny_pyNext_list_item st p.isList (x := u) (by simpa using hu) fun h' st' sb => ?_
    have I1 : Inv X pins σ H { s with heap := h' } := I.turned (t' := s.toks) (fun b o hb e => (sb.2 b hb).trans e) f0 f1 f3 f4 f5
    obtain ⟨o, e, c, d⟩ := id st'
    exact ⟨u, rfl, go_of (s := { s with heap := h' }) e c d (by decide) ⟨x, H, I1, ru, ⟨rfl, fun ys hy => by rw [I.list_inj hy hq]; exact hx⟩, st', fun b hb => (hf b hb).1⟩⟩
  done := by
    intro X hP hw hK hc i pins s σ H E I hf st hg
    subst hP hw hK
    obtain ⟨xs, hq, hx⟩ := hg
    obtain ⟨its, rv, p, hz⟩ := I.list hq
    obtain ⟨f0, f1, f2, f3, f4, f5⟩ := hf it (by simp)
    have hl := rv.length
    exact wpAny_pyNext_list_end (I.ok.hd hc) st p.isList (by simp; omega) fun h' eb => ⟨rfl, I.turned (t' := s.toks) (fun b o hb e => eb b o hb e) f0 f1 f3 f4 f5⟩
  self := fun _ _ _ _ _ st h => wpAny_pyIter_listiter st h
theorem turn_tuple {P : Program} {w : World} {K : PySem.W.Frag} {tg : Expr} (a it : Addr) : Turn P w K tg (Itt K a) [it] it (fun i h => h.IsTupleIter it a i) where
  mem := by simp
  obj := fun i h st b hb => by
    have e : b = it := by simpa using hb
    subst e
    obtain ⟨o, e, c, d⟩ := st
    exact ⟨o, e, fun v z => by rw [d] at z; cases z⟩
  keep := fun i h h' st k => st.at fun o e => k it (by simp) o e
  item := by
    intro X hP hw hK hc i pins s σ H E I hf st hg
    subst hP hw hK
    obtain ⟨xs, x, hq, hx⟩ := hg
    obtain ⟨its, rv, p, hz⟩ := I.tuple hq
    obtain ⟨u, hu, ru⟩ := rv.get hx
    obtain ⟨f0, f1, f2, f3, f4, f5⟩ := hf it (by simp)
    refine wpAny_pyNext_tuple_item st (show s.heap.IsTuple a its.toArray from p) (x := u) (by simpa using hu) fun h' st' sb => ?_
    have I1 : Inv X pins σ H { s with heap := h' } := I.turned (t' := s.toks) (fun b o hb e => (sb.2 b hb).trans e) f0 f1 f3 f4 f5
    obtain ⟨o, e, c, d⟩ := id st'
    exact ⟨u, rfl, go_of (s := { s with heap := h' }) e c d (by decide) ⟨x, H, I1, ru, ⟨rfl, fun ys hy => by rw [I.tuple_inj hy hq]; exact hx⟩, st', fun b hb => (hf b hb).1⟩⟩
  done := by
    intro X hP hw hK hc i pins s σ H E I hf st hg
    subst hP hw hK
    obtain ⟨xs, hq, hx⟩ := hg
    obtain ⟨its, rv, p, hz⟩ := I.tuple hq
    obtain ⟨f0, f1, f2, f3, f4, f5⟩ := hf it (by simp)
    have hl := rv.length
    exact wpAny_pyNext_tuple_end (I.ok.hd hc) st (show s.heap.IsTuple a its.toArray from p) (by simp; omega) fun h' eb => ⟨rfl, I.turned (t' := s.toks) (fun b o hb e => eb b o hb e) f0 f1 f3 f4 f5⟩
  self := fun _ _ _ _ _ st h => wpAny_pyIter_tupleiter st h
theorem turn_range {P : Program} {w : World} {K : PySem.W.Frag} {tg : Expr} (it : Addr) (lo : Int) (n : Nat) : Turn P w K tg (Itr lo n) [it] it (fun i h => IsRangeIter h it (lo + (i : Nat) * 1) ((n : Int) - (i : Nat)) 1) where
  mem := by simp
  obj := fun i h st b hb => by
    have e : b = it := by simpa using hb
    subst e
    exact ⟨_, st, fun v z => by
      have z' : Data.fields _ = Data.cell v := z
      cases z'⟩
  keep := fun i h h' st k => k it (by simp) _ st
  item := by
    intro X hP hw hK hc i pins s σ H E I hf st hg
    subst hP hw hK
    obtain ⟨f0, f1, f2, f3, f4, f5⟩ := hf it (by simp)
    have W := Walks.range (prog := X.prog) (w := X.w) (I.ok.hd hc) it lo 1 n
    refine W.item i s _ _ hg st fun v h' tk hv st' kk => ?_
    obtain ⟨t, rfl⟩ := hv
    have I1 : Inv X pins σ H { s with heap := h', toks := tk } := I.turned (fun b o hb e => kk b o (by simpa using hb) e) f0 f1 f3 f4 f5
    refine ⟨_, rfl, go_of (s := { s with heap := h', toks := tk }) (n := "range_iterator") st' rfl rfl (by decide) ⟨.int (lo + i), H, I1, ⟨t, ?_⟩, ⟨rfl, rfl⟩, st', fun b hb => (hf b hb).1⟩⟩
    rw [Int.mul_one]
  done := by
    intro X hP hw hK hc i pins s σ H E I hf st hg
    subst hP hw hK
    obtain ⟨f0, f1, f2, f3, f4, f5⟩ := hf it (by simp)
    exact wpAny_pyNext_range_end (I.ok.hd hc) st (by have : n ≤ i := hg; omega) fun h' eb => ⟨rfl, I.turned (t' := s.toks) (fun b o hb e => eb b o hb e) f0 f1 f3 f4 f5⟩
  self := fun _ _ _ _ _ st h => wpAny_pyIter_rangeiter st h
end L2
namespace L2
open PySem PySem.Spec PyProof.Rows
section
variable {X : Cx} {tg : Expr}
noncomputable def iList (K : PySem.W.Frag) (tl : TE) : TI := fun σ H R => tl σ H fun x H1 => ∃ a, x = .ref a ∧ (∃ xs, SqL K H1 a xs) ∧ R (Itl K a) H1
noncomputable def iTup (K : PySem.W.Frag) (tl : TE) : TI := fun σ H R => tl σ H fun x H1 => ∃ a, x = .ref a ∧ (∃ xs, SqT K H1 a xs) ∧ R (Itt K a) H1
theorem pi_list {l : Expr} {tl : TE} (hl : PE X l tl) : PI X tg l (iList X.K tl) := by
  intro pins s σ H R I h
  refine thn (hl pins s σ H _ I h) fun v s1 h_0 => ?_
  obtain ⟨x, H1, I1, r1, q1⟩ := h_0
  obtain ⟨a, e, ⟨xs, hq⟩, q⟩ := q1
  subst e
  cases r1
  obtain ⟨its, rv, p, hz⟩ := I1.list hq
  refine wpAny_pyIter_list p.isList ?_
  refine ⟨s1.heap.objs.size, [s1.heap.objs.size], _, _, H1, rfl, I1.kept (t' := s1.toks) fun b o e => Heap.get?_push_of_some _ e, turn_list a _, ⟨_, Heap.get?_push_size _ rfl, rfl, rfl⟩, fun b hb => ?_, q⟩
  have e : b = s1.heap.objs.size := by simpa using hb
  subst e
  exact I1.fpOk (Nat.le_refl _) (I1.hok.fresh (Nat.le_refl _))
theorem pi_tup {l : Expr} {tl : TE} (hl : PE X l tl) : PI X tg l (iTup X.K tl) := by
  intro pins s σ H R I h
  refine thn (hl pins s σ H _ I h) fun v s1 h_0 => ?_
  obtain ⟨x, H1, I1, r1, q1⟩ := h_0
  obtain ⟨a, e, ⟨xs, hq⟩, q⟩ := q1
  subst e
  cases r1
  obtain ⟨its, rv, p, hz⟩ := I1.tuple hq
  refine wpAny_pyIter_tuple (show s1.heap.IsTuple a its.toArray from p) ?_
  refine ⟨s1.heap.objs.size, [s1.heap.objs.size], _, _, H1, rfl, I1.kept (t' := s1.toks) fun b o e => Heap.get?_push_of_some _ e, turn_tuple a _, ⟨_, Heap.get?_push_size _ rfl, rfl, rfl⟩, fun b hb => ?_, q⟩
  have e : b = s1.heap.objs.size := by simpa using hb
  subst e
  exact I1.fpOk (Nat.le_refl _) (I1.hok.fresh (Nat.le_refl _))
theorem range_it {pins : List (Addr × Obj)} {σ : St} {H : Hp} {s : Shared} {R : It → Hp → Prop} {E : Value → Shared → Prop} {lo hi : Int} {t u v : Tok} {tk : Nat} (I : Inv X pins σ H s) (h1 : -(2 ^ 62) ≤ lo) (h2 : lo < 2 ^ 62) (h3 : -(2 ^ 62) ≤ hi) (h4 : hi < 2 ^ 62)
    (q : R (Itr lo (hi - lo).toNat) H) : wpAny (model X.prog X.w) X.A (pyIter (.ref s.heap.objs.size)) (PIE X pins σ tg R) E { s with heap := s.heap.push { cls := .type "range", data := .fields #[.int lo t, .int hi u, .int 1 v] }, toks := tk } := by
  refine wpAny_pyIter_range (IsRange.new ..) (small_one h1 h2 h3 h4) ?_
  have I1 : Inv X pins σ H { s with heap := s.heap.push { cls := .type "range", data := .fields #[.int lo t, .int hi u, .int 1 v] }, toks := tk } := I.kept fun b o e => Heap.get?_push_of_some _ e
  refine ⟨(s.heap.push { cls := .type "range", data := .fields #[.int lo t, .int hi u, .int 1 v] }).objs.size, [(s.heap.push { cls := .type "range", data := .fields #[.int lo t, .int hi u, .int 1 v] }).objs.size], _, _, H, rfl,
    I1.kept (t' := tk) fun b o e => Heap.get?_push_of_some _ e, turn_range _ lo (hi - lo).toNat, ?_, fun b hb => ?_, q⟩
  · have e1 : lo + ((0 : Nat) : Int) * 1 = lo := by simp
    have e2 : (((hi - lo).toNat : Nat) : Int) - ((0 : Nat) : Int) = Builtin.Range.rangeSize lo hi 1 := by rw [rangeSize_one]; split <;> omega
    show IsRangeIter _ _ (lo + ((0 : Nat) : Int) * 1) ((((hi - lo).toNat : Nat) : Int) - ((0 : Nat) : Int)) 1
    rw [e1, e2]
    exact Heap.get?_push_size _ rfl
  · have e : b = (s.heap.push { cls := .type "range", data := .fields #[.int lo t, .int hi u, .int 1 v] }).objs.size := by simpa using hb
    subst e
    exact I1.fpOk (Nat.le_refl _) (I1.hok.fresh (Nat.le_refl _))
noncomputable def iRng1 (ta : TA) : TI := fun σ H R => ta σ H fun vs H1 => ∃ j : Int, vs = [.int j] ∧ -(2 ^ 62) ≤ j ∧ j < 2 ^ 62 ∧ R (Itr 0 j.toNat) H1
noncomputable def iRng2 (ta : TA) : TI := fun σ H R => ta σ H fun vs H1 => ∃ i j : Int, vs = [.int i, .int j] ∧ (-(2 ^ 62) ≤ i ∧ i < 2 ^ 62 ∧ -(2 ^ 62) ≤ j ∧ j < 2 ^ 62) ∧ R (Itr i (j - i).toNat) H1
theorem pi_range1 {a : Expr} {ta : TA} {p pos : Pos} (hg : Gl X "range") (hm : X.mg "range" = none) (ha : PA X [a] ta) (hs : starEach [a] X.env = [(false, eval a X.env)] := by rfl) : PI X tg (.Call (.Name "range" p) [a] [] pos) (iRng1 ta) := by
  intro pins s σ H R I h
  refine Call_ (ld_blt I hg hm boot_range (PyProof.Rows.callWith_type1 (thn (ha pos pins s σ H _ I h) fun us s1 h_0 => ?_) hs rfl))
  obtain ⟨vs, H1, I1, r1, q1⟩ := h_0
  obtain ⟨j, e, q1, q2, q⟩ := q1
  subst e
  cases r1 with
  | cons r rr =>
    cases rr
    obtain ⟨t, rfl⟩ := r
    exact call_range_1 (range_it I1 (by omega) (by omega) q1 q2 (by simpa using q))
theorem pi_range2 {a b : Expr} {ta : TA} {p pos : Pos} (hg : Gl X "range") (hm : X.mg "range" = none) (ha : PA X [a, b] ta) (hs : starEach [a, b] X.env = [(false, eval a X.env), (false, eval b X.env)] := by rfl) (hs2 : starEach [b] X.env = [(false, eval b X.env)] := by rfl) :
    PI X tg (.Call (.Name "range" p) [a, b] [] pos) (iRng2 ta) := by
  intro pins s σ H R I h
  refine Call_ (ld_blt I hg hm boot_range (PyProof.Rows.callWith_type1 (thn (ha pos pins s σ H _ I h) fun us s1 h_0 => ?_) (by rw [hs, hs2]) (by rw [hs2]; rfl)))
  obtain ⟨vs, H1, I1, r1, q1⟩ := h_0
  obtain ⟨i, j, e, ⟨q1, q2, q3, q4⟩, q⟩ := q1
  subst e
  cases r1 with
  | cons r rr =>
    cases rr with
    | cons r' rr =>
      cases rr
      obtain ⟨t, rfl⟩ := r
      obtain ⟨t', rfl⟩ := r'
      exact call_range_2 (range_it I1 q1 q2 q3 q4 q)
noncomputable def tFor (wi : TI) (g : TG) (tb : TS) : TS := fun D σ H => wi σ H fun J H1 => ∃ W : Nat → Nat → St → Hp → Prop, (∃ m, W 0 m σ H1) ∧ ∀ i m σ H, W i m σ H →
  (J.stop i H ∧ D.nx σ H) ∨ (J.go i H ∧ ∃ N : St → Hp → Prop, (∀ σ' H', N σ' H' → ∃ m', m' < m ∧ W (i + 1) m' σ' H') ∧ ∀ x H', J.yld i H x H' → g x σ H' fun σ2 H2 => tb { D with nx := N, ct := N, bk := D.nx } σ2 H2)
noncomputable def pinsAt (fp : List Addr) (h : Heap) : List (Addr × Obj) := fp.filterMap fun b => (h.get? b).map fun o => (b, o)
theorem mem_pinsAt {fp : List Addr} {h : Heap} {b : Addr} {o : Obj} (hb : b ∈ fp) (e : h.get? b = some o) : (b, o) ∈ pinsAt fp h := List.mem_filterMap.mpr ⟨b, hb, by rw [e]; rfl⟩
theorem of_pinsAt {fp : List Addr} {h : Heap} {p : Addr × Obj} (hp : p ∈ pinsAt fp h) : p.1 ∈ fp ∧ h.get? p.1 = some p.2 := by
  obtain ⟨b, hb, e⟩ := List.mem_filterMap.mp hp
  cases q : h.get? b with
  | none => rw [q] at e; cases e
  | some o =>
    rw [q] at e
    have e' : (b, o) = p := Option.some.inj e
    subst e'
    exact ⟨hb, q⟩
theorem Inv.pinned {pins : List (Addr × Obj)} {σ : St} {H : Hp} {s : Shared} {fp : List Addr} (I : Inv X pins σ H s) (hf : ∀ b ∈ fp, FpOk X pins H b) (ho : ∀ b ∈ fp, ∃ o, s.heap.get? b = some o ∧ ∀ v, o.data ≠ .cell v) : Inv X (pins ++ pinsAt fp s.heap) σ H s :=
  I.pins_of fun p hp => (List.mem_append.mp hp).elim (fun z => I.pin p (List.mem_append_right _ z)) fun z => by
    obtain ⟨hb, e⟩ := of_pinsAt z
    obtain ⟨f0, f1, f2, _⟩ := hf p.1 hb
    obtain ⟨o, e', d⟩ := ho p.1 hb
    rw [e] at e'; cases e'
    exact ⟨e, f0, f1, f2, d⟩
theorem Inv.unpinned {pins pl : List (Addr × Obj)} {σ : St} {H : Hp} {s : Shared} (I : Inv X (pins ++ pl) σ H s) : Inv X pins σ H s := I.pins_of fun p hp => I.pin p (List.mem_append_right _ (List.mem_append_left _ hp))
theorem ps_for {iter : Expr} {body : List Stmt} {wi : TI} {g : TG} {tb : TS} {pos : Pos} (hp : PassesOwn (model X.prog X.w) X.A X.env X.xe) (hc : X.calm = true) (hi : PI X tg iter wi) (hg : PG X tg g) (hb : PSs X body tb)
    (hs : ∀ x, foldedSetIterable iter X.env x = pure x := by intro _; rfl) : PS X (.For tg iter body [] pos) (tFor wi g tb) := by
  intro pins s σ H D I h
  refine wpAny_For (thn (hi pins s σ H _ I h) fun v s1 h1 => thn h1 fun itv s2 h2 => ?_) hs
  obtain ⟨it, fp, tn, J, H2, e, I2, T, st2, f2, W, ⟨m0, w0⟩, turn⟩ := h2
  subst e
  have stat : ∀ {H' : Hp}, (∀ b ∈ fp, H' b = none) → ∀ b ∈ fp, FpOk X pins H' b := fun hn b hb => ⟨hn b hb, (f2 b hb).2⟩
  refine codeAny_forLoop_any (fun n s' => ∃ i σ' H', Inv X pins σ' H' s' ∧ tn i s'.heap ∧ (∀ b ∈ fp, H' b = none) ∧ W i n σ' H') ?_ m0 ⟨0, σ, H2, I2, st2, fun b hb => (f2 b hb).1, w0⟩
  rintro n s3 ⟨i, σ3, H3, I3, st3, fr3, w3⟩
  rcases turn i n σ3 H3 w3 with ⟨stop, qn⟩ | ⟨go, N, hN, step⟩
  · refine wpAny_passesOwn hp (thn (T.done X rfl rfl rfl hc i pins s3 σ3 H3 X.xe I3 (stat fr3) st3 stop) fun r s4 ⟨hr, I4⟩ => ?_)
    subst hr
    exact wpAny_execs_nil ⟨σ3, H3, I4, qn⟩
  · refine wpAny_passesOwn hp (thn (T.item X rfl rfl rfl hc i pins s3 σ3 H3 X.xe I3 (stat fr3) st3 go) fun r s4 ⟨u, hr, h4⟩ => ?_)
    subst hr
    refine wpAny_passesOwn hp (thn h4 fun _ s5 h_0 => ?_)
    obtain ⟨x, H5, I5, r5, y5, st5, fr5⟩ := h_0
    have I5' := I5.pinned (stat fr5) (T.obj _ _ st5)
    refine wpAny_passesOwn hp (thn (hg _ s5 σ3 H5 x u _ I5' r5 (step x H5 y5)) fun _ s6 h_0 => ?_)
    obtain ⟨σ6, H6, I6, q6⟩ := h_0
    refine wpAny_passesOwn hp (thn (hb _ s6 σ6 H6 _ I6 q6) fun f s7 q7 => ?_)
    have again : ∀ {σ7 : St} {H7 : Hp}, Inv X (pins ++ pinsAt fp s5.heap) σ7 H7 s7 → N σ7 H7 → ∃ m, m < n ∧ ∃ i σ' H', Inv X pins σ' H' s7 ∧ tn i s7.heap ∧ (∀ b ∈ fp, H' b = none) ∧ W i m σ' H' := fun {σ7 H7} I7 n7 => by
      obtain ⟨m', hm, w7⟩ := hN σ7 H7 n7
      refine ⟨m', hm, i + 1, σ7, H7, I7.unpinned, T.keep _ _ _ st5 fun b hb o e => (I7.pin (b, o) (List.mem_append_right _ (List.mem_append_right _ (mem_pinsAt hb e)))).1, fun b hb => ?_, w7⟩
      obtain ⟨o, e, d⟩ := T.obj _ _ st5 b hb
      exact (I7.pin (b, o) (List.mem_append_right _ (List.mem_append_right _ (mem_pinsAt hb e)))).2.1
    cases f with
    | next => obtain ⟨σ7, H7, I7, n7⟩ := q7; exact again I7 n7
    | cont => obtain ⟨σ7, H7, I7, n7⟩ := q7; exact again I7 n7
    | brk => obtain ⟨σ7, H7, I7, q7⟩ := q7; exact ⟨σ7, H7, I7.unpinned, q7⟩
    | ret v => obtain ⟨x7, σ7, H7, I7, r7, q7⟩ := q7; exact ⟨x7, σ7, H7, I7.unpinned, r7, q7⟩
end
end L2
namespace L2
open PySem PySem.Spec PyProof.Rows
noncomputable abbrev R2 := V → V → Hp → VK → Prop
noncomputable def OpR (X : Cx) (f : Value → Value → Sem Value) (r : R2) : Prop :=
  ∀ (pins : List (Addr × Obj)) (s : Shared) (σ : St) (H : Hp) (x y : V) (v u : Value) (Q : VK), Inv X pins σ H s → RelV x v → RelV y u → r x y H Q →
    wpAny (model X.prog X.w) X.A (f v u) (EP X pins σ Q) X.xe s
noncomputable def UnR (X : Cx) (f : Value → Sem Value) (r : V → Hp → VK → Prop) : Prop :=
  ∀ (pins : List (Addr × Obj)) (s : Shared) (σ : St) (H : Hp) (x : V) (v : Value) (Q : VK), Inv X pins σ H s → RelV x v → r x H Q →
    wpAny (model X.prog X.w) X.A (f v) (EP X pins σ Q) X.xe s
noncomputable def CallR (X : Cx) (f : Value) (r : List V → Hp → VK → Prop) : Prop :=
  ∀ (pins : List (Addr × Obj)) (s : Shared) (σ : St) (H : Hp) (xs : List V) (us : List Value) (Q : VK), Inv X pins σ H s → Vals xs us → r xs H Q →
    wpAny (model X.prog X.w) X.A (call f us) (EP X pins σ Q) X.xe s
noncomputable def tOp (r : R2) (ta tb : TE) : TE := fun σ H Q => ta σ H fun x H1 => tb σ H1 fun y H2 => r x y H2 Q
noncomputable def tUn (r : V → Hp → VK → Prop) (ta : TE) : TE := fun σ H Q => ta σ H fun x H1 => r x H1 Q
noncomputable def rI (C : Int → Int → Prop) (g : Int → Int → V) : R2 := fun x y H Q => ∃ i j, x = .int i ∧ y = .int j ∧ C i j ∧ Q (g i j) H
noncomputable def rI0 (g : Int → Int → V) : R2 := fun x y H Q => ∃ i j, x = .int i ∧ y = .int j ∧ Q (g i j) H
noncomputable def rU (g : Int → V) : V → Hp → VK → Prop := fun x H Q => ∃ i, x = .int i ∧ Q (g i) H
section
variable {X : Cx} {a b c : Expr} {ta tb tc : TE} {pos : Pos}
theorem binT (ha : PE X a ta) (hb : PE X b tb) {pins : List (Addr × Obj)} {s : Shared} {σ : St} {H : Hp} {R : V → V → Hp → Prop} (I : Inv X pins σ H s)
    (h : ta σ H fun x H1 => tb σ H1 fun y H2 => R x y H2) {Q : Value → Shared → Prop} {f : Value → Value → Sem Value}
    (hf : ∀ v u s2 x y H2, Inv X pins σ H2 s2 → RelV x v → RelV y u → R x y H2 → wpAny (model X.prog X.w) X.A (f v u) Q X.xe s2) :
    wpAny (model X.prog X.w) X.A (eval a X.env) (fun v s₁ => wpAny (model X.prog X.w) X.A (eval b X.env) (fun u s₂ => wpAny (model X.prog X.w) X.A (f v u) Q X.xe s₂) X.xe s₁) X.xe s := by
  refine thn (ha pins s σ H _ I h) fun v s1 h_0 => ?_
  obtain ⟨x, H1, I1, r1, q1⟩ := h_0
  refine thn (hb pins s1 σ H1 _ I1 q1) fun u s2 h_0 => ?_
  obtain ⟨y, H2, I2, r2, q2⟩ := h_0
  exact hf v u s2 x y H2 I2 r1 r2 q2
theorem pe_op {op : Operator} {r : R2} (ho : OpR X (binaryOp op) r) (ha : PE X a ta) (hb : PE X b tb) : PE X (.BinOp a op b pos) (tOp r ta tb) := by
  intro pins s σ H Q I h
  exact wpAny_BinOp (binT ha hb I h fun v u s2 x y H2 I2 rx ry q => ho pins s2 σ H2 x y v u Q I2 rx ry q)
theorem pe_un {op : UnaryOp} {r : V → Hp → VK → Prop} (ho : UnR X (unaryOp op) r) (ha : PE X a ta) : PE X (.UnaryOp op a pos) (tUn r ta) := by
  intro pins s σ H Q I h
  exact UnaryOp_ (thn (ha pins s σ H _ I h) fun v s1 ⟨x, H1, I1, r1, q1⟩ => ho pins s1 σ H1 x v Q I1 r1 q1)
theorem opI {f : Value → Value → Sem Value} {C : Int → Int → Prop} {g : Int → Int → Int}
    (rule : ∀ (i j : Int) (t u : Tok) (s : Shared) (Q : Value → Shared → Prop) (E : Value → Shared → Prop), C i j → Q (.int (g i j) s.toks) { s with toks := s.toks + 1 } → wpAny (model X.prog X.w) X.A (f (.int i t) (.int j u)) Q E s) :
    OpR X f (rI C fun i j => .int (g i j)) := by
  intro pins s σ H x y v u Q I rx ry h
  obtain ⟨i, j, rfl, rfl, hc, q⟩ := h
  obtain ⟨t, rfl⟩ := rx
  obtain ⟨t', rfl⟩ := ry
  exact rule i j t t' s _ _ hc ⟨.int (g i j), H, I.tok _, ⟨_, rfl⟩, q⟩
theorem opI0 {f : Value → Value → Sem Value} {g : Int → Int → Int}
    (rule : ∀ (i j : Int) (t u : Tok) (s : Shared) (Q : Value → Shared → Prop) (E : Value → Shared → Prop), Q (.int (g i j) s.toks) { s with toks := s.toks + 1 } → wpAny (model X.prog X.w) X.A (f (.int i t) (.int j u)) Q E s) :
    OpR X f (rI0 fun i j => .int (g i j)) := by
  intro pins s σ H x y v u Q I rx ry h
  obtain ⟨i, j, rfl, rfl, q⟩ := h
  obtain ⟨t, rfl⟩ := rx
  obtain ⟨t', rfl⟩ := ry
  exact rule i j t t' s _ _ ⟨.int (g i j), H, I.tok _, ⟨_, rfl⟩, q⟩
theorem opB0 {f : Value → Value → Sem Value} {g : Int → Int → Bool}
    (rule : ∀ (i j : Int) (t u : Tok) (s : Shared) (Q : Value → Shared → Prop) (E : Value → Shared → Prop), Q (.bool (g i j)) s → wpAny (model X.prog X.w) X.A (f (.int i t) (.int j u)) Q E s) :
    OpR X f (rI0 fun i j => .bl (g i j)) := by
  intro pins s σ H x y v u Q I rx ry h
  obtain ⟨i, j, rfl, rfl, q⟩ := h
  obtain ⟨t, rfl⟩ := rx
  obtain ⟨t', rfl⟩ := ry
  exact rule i j t t' s _ _ ⟨.bl (g i j), H, I, rfl, q⟩
noncomputable def CDiv (i j : Int) : Prop := 0 < j ∧ j < 1073741824
noncomputable def CMul (i j : Int) : Prop := (-(2 ^ 64) < i ∧ i < 2 ^ 64) ∨ (-(2 ^ 64) < j ∧ j < 2 ^ 64)
theorem CMul.ok {i j : Int} (h : CMul i j) : IntMulOk i j := by
  rcases h with ⟨h1, h2⟩ | ⟨h1, h2⟩
  · exact .of_left (intBits_le_64 h1 h2)
  · exact .of_right (intBits_le_64 h1 h2)
theorem op_add : OpR X (binaryOp .Add) (rI0 fun i j => .int (i + j)) := opI0 fun _ _ _ _ _ _ _ q => add_int q
theorem op_sub : OpR X (binaryOp .Sub) (rI0 fun i j => .int (i - j)) := opI0 fun _ _ _ _ _ _ _ q => sub_int q
theorem op_mul : OpR X (binaryOp .Mult) (rI CMul fun i j => .int (i * j)) := opI fun _ _ _ _ _ _ _ hc q => mul_int q hc.ok
theorem op_fdiv : OpR X (binaryOp .FloorDiv) (rI CDiv fun i j => .int (i / j)) := opI fun i j _ _ _ _ _ hc q => by
  have h1 : (0 : Int) < j := hc.1
  have h2 : j < 1073741824 := hc.2
  exact floordiv_int (by omega) (by rw [Int.fdiv_eq_ediv_of_nonneg i (by omega)]; exact q) (.inl (PyProof.noPylong_small (by omega)))
theorem op_mod : OpR X (binaryOp .Mod) (rI (fun _ j => 0 < j) fun i j => .int (i % j)) := opI fun i j _ _ _ _ _ hc q => by
  have h1 : (0 : Int) < j := hc
  exact mod_int' (by omega) (by rw [Int.fmod_eq_emod_of_nonneg i (by omega)]; exact q)
theorem unI {f : Value → Sem Value} {g : Int → Int}
    (rule : ∀ (i : Int) (t : Tok) (s : Shared) (Q : Value → Shared → Prop) (E : Value → Shared → Prop), Q (.int (g i) s.toks) { s with toks := s.toks + 1 } → wpAny (model X.prog X.w) X.A (f (.int i t)) Q E s) :
    UnR X f (rU fun i => .int (g i)) := by
  intro pins s σ H x v Q I rx h
  obtain ⟨i, rfl, q⟩ := h
  obtain ⟨t, rfl⟩ := rx
  exact rule i t s _ _ ⟨.int (g i), H, I.tok _, ⟨_, rfl⟩, q⟩
theorem un_neg : UnR X (unaryOp .USub) (rU fun i => .int (-i)) := unI fun _ _ _ _ _ q => neg_int q
end
section
variable {X : Cx} {a b c : Expr} {ta tb tc : TE} {pos : Pos}
theorem op_le : OpR X (compareOp .LtE) (rI0 fun i j => .bl (decide (i ≤ j))) := opB0 fun _ _ _ _ _ _ _ q => le_int q
theorem op_gt : OpR X (compareOp .Gt) (rI0 fun i j => .bl (decide (j < i))) := opB0 fun _ _ _ _ _ _ _ q => gt_int q
theorem OpR.or {f : Value → Value → Sem Value} {r r' : R2} (h : OpR X f r) (h' : OpR X f r') : OpR X f (fun x y H Q => r x y H Q ∨ r' x y H Q) := by
  intro pins s σ H x y v u Q I rx ry q
  rcases q with q | q
  · exact h pins s σ H x y v u Q I rx ry q
  · exact h' pins s σ H x y v u Q I rx ry q
theorem nomark (b : Expr) {op : CmpOp} (h : op ≠ .In := by decide) (h2 : op ≠ .NotIn := by decide) : behindInMarks op b = false := by
  have e1 : (op == CmpOp.In) = false := by cases op <;> first | rfl | exact absurd rfl h
  have e2 : (op == CmpOp.NotIn) = false := by cases op <;> first | rfl | exact absurd rfl h2
  cases b <;> simp [behindInMarks, e1, e2]
theorem pe_cmpR {op : CmpOp} {r : R2} (ho : OpR X (compareOp op) r) (ha : PE X a ta) (hb : PE X b tb) (hm : behindInMarks op b = false) : PE X (.Compare a [op] [b] pos) (tOp r ta tb) := by
  intro pins s σ H Q I h
  exact wpAny_Compare1 (binT ha hb I h fun v u s2 x y H2 I2 rx ry q => ho pins s2 σ H2 x y v u Q I2 rx ry q) hm
noncomputable def tTest (t : TE) : TT := fun σ H Q => t σ H fun x H' => ∃ k, x = .bl k ∧ Q k H'
theorem pt_cmpR {op : CmpOp} {r : R2} (ho : OpR X (compareOp op) r) (ha : PE X a ta) (hb : PE X b tb) (hm : behindInMarks op b = false) : PT X (.Compare a [op] [b] pos) (tTest (tOp r ta tb)) := by
  intro pins s σ H Q I h
  refine wpAny_isTrue_Compare1 (thn (ha pins s σ H _ I h) fun v s1 ⟨x, H1, I1, r1, q1⟩ => thn (hb pins s1 σ H1 _ I1 q1) fun u s2 ⟨y, H2, I2, r2, q2⟩ =>
    thn (ho pins s2 σ H2 x y v u _ I2 r1 r2 q2) fun c s3 ⟨z, H3, I3, r3, k, e, q3⟩ => ?_) hm
  subst e
  cases r3
  exact wpAny_truthy_bool ⟨H3, I3, q3⟩
noncomputable def tChain (r r' : R2) (ta tb tc : TE) : TE := fun σ H Q => ta σ H fun x H1 => tb σ H1 fun y H2 => r x y H2 fun z H3 => ∃ k, z = .bl k ∧
  (if k = true then tc σ H3 fun w' H4 => r' y w' H4 Q else Q (.bl false) H3)
theorem pe_chain {op op' : CmpOp} {r r' : R2} (ho : OpR X (compareOp op) r) (ho' : OpR X (compareOp op') r') (ha : PE X a ta) (hb : PE X b tb) (hc : PE X c tc)
    (hm : lastMarks [op, op'] [b, c] = false := by with_unfolding_all rfl) : PE X (.Compare a [op, op'] [b, c] pos) (tChain r r' ta tb tc) := by
  intro pins s σ H Q I h
  refine Compare_chain (thn (ha pins s σ H _ I h) fun v s1 ⟨x, H1, I1, r1, q1⟩ => chain_link (thn (hb pins s1 σ H1 _ I1 q1) fun u s2 ⟨y, H2, I2, r2, q2⟩ =>
    thn (ho pins s2 σ H2 x y v u _ I2 r1 r2 q2) fun d s3 ⟨z, H3, I3, r3, k, e, q3⟩ => ?_)) hm
  subst e
  cases r3
  refine wpAny_truthy_bool ?_
  cases k with
  | false => exact ite_ff ⟨.bl false, H3, I3, rfl, q3⟩
  | true => exact ite_tt (chain_last (thn (hc pins s3 σ H3 _ I3 q3) fun w' s4 ⟨z', H4, I4, r4, q4⟩ => ho' pins s4 σ H4 y z' u w' Q I4 r2 r4 q4))
theorem line63 : (sizeLine : Nat) < 2 ^ 63 := by rw [sizeLine_eq]; decide
theorem vals1 {x : V} {us : List Value} (r : Vals [x] us) : ∃ u, us = [u] ∧ RelV x u := by
  cases r with
  | cons r1 r2 => cases r2; exact ⟨_, rfl, r1⟩
theorem vals2 {x y : V} {us : List Value} (r : Vals [x, y] us) : ∃ u w', us = [u, w'] ∧ RelV x u ∧ RelV y w' := by
  cases r with
  | cons r1 r2 =>
    cases r2 with
    | cons r3 r4 => cases r4; exact ⟨_, _, rfl, r1, r3⟩
theorem call_min2 (hc : X.calm = true) : CallR X (.builtin "min") (fun xs H Q => ∃ i j, xs = [.int i, .int j] ∧ Q (.int (if j < i then j else i)) H) := by
  intro pins s σ H xs us Q I r h
  obtain ⟨i, j, rfl, q⟩ := h
  obtain ⟨u, w', rfl, ⟨t, rfl⟩, ⟨t', rfl⟩⟩ := vals2 r
  refine min_two_ints (I.ok.hd hc) fun h' tk k => ⟨_, H, I.kept k, ?_, q⟩
  by_cases hj : j < i
  · rw [if_pos hj, if_pos hj]; exact ⟨_, rfl⟩
  · rw [if_neg hj, if_neg hj]; exact ⟨_, rfl⟩
theorem call_int1 : CallR X (.type "int") (fun xs H Q => (∃ i, xs = [.int i] ∧ Q (.int i) H) ∨ ∃ k, xs = [.bl k] ∧ Q (.int (if k then 1 else 0)) H) := by
  intro pins s σ H xs us Q I r h
  rcases h with ⟨i, rfl, q⟩ | ⟨k, rfl, q⟩
  · obtain ⟨u, rfl, t, rfl⟩ := vals1 r
    exact call_int_int ⟨.int i, H, I, ⟨_, rfl⟩, q⟩
  · obtain ⟨u, rfl, r1⟩ := vals1 r
    cases r1
    exact call_int_bool ⟨.int (if k then 1 else 0), H, I.tok _, ⟨_, rfl⟩, q⟩
end
end L2
namespace L2
open PySem PySem.Spec PyProof.Rows
section
variable {prog : Program} {w : World} {A : Around} {E : Value → Shared → Prop} {s : Shared} {K : PySem.W.Frag} {x dx C f : Addr} {mA : Str → Option Value} {name : Str} {v : Value}
end
section
variable {P : Program} {w : World} {H H' : Hp} {h h' : Heap} {a C dx : Addr} {fs fs' : List (Str × V)}
end
section
variable {X : Cx} {pins : List (Addr × Obj)} {σ : St} {H : Hp} {s : Shared} {a C dx : Addr} {fs : List (Str × V)} {f : Str} {v : V} {A : Around} {E : Value → Shared → Prop}
end
section
variable {X : Cx} {o e value : Expr} {f : Str} {pos pos' tpos : Pos} {ta tv : TE}
end
section
variable {X : Cx} {pins : List (Addr × Obj)} {σ : St} {H : Hp} {s : Shared} {A : Around} {E : Value → Shared → Prop} {Q : Value → Shared → Prop} {c : Value} {b : Bool}
end
end L2
namespace L2
open PySem PySem.Spec PyProof.Rows
structure Room (k : Nat) (A : Around) : Prop where
  hd : A.handled = none
  dp : A.depth + 3 * k + 5 < recursionLimit
  un : A.units + 16 * k + 200 < cLine
theorem Room.mono {j k : Nat} {A : Around} (r : Room k A) (h : j ≤ k) : Room j A := ⟨r.hd, by have := r.dp; omega, by have := r.un; omega⟩
theorem Room.deeper {k : Nat} {A : Around} (r : Room (k + 1) A) (env : Env) : Room k (A.deeper env) :=
  ⟨r.hd, by have := r.dp; show A.depth + 1 + 3 * k + 5 < _; omega, by have := r.un; show A.units + 3 + 16 * k + 200 < _; omega⟩
theorem Room.in1 {k : Nat} {A : Around} (r : Room (k + 1) A) : Room k A.in1 :=
  ⟨r.hd, by have := r.dp; show A.depth + 3 * k + 5 < _; omega, by have := r.un; show A.units + 1 + 16 * k + 200 < _; omega⟩
theorem Room.depth {k : Nat} {A : Around} (r : Room k A) : A.depth < recursionLimit := by have := r.dp; omega
theorem Room.units {k : Nat} {A : Around} (r : Room k A) : A.units + 64 < cLine := by have := r.un; omega
noncomputable def tNil : TA := fun _ H Q => Q [] H
noncomputable def tCons (ta : TE) (tr : TA) : TA := fun σ H Q => ta σ H fun x H1 => tr σ H1 fun xs H2 => Q (x :: xs) H2
section
variable {X : Cx} {e : Expr} {es : List Expr} {te : TE} {t : TA} {pos : Pos}
theorem pa_nil : PA X [] tNil := fun _ _ _ _ H Q I h => Calls.spliced_nil ⟨[], H, I, .nil, h⟩
theorem pa_cons (ha : PE X e te) (hr : PA X es t) (hs : starEach (e :: es) X.env = (false, eval e X.env) :: starEach es X.env := by rfl) : PA X (e :: es) (tCons te t) := by
  intro pos pins s σ H Q I h
  rw [hs]
  show wpAny _ _ (spliced ((false, eval e X.env) :: backTo pos (starEach es X.env))) _ _ s
  refine Calls.spliced_cons (thn (ha pins s σ H _ I h) fun u s1 h_0 => ?_)
  obtain ⟨x, H1, I1, r1, q1⟩ := h_0
  exact thn (hr pos pins s1 σ H1 _ I1 q1) fun us s2 h_0 => by obtain ⟨xs, H2, I2, r2, q2⟩ := h_0; exact ⟨x :: xs, H2, I2, .cons r1 r2, q2⟩
noncomputable def tTup (t : TA) : TE := fun σ H Q => t σ H fun xs H1 => xs.length ≤ sizeLine ∧ ∀ p, H1 p = none → Q (.ref p) (upd H1 p (.tup xs))
noncomputable def tLst (t : TA) : TE := fun σ H Q => t σ H fun xs H1 => xs.length ≤ sizeLine ∧ ∀ p, H1 p = none → Q (.ref p) (upd H1 p (.lst xs))
theorem pe_tup {x1} (h : PA X es t) : PE X (.Tuple es x1 pos) (tTup t) := by
  intro pins s σ H Q I hq
  refine wpAny_Tuple_spliced (thn (h pos pins s σ H _ I hq) fun us s1 ⟨xs, H1, I1, r, z, q⟩ => ⟨by rw [← r.length]; exact z, ?_⟩)
  have hf : H1 s1.heap.objs.size = none := I1.hok.fresh (Nat.le_refl _)
  refine ⟨.ref s1.heap.objs.size, upd H1 s1.heap.objs.size (.tup xs), I1.laid (t' := s1.toks) (fun b u e => Heap.get?_push_of_some _ e) (Nat.le_refl _) ?_, rfl, q _ hf⟩
  exact ⟨z, us, r, ⟨_, Heap.get?_push_size _ rfl, rfl, _, rfl⟩⟩
theorem pe_lst (h : PA X es t) : PE X (.List es pos) (tLst t) := by
  intro pins s σ H Q I hq
  refine wpAny_List_spliced (thn (h pos pins s σ H _ I hq) fun us s1 ⟨xs, H1, I1, r, z, q⟩ => ⟨by rw [← r.length]; exact z, ?_⟩)
  have hf : H1 s1.heap.objs.size = none := I1.hok.fresh (Nat.le_refl _)
  refine ⟨.ref s1.heap.objs.size, upd H1 s1.heap.objs.size (.lst xs), I1.laid (t' := s1.toks) (fun b u e => Heap.get?_push_of_some _ e) (Nat.le_refl _) ?_, rfl, q _ hf⟩
  exact ⟨z, us, 0, r, Heap.get?_push_size _ rfl⟩
end
noncomputable abbrev Sp := List V → Hp → VK → XK → Prop
noncomputable abbrev CXT := List Env → Hp → Shared → XK → Value → Shared → Prop
structure Env0 (P : Program) (w : World) (K : PySem.W.Frag) (mg : Str → Option Value) (base : Heap) (A : Around) (outer : List Env) (s : Shared) (H : Hp) : Prop where
  frames : A.frames = some outer
  mod : Mod K mg base
  bs : ∀ b o, base.get? b = some o → s.heap.get? b = some o ∧ H b = none
  bsz : base.objs.size ≤ s.heap.objs.size
  funs : s.heap.FunFrames base outer
  frf : ∀ b ∈ frs outer, H b = none
  hok : HOk P w H s.heap
  bare : AllBare s.gens
noncomputable def CE (outer : List Env) (P : Program) (w : World) (H : Hp) (s : Shared) (Q : VK) (u : Value) (s' : Shared) : Prop :=
  ∃ v H', s'.os = s.os ∧ AllBare s'.gens ∧ Un (frs outer) [] H H' s.heap s'.heap ∧ HOk P w H' s'.heap ∧ RelV v u ∧ Q v H'
noncomputable def CR (CX : CXT) (outer : List Env) (P : Program) (w : World) (H : Hp) (s : Shared) (Q : VK) (E : XK) (r : Result) (s' : Shared) : Prop :=
  match r with
  | .ok (.ret u) => CE outer P w H s Q u s'
  | .ok _ => False
  | .error e => CX outer H s E e s'
structure FnOk (P : Program) (w : World) (K : PySem.W.Frag) (mg : Str → Option Value) (base : Heap) (CX : CXT) (k : Nat) (f : Addr) (fd : FuncData) (ps : List Str) (sp : Sp) : Prop where
  len : ∀ vs H Q E, sp vs H Q E → vs.length = ps.length
  run : ∀ (A : Around) (outer : List Env) (s : Shared) (H : Hp) (args : Args) (us : List Value) (vs : List V) (Q : VK) (E : XK), Room k A → Env0 P w K mg base A outer s H → BindsTo s fd args (ps.zip us) → Vals vs us → sp vs H Q E →
    codeAny (model P w) A (.call (.ref f) args) (CR CX outer P w H s Q E) s
theorem FnOk.imp {P : Program} {w : World} {K : PySem.W.Frag} {mg : Str → Option Value} {base : Heap} {CX : CXT} {k : Nat} {f : Addr} {fd : FuncData} {ps : List Str} {sp sp' : Sp} (F : FnOk P w K mg base CX k f fd ps sp)
    (h : ∀ vs H Q E, sp' vs H Q E → sp vs H Q E) : FnOk P w K mg base CX k f fd ps sp' :=
  ⟨fun vs H Q E q => F.len vs H Q E (h _ _ _ _ q), fun A outer s H args us vs Q E hr he hb hv hs => F.run A outer s H args us vs Q E hr he hb hv (h _ _ _ _ hs)⟩
theorem Env0.in1 {P : Program} {w : World} {K : PySem.W.Frag} {mg : Str → Option Value} {base : Heap} {A : Around} {outer : List Env} {s : Shared} {H : Hp} (e : Env0 P w K mg base A outer s H) :
    Env0 P w K mg base A.in1 outer s H := ⟨e.frames, e.mod, e.bs, e.bsz, e.funs, e.frf, e.hok, e.bare⟩
section
variable {X : Cx} {pins : List (Addr × Obj)} {σ : St} {H : Hp} {s s' : Shared}
theorem Inv.env0 (I : Inv X pins σ H s) : Env0 X.prog X.w X.K X.mg X.base X.A X.stack s H :=
  ⟨I.ok.frames, I.ok.mod, I.bs, Nat.le_trans I.ok.bsz I.sz, I.stack, I.stkFree, I.hok, I.bare⟩
theorem Inv.after {Q : VK} {u : Value} (I : Inv X pins σ H s) (h : CE X.stack X.prog X.w H s Q u s') : EP X pins σ Q u s' := by
  obtain ⟨v, H', os, bare, un, hok, r, q⟩ := h
  obtain ⟨hh, g, d, t, os'⟩ := s'
  obtain rfl : os' = s.os := os
  exact ⟨v, H', I.call (h' := hh) (g' := g) (d' := d) (t' := t) (ch := []) un hok bare (fun b z => absurd z (by simp)), r, q⟩
end
noncomputable def tCall (sp : Sp) (dvs : List V) (E : XK) (t : TA) : TE := fun σ H Q => t σ H fun vs H1 => sp (vs ++ dvs) H1 Q E
noncomputable def Binds (K : PySem.W.Frag) (fd : FuncData) (ps : List Str) (ds : List Value) : Prop :=
  ∀ (s : Shared) (us : List Value), K.In s.heap → (us ++ ds).length = ps.length → BindsTo s fd ⟨us, []⟩ (ps.zip (us ++ ds))
theorem Binds.all {K : PySem.W.Frag} {fd : FuncData} {ps : List Str} (h : ∀ us : List Value, us.length = ps.length → bindArgs fd ⟨us, []⟩ = pure (ps.zip us)) : Binds K fd ps [] := fun s us _ hl => by
  rw [List.append_nil] at hl ⊢
  exact .of_eq (h us hl)
noncomputable def Passes (CX : CXT) (X : Cx) (E : XK) : Prop := ∀ (pins : List (Addr × Obj)) (σ : St) (H : Hp) (s : Shared) (e : Value) (s' : Shared), Inv X pins σ H s → CX X.stack H s E e s' → X.xe e s'
section
variable {X : Cx} {CX : CXT} {k : Nat} {f C : Addr} {fd : FuncData} {ps : List Str} {sp : Sp} {dvs : List V} {ds : List Value} {E : XK} {x m : Str} {p pos apos : Pos} {e o : Expr} {es : List Expr} {ta : TE} {t : TA}
theorem run_fn {pins : List (Addr × Obj)} {σ : St} {H : Hp} {s : Shared} {Q : VK} {us : List Value} {vs : List V} (F : FnOk X.prog X.w X.K X.mg X.base CX k f fd ps sp) (hr : Room k X.A) (hb : Binds X.K fd ps ds) (hd : Vals dvs ds) (hx : Passes CX X E)
    (I : Inv X pins σ H s) (r : Vals vs us) (h : sp (vs ++ dvs) H Q E) : wpAny (model X.prog X.w) X.A (call (.ref f) us) (EP X pins σ Q) X.xe s := by
  have r2 : Vals (vs ++ dvs) (us ++ ds) := r.append hd
  have hl : (us ++ ds).length = ps.length := by rw [← r2.length]; exact F.len _ _ _ _ h
  refine wpAny_call (codeAny_mono (F.run X.A X.stack s H ⟨us, []⟩ (us ++ ds) (vs ++ dvs) Q E hr I.env0 (hb s us I.kIn hl) r2 h) fun r s' hq => ?_)
  cases r with
  | error e => exact hx pins σ H s e s' I hq
  | ok fl =>
    cases fl with
    | ret u => exact I.after hq
    | next => exact False.elim hq
    | brk => exact False.elim hq
    | cont => exact False.elim hq
theorem pe_call (F : FnOk X.prog X.w X.K X.mg X.base CX k f fd ps sp) (hr : Room k X.A) (hg : Gl X x) (hm : X.mg x = some (.ref f)) (hk : PySem.W.keepIn X.K (.ref f) = true) (hb : Binds X.K fd ps ds) (hd : Vals dvs ds) (hx : Passes CX X E)
    (ha : PA X (e :: es) t) (hdb : (x == ("__debug__" : Str)) = false := by decide) (he : starEach (e :: es) X.env = (false, eval e X.env) :: starEach es X.env := by rfl) (hpl : (backTo pos (starEach es X.env)).any (·.1) = false := by rfl) :
    PE X (.Call (.Name x p) (e :: es) [] pos) (tCall sp dvs E t) := by
  intro pins s σ H Q I h
  refine wpAny_Call_Name_kw (ld_glob I hg hm ?_ hdb)
  refine PySem.W.callWith_K (h₀ := X.base) I.ok.mod.kin hk (thn (ha pos pins s σ H _ I h) fun us s1 ⟨vs, H1, I1, r, q⟩ => ⟨I1.kIn, ?_⟩) he hpl
  exact run_fn F hr hb hd hx I1 r q
end
section
variable {X : Cx} {CX : CXT} {k : Nat} {f C : Addr} {fd : FuncData} {ps ks : List Str} {sp : Sp} {E : XK} {x m : Str} {p pos apos kpos : Pos} {e o : Expr} {es : List Expr} {kws : List Keyword} {te ta : TE} {t tk : TA} {nm : Option Str}
variable {g : List Value → List Value → List Value} {gV : List V → List V → List V}
end
structure FnScope (N P : List Str) (sc : Scope) : Prop where
  kind : sc.kind = .function
  co : sc.isCoroutine = false
  gen : sc.isGenerator = false
  nd : N.Nodup
  pre : N.take P.length = P
  par : ∀ x ∈ P, sc.names.lookup x = some .local ∨ sc.names.lookup x = some .cell
  nofree : ∀ y ∈ sc.names, y.2 ≠ .free
theorem bindL_out {kindOf : Str → Option NameKind} {x : Str} : ∀ {binds : List (Str × Value)} {m : Str → Option Value}, (∀ v, (x, v) ∉ binds) → bindL kindOf binds m x = m x
  | [], _, _ => rfl
  | (n, v) :: r, m, h => by
    unfold bindL
    rw [bindL_out fun w hw => h w (List.mem_cons_of_mem _ hw)]
    split
    · have : x ≠ n := by rintro rfl; exact h v List.mem_cons_self
      simp [this]
    · rfl
theorem bindC_out {kindOf : Str → Option NameKind} {x : Str} : ∀ {binds : List (Str × Value)} {m : Str → Option Value}, (∀ v, (x, v) ∉ binds) → bindC kindOf binds m x = m x
  | [], _, _ => rfl
  | (n, v) :: r, m, h => by
    unfold bindC
    rw [bindC_out fun w hw => h w (List.mem_cons_of_mem _ hw)]
    split
    · rfl
    · have : x ≠ n := by rintro rfl; exact h v List.mem_cons_self
      simp [this]
theorem bindL_get {kindOf : Str → Option NameKind} {x : Str} {v : Value} : ∀ {P : List Str} {vs : List Value} {i : Nat} {m : Str → Option Value}, P.Nodup → P[i]? = some x → vs[i]? = some v → kindOf x = some .local →
    bindL kindOf (P.zip vs) m x = some v
  | [], _, _, _, _, h, _, _ => by simp at h
  | _ :: _, [], _, _, _, _, h, _ => by simp at h
  | p :: P, w :: vs, 0, m, nd, h1, h2, hk => by
    simp at h1 h2; subst h1; subst h2
    show bindL kindOf ((p, w) :: P.zip vs) m p = _
    unfold bindL
    rw [bindL_out fun v hv => (List.nodup_cons.mp nd).1 (List.of_mem_zip hv).1, if_pos hk]
    simp
  | p :: P, w :: vs, i + 1, m, nd, h1, h2, hk => by
    show bindL kindOf ((p, w) :: P.zip vs) m x = _
    unfold bindL
    exact bindL_get (i := i) (List.nodup_cons.mp nd).2 (by simpa using h1) (by simpa using h2) hk
theorem bindC_get {kindOf : Str → Option NameKind} {x : Str} {v : Value} : ∀ {P : List Str} {vs : List Value} {i : Nat} {m : Str → Option Value}, P.Nodup → P[i]? = some x → vs[i]? = some v → kindOf x ≠ some .local →
    bindC kindOf (P.zip vs) m x = some v
  | [], _, _, _, _, h, _, _ => by simp at h
  | _ :: _, [], _, _, _, _, h, _ => by simp at h
  | p :: P, w :: vs, 0, m, nd, h1, h2, hk => by
    simp at h1 h2; subst h1; subst h2
    show bindC kindOf ((p, w) :: P.zip vs) m p = _
    unfold bindC
    rw [bindC_out fun v hv => (List.nodup_cons.mp nd).1 (List.of_mem_zip hv).1, if_neg hk]
    simp
  | p :: P, w :: vs, i + 1, m, nd, h1, h2, hk => by
    show bindC kindOf ((p, w) :: P.zip vs) m x = _
    unfold bindC
    exact bindC_get (i := i) (List.nodup_cons.mp nd).2 (by simpa using h1) (by simpa using h2) hk
noncomputable def start (N : List Str) (vs : List V) : St := vs.map some ++ List.replicate (N.length - vs.length) none
noncomputable def cxOf (CX : CXT) (P : Program) (w : World) (K : PySem.W.Frag) (mg : Str → Option Value) (base : Heap) (N : List Str) (qual : Str) (scope : Scope) (f : Addr) (cd : Value) (A : Around) (outer : List Env) (s : Shared) (H : Hp) (E : XK) : Cx where
  prog := P
  w := w
  K := K
  mg := mg
  base := base
  A := A.deeper (envOfC qual scope s.heap.objs.size f cd)
  N := N
  s₀ := s
  H₀ := H
  env := envOfC qual scope s.heap.objs.size f cd
  outer := outer
  stack := envOfC qual scope s.heap.objs.size f cd :: outer
  ex := []
  calm := true
  fn := fun _ => true
  pn := []
  xe := fun e s' => wpAny (model P w) (A.deeper (envOfC qual scope s.heap.objs.size f cd)) (leaving (envOfC qual scope s.heap.objs.size f cd) e) (fun _ s'' => CX outer H s E e s'') (fun e' s'' => CX outer H s E e' s'') s'
theorem cell_has {sc : Scope} {n : Nat} {x : Str} (h : sc.names.lookup x = some .cell) : ∃ c, (cellsFrom n sc.names []).lookup x = some c := by
  have q := PySem.W.cellsFrom_some sc.names n [] (.inl h)
  exact Option.isSome_iff_exists.mp q
theorem inv_start {CX : CXT} {P : Program} {w : World} {K : PySem.W.Frag} {mg : Str → Option Value} {base : Heap} {N ps : List Str} {qual : Str} {scope : Scope} {f : Addr} {cd : Value} {A : Around} {outer : List Env} {s s1 : Shared} {H : Hp} {E : XK} {us : List Value} {vs : List V}
    (S : FnScope N ps scope) (hd : A.handled = none) (e0 : Env0 P w K mg base A outer s H) (hl : vs.length = ps.length) (r : Vals vs us)
    (x : InCallC s s.heap.objs.size (bindL (envOfC qual scope s.heap.objs.size f cd).kindOf (ps.zip us) fun _ => none) (cellsFrom (s.heap.objs.size + 1) scope.names []) (bindC (envOfC qual scope s.heap.objs.size f cd).kindOf (ps.zip us) fun _ => none) s1) :
    Inv (cxOf CX P w K mg base N qual scope f cd A outer s H E) [] (start N vs) H s1 := by
  have hpl : ps.length ≤ N.length := by have := congrArg List.length S.pre; rw [List.length_take] at this; omega
  obtain ⟨h1, tk, rfl, hk⟩ := x.done
  have noA : ∀ b : Addr, b ∉ (cxOf CX P w K mg base N qual scope f cd A outer s H E).ex := fun b z => absurd (show b ∈ ([] : List Addr) from z) (by simp)
  refine ⟨⟨e0.mod, S.kind, rfl, rfl, Nat.le_refl _, fun y z c h1 h2 => ?_, fun y hy => ?_, fun y c _ h => ?_, fun _ => hd, Around.frames_deeper e0.frames, .inr ⟨rfl, rfl⟩, fun b z => absurd z (noA b), e0.bs, e0.bsz, fun b _ _ => noA b, fun b z => absurd z (noA b), e0.funs, e0.frf⟩,
    rfl, e0.bare, Un.kept hk, ⟨_, x.toInCall.ns, fun i y v h1 h2 h3 => ?_⟩, fun y c h => ⟨_, x.cell y c h⟩, e0.hok.fresh (Nat.le_refl _), fun y c h => ?_, fun p hp => absurd (show p ∈ ([] : List (Addr × Obj)) from hp) (by simp), e0.hok.kept hk, ?_⟩
  · exact name_of_addr x.apart (PySem.mem_of_lookup h1) (PySem.mem_of_lookup h2)
  · have hy : scope.names.lookup y = some .cell ∨ scope.names.lookup y = some .free := hy
    rcases hy with hy | hy
    · exact cell_has hy
    · exact absurd rfl (S.nofree _ (PySem.mem_of_lookup hy))
  · exact Nat.le_of_lt (x.above y c (PySem.mem_of_lookup h))
  · have hi : i < vs.length := by
      unfold start at h2
      by_cases hi : i < vs.length
      · exact hi
      · rw [List.getElem?_append_right (by simpa using hi)] at h2
        rw [List.getElem?_replicate] at h2
        split at h2 <;> cases h2
    have ha : vs[i]? = some v := by
      unfold start at h2
      rw [List.getElem?_append_left (by simpa using hi), List.getElem?_map] at h2
      cases e : vs[i]? with
      | none => rw [e] at h2; cases h2
      | some a => rw [e] at h2; cases h2; rfl
    obtain ⟨u, hu, rv⟩ := r.get ha
    have hp : ps[i]? = some y := by
      rw [← S.pre, List.getElem?_take_of_lt (by omega)]; exact h1
    have ndP : ps.Nodup := by rw [← S.pre]; exact S.nd.sublist (List.take_sublist _ _)
    refine ⟨u, rv, ?_⟩
    rcases S.par y (List.mem_of_getElem? hp) with k | k
    · exact .inl ⟨k, bindL_get ndP hp hu k⟩
    · obtain ⟨c, e⟩ := cell_has (n := s.heap.objs.size + 1) k
      refine .inr ⟨.inl k, c, e, ?_⟩
      have q := x.cell y c e
      rw [bindC_get ndP hp hu (by show scope.names.lookup y ≠ _; rw [k]; decide)] at q
      exact q
  · exact e0.hok.fresh (Nat.le_of_lt (x.above y c (PySem.mem_of_lookup h)))
  · unfold start
    show _ = N.length
    rw [List.length_append, List.length_map, List.length_replicate]
    omega
theorem fn_of {CX : CXT} {P : Program} {w : World} {K : PySem.W.Frag} {mg : Str → Option Value} {base : Heap} {k : Nat} {f : Addr} {name qual : Str} {params : Arguments} {body : List Stmt} {scope : Scope} {dV kV doc pm cdv ct oc : Value} {an od : Option Addr}
    {osl : Array (Option Value)} {N ps : List Str} {sp : Sp} (lk : K.lookup f = some ⟨oc, od, .func (PySem.W.fnOf name qual params body scope dV kV doc pm an cdv ct), osl⟩) (hcd : PySem.W.codeIn K cdv qual = true) (S : FnScope N ps scope)
    (len : ∀ vs H Q E, sp vs H Q E → vs.length = ps.length)
    (hbody : ∀ (A : Around) (outer : List Env) (s : Shared) (H : Hp) (vs : List V) (Q : VK) (E : XK), Room k (A.deeper (envOfC qual scope s.heap.objs.size f cdv)) → sp vs H Q E →
      ∃ t, PSs (cxOf CX P w K mg base N qual scope f cdv A outer s H E) body t ∧ t { nx := fun _ H' => Q .non H', rt := Q } (start N vs) H) :
    FnOk P w K mg base CX (k + 1) f (PySem.W.fnOf name qual params body scope dV kV doc pm an cdv ct) ps sp := by
  refine ⟨len, fun A outer s H args us vs Q E hr e0 hb r hsp => ?_⟩
  have hl := len _ _ _ _ hsp
  have KX : K.In s.heap := e0.mod.kin.keeps fun b o e => (e0.bs b o e).1
  have lim : s.heap.NoLimit := e0.mod.nolimit.keeps fun b o e => (e0.bs b o e).1
  have hkind : ∀ y ∈ ps.zip us, scope.names.lookup y.1 = some .local ∨ (scope.names.lookup y.1 = some .cell ∧ ((cellsFrom (s.heap.objs.size + 1) scope.names []).lookup y.1).isSome = true) := fun ⟨n, v⟩ hy => by
    rcases S.par n (List.of_mem_zip hy).1 with q | q
    · exact .inl q
    · exact .inr ⟨q, PySem.W.cellsFrom_some _ _ _ (.inl q)⟩
  refine codeAny_call_function hr.depth (KX _ _ lk) rfl S.co S.gen rfl (PySem.W.codeRec_of KX hcd) (hb _ _ _ _ ?_)
  refine wpAny_newFunctionEnv_cells S.kind hkind fun env he s1 x => ?_
  subst he
  refine ⟨lim.keeps x.toInCall.keep, codeAny_func ?_⟩
  obtain ⟨t, ht, hq⟩ := hbody A outer s H vs Q E (hr.deeper _) hsp
  have I : Inv (cxOf CX P w K mg base N qual scope f cdv A outer s H E) [] (start N vs) H s1 := inv_start S hr.hd e0 hl r x
  refine wpAny_mono (ht [] s1 (start N vs) H _ I hq) (fun fl s' hs => ?_) fun e s' hs => hs
  have fin : ∀ {σ' : St} {H' : Hp} {v : V} {u : Value}, Inv (cxOf CX P w K mg base N qual scope f cdv A outer s H E) [] σ' H' s' → RelV v u → Q v H' → CE outer P w H s Q u s' :=
    fun {σ' H' v u} J rv q => ⟨v, H', J.os, J.bare, J.base, J.hok, rv, q⟩
  cases fl with
  | ret u =>
    obtain ⟨v, σ', H', J, rv, q⟩ := hs
    exact fin J rv q
  | next =>
    obtain ⟨σ', H', J, q⟩ := hs
    exact fin (v := V.non) (u := Value.none) J rfl q
  | brk =>
    obtain ⟨_, _, _, q⟩ := hs
    exact False.elim q
  | cont =>
    obtain ⟨_, _, _, q⟩ := hs
    exact False.elim q
end L2
namespace L2
open PySem PySem.Spec PyProof.Rows
section
variable {X : Cx} {x : Str} {p pos : Pos} {e : Expr} {es : List Expr} {t : TA} {id T : String} {r : List V → Hp → VK → Prop}
noncomputable def tCB (r : List V → Hp → VK → Prop) (t : TA) : TE := fun σ H Q => t σ H fun vs H1 => r vs H1 Q
theorem pe_callB (hc : CallR X (.builtin id) r) (hg : Gl X x) (hm : X.mg x = none) (hv : bootBuiltins x = some (.builtin id)) (ha : PA X (e :: es) t) (hn : x ≠ "__name__" := by decide) (hdb : (x == ("__debug__" : Str)) = false := by decide)
    (he : starEach (e :: es) X.env = (false, eval e X.env) :: starEach es X.env := by rfl) (hpl : (backTo pos (starEach es X.env)).any (·.1) = false := by rfl) : PE X (.Call (.Name x p) (e :: es) [] pos) (tCB r t) := by
  intro pins s σ H Q I h
  refine wpAny_Call_Name_kw (ld_blt I hg hm hv ?_ hn hdb)
  exact PyProof.Rows.callWith_builtin1 (thn (ha pos pins s σ H _ I h) fun us s1 ⟨vs, H1, I1, r1, q1⟩ => hc pins s1 σ H1 vs us Q I1 r1 q1) he hpl
theorem pe_callTy (hc : CallR X (.type T) r) (hg : Gl X x) (hm : X.mg x = none) (hv : bootBuiltins x = some (.type T)) (ha : PA X (e :: es) t) (hn : x ≠ "__name__" := by decide) (hdb : (x == ("__debug__" : Str)) = false := by decide)
    (he : starEach (e :: es) X.env = (false, eval e X.env) :: starEach es X.env := by rfl) (hpl : (backTo pos (starEach es X.env)).any (·.1) = false := by rfl) : PE X (.Call (.Name x p) (e :: es) [] pos) (tCB r t) := by
  intro pins s σ H Q I h
  refine wpAny_Call_Name_kw (ld_blt I hg hm hv ?_ hn hdb)
  exact PyProof.Rows.callWith_type1 (thn (ha pos pins s σ H _ I h) fun us s1 ⟨vs, H1, I1, r1, q1⟩ => hc pins s1 σ H1 vs us Q I1 r1 q1) he hpl
end
end L2
namespace HT
open PySem PyProof.Rows
noncomputable def lexLt : List Int → List Int → Bool
  | [], [] => false
  | [], _ :: _ => true
  | _ :: _, [] => false
  | x :: xs, y :: ys => if x = y then lexLt xs ys else decide (x < y)
theorem lexLt_cons (x y : Int) (xs ys : List Int) : lexLt (x :: xs) (y :: ys) = if x = y then lexLt xs ys else decide (x < y) := rfl
section
open PySem.SeqAt
open PySem.AutoSeq1 (wpAny_loadPart')
open PySem.MeetsSeq PySem.MeetsSeq2 PySem.MeetsSeq3
end
section
variable {prog : Program} {w : World} {A : Around} {E : Value → Shared → Prop} {s : Shared}
theorem cat_tup {t b : Addr} {vs ws : List Value} {Q : Value → Shared → Prop} (ht : IsTup s.heap t vs.toArray) (hb : IsTup s.heap b ws.toArray) (hv : vs ≠ [])
    (h1 : ws = [] → Q (.ref t) s) (h2 : ws ≠ [] → Q (.ref s.heap.objs.size) { s with heap := s.heap.push { cls := .type "tuple", data := .seq (vs ++ ws).toArray } })
    (hsz : vs.length + ws.length ≤ sizeLine) : wpAny (model prog w) A (binaryOp .Add (.ref t) (.ref b)) Q E s := by
  obtain ⟨⟨cls, dd, data, sl⟩, ho, hc, n, hd⟩ := id ht
  obtain ⟨⟨cls2, dd2, data2, sl2⟩, ho2, hc2, n2, hd2⟩ := id hb
  simp only at hc hd hc2 hd2
  subst hc hd hc2 hd2
  have e : vs.toArray ++ ws.toArray = (vs ++ ws).toArray := by simp
  by_cases hw : ws = []
  · exact concat_meets ⟨_, ho, rfl⟩ ⟨_, ho2, rfl⟩ noFill_tuple_add seq_tuple_add PySem.F.slot_tuple_add PySem.F.entry_tuple_add (PySem.F.args_tuple_add_2 _ _)
      (tuple_addW1 t b vs.toArray ws.toArray n n2 dd dd2 sl sl2 (by simpa using hv) (by simp [hw])) ⟨ho, ho2, h1 hw⟩
  · refine concat_meets ⟨_, ho, rfl⟩ ⟨_, ho2, rfl⟩ noFill_tuple_add seq_tuple_add PySem.F.slot_tuple_add PySem.F.entry_tuple_add (PySem.F.args_tuple_add_2 _ _)
      (tuple_addW2 t b vs.toArray ws.toArray n n2 dd dd2 sl sl2 (by simpa using hv) (by simpa using hw) (by rw [List.size_toArray, List.size_toArray]; exact hsz)) ⟨ho, ho2, ?_⟩
    rw [e]
    exact h2 hw
noncomputable def sIx (n d : Nat) : Option Int → Nat
  | none => d
  | some v => if v < 0 then (v + (n : Int)).toNat else min v.toNat n
theorem sIx_le (n d : Nat) (hd : d ≤ n) (o : Option Int) : sIx n d o ≤ n := by
  cases o with
  | none => exact hd
  | some v =>
    show (if v < 0 then (v + (n : Int)).toNat else min v.toNat n) ≤ n
    by_cases hv : v < 0
    · rw [if_pos hv]; omega
    · rw [if_neg hv]; exact Nat.min_le_right _ _
theorem clip_eq (v : Int) (n d : Nat) : (if v < 0 then max (v + (n : Int)) 0 else min v (n : Int)) = ((sIx n d (some v) : Nat) : Int) := by
  show (if v < 0 then max (v + (n : Int)) 0 else min v (n : Int)) = (((if v < 0 then (v + (n : Int)).toNat else min v.toNat n) : Nat) : Int)
  by_cases hv : v < 0
  · simp only [if_pos hv]; omega
  · simp only [if_neg hv]; omega
theorem adjust_gen (lo hi : Option Int) (n : Nat) : Builtin.Slice.sliceAdjust lo hi 1 (n : Int) = (((sIx n 0 lo : Nat) : Int), ((sIx n n hi : Nat) : Int)) := by
  have h1 : ¬ ((1 : Int) < 0) := by omega
  unfold Builtin.Slice.sliceAdjust
  simp only [h1, if_false]
  refine Prod.ext ?_ ?_
  · cases lo with
    | none => rfl
    | some v => exact clip_eq v n 0
  · cases hi with
    | none => rfl
    | some v => exact clip_eq v n n
theorem places_gen (i j : Nat) : Builtin.Slice.slicePlaces (i : Int) (j : Int) 1 = j - i := by
  unfold Builtin.Slice.slicePlaces
  have h1 : (1 : Int) > 0 := by omega
  simp only [h1, if_true, Int.ediv_one]
  split <;> omega
theorem slicePart_ {v : Value} {o : Option Int} {Q : Option Int → Shared → Prop} (p : IsPart v o) (h : Q o s) : wpAny (model prog w) A (Builtin.Slice.slicePartIndex v) Q E s := by
  cases p with
  | none => exact slicePart_none h
  | int i t => exact slicePart_int h
theorem sliceApplied_gen {sl : Addr} {vl vu : Value} {lo hi : Option Int} {n : Nat} {Q : Int × Int × Nat → Shared → Prop} (hs : s.heap.IsSliceOf sl vl vu .none) (pl : IsPart vl lo) (pu : IsPart vu hi)
    (h : Q (((sIx n 0 lo : Nat) : Int), 1, sIx n n hi - sIx n 0 lo) s) : wpAny (model prog w) A (Builtin.Slice.sliceApplied (.ref sl) (pure (n : Int))) Q E s := by
  obtain ⟨os, hos, hcs, hds⟩ := id hs
  unfold Builtin.Slice.sliceApplied Builtin.Slice.sliceFields
  refine wpAny_bind (wpAny_bind (wpAny_field hos hds (x := vl) rfl (wpAny_bind (wpAny_field hos hds (x := vu) rfl (wpAny_bind (wpAny_field hos hds (x := .none) rfl (wpAny_pure ?_)))))))
  refine wpAny_bind (slicePart_none ?_)
  show wpAny _ _ (if ((1 : Int) == 0) = true then _ else _) _ _ s
  rw [if_neg (by decide)]
  refine wpAny_bind (slicePart_ pl (wpAny_bind (slicePart_ pu (wpAny_bind (wpAny_pure ?_)))))
  show wpAny _ _ (match Builtin.Slice.sliceAdjust lo hi 1 (n : Int) with | (lo, hi) => pure (lo, (1 : Int), Builtin.Slice.slicePlaces lo hi 1)) _ _ s
  rw [adjust_gen lo hi n]
  show wpAny _ _ (pure (((sIx n 0 lo : Nat) : Int), (1 : Int), Builtin.Slice.slicePlaces ((sIx n 0 lo : Nat) : Int) ((sIx n n hi : Nat) : Int) 1)) _ _ s
  rw [places_gen]
  exact wpAny_pure h
theorem pick_gen (xs : Array Value) (i k : Nat) : ((List.range k).filterMap fun (m : Nat) => xs[((i : Int) + (m : Int) * 1).toNat]?).toArray = ((xs.toList.drop i).take k).toArray := by
  have e : (fun (m : Nat) => xs[((i : Int) + (m : Int) * 1).toNat]?) = fun m => xs[i + m]? := by
    funext m
    have : ((i : Int) + (m : Int) * 1).toNat = i + m := by omega
    rw [this]
  rw [e]
  have := pick_run xs i k
  rw [List.filterMap_map] at this
  have e2 : ((fun x => xs[x]?) ∘ fun x => i + x) = fun m => xs[i + m]? := rfl
  rw [e2] at this
  rw [this]
theorem getItem_tuple_cut {t sl : Addr} {items : Array Value} {vl vu : Value} {lo hi : Option Int} {Q : Value → Shared → Prop} (ht : IsTup s.heap t items) (hs : s.heap.IsSliceOf sl vl vu .none) (pl : IsPart vl lo) (pu : IsPart vu hi)
    (hw : ¬ (sIx items.size 0 lo = 0 ∧ sIx items.size items.size hi = items.size))
    (h : Q (.ref s.heap.objs.size) { s with heap := s.heap.push { cls := .type "tuple", data := .seq ((items.toList.drop (sIx items.size 0 lo)).take (sIx items.size items.size hi - sIx items.size 0 lo)).toArray } })
    (hsz : items.size ≤ sizeLine) : wpAny (model prog w) A (getItem (.ref t) (.ref sl)) Q E s := by
  have htake : sizeOk (.seq ((items.toList.drop (sIx items.size 0 lo)).take (sIx items.size items.size hi - sIx items.size 0 lo)).toArray) := by
    show ((items.toList.drop (sIx items.size 0 lo)).take (sIx items.size items.size hi - sIx items.size 0 lo)).toArray.size ≤ sizeLine
    rw [List.size_toArray, List.length_take, List.length_drop, Array.length_toList]
    omega
  have hj : sIx items.size items.size hi ≤ items.size := sIx_le _ _ (Nat.le_refl _) hi
  obtain ⟨os, hos, hcs, hds⟩ := id hs
  have hTs : s.TypeIs (.ref sl) "slice" := ⟨os, hos, hcs⟩
  unfold getItem
  try with_reducible refine wpAny_holding ?_
  first | refine wpAny_bind (wpAny_pure ?_) | skip
  refine wpAny_bind (wpAny_sequenceKey ht.typeIs (by decide) ?_)
  refine wpAny_bind (wpAny_callSpecial?_slot (name := Str.ofString "__getitem__") ht.typeIs PyProof.Rows.slot_tuple_getitem
    (wpAny_call_entry PyProof.Rows.slot_tuple_getitem ht.typeIs entry_tuple_getitem ?_ (args_tuple_getitem _ _)))
  show wpAny _ _ (Builtin.Tuple.tupleItemsOf (.ref t) >>= _) _ _ s
  refine wpAny_bind (tupleItemsOf_ ht ?_)
  refine wpAny_bind (wpAny_typeOf hTs ?_)
  rw [if_pos (by decide)]
  refine wpAny_bind (sliceApplied_gen hs pl pu ?_)
  have hno : ¬ ((((sIx items.size 0 lo : Nat) : Int) == 0 && (1 : Int) == 1 && (sIx items.size items.size hi - sIx items.size 0 lo) == items.size) = true) := by
    intro q
    rw [Bool.and_eq_true, Bool.and_eq_true] at q
    have q1 : ((sIx items.size 0 lo : Nat) : Int) = 0 := eq_of_beq q.1.1
    have q2 : sIx items.size items.size hi - sIx items.size 0 lo = items.size := eq_of_beq q.2
    exact hw ⟨by omega, by omega⟩
  show wpAny _ _ (if (((sIx items.size 0 lo : Nat) : Int) == 0 && (1 : Int) == 1 && (sIx items.size items.size hi - sIx items.size 0 lo) == items.size) = true then _ else _) _ _ s
  rw [if_neg hno, pick_gen]
  first
    | exact wpAny_bind (m := Builtin.Tuple.tupleExact _) (wpAny_newObj_type (wpAny_pure ⟨_, rfl, wpAny_pure h⟩) htake)
    | exact wpAny_bind (m := Builtin.Tuple.tupleExact _) (wpAny_newObj_type (wpAny_bind (wpAny_pure (wpAny_pure ⟨_, rfl, wpAny_pure h⟩))) htake)
    | exact wpAny_bind (wpAny_bind (m := Builtin.Tuple.tupleExact _) (wpAny_newObj_type (wpAny_pure (wpAny_pure ⟨_, rfl, wpAny_pure h⟩)) htake))
    | exact wpAny_bind (wpAny_bind (m := Builtin.Tuple.tupleExact _) (wpAny_newObj_type (wpAny_pure ⟨_, rfl, wpAny_pure h⟩) htake))
end
end HT
namespace L2
open PySem PySem.Spec PyProof.Rows
noncomputable abbrev TO := St → Hp → (Option Int → Hp → Prop) → Prop
noncomputable def PO (X : Cx) (e : Option Expr) (t : TO) : Prop :=
  ∀ (pins : List (Addr × Obj)) (s : Shared) (σ : St) (H : Hp) (Q : Option Int → Hp → Prop), Inv X pins σ H s → t σ H Q →
    wpAny (model X.prog X.w) X.A (evalPart e X.env) (fun u s' => ∃ o H', Inv X pins σ H' s' ∧ IsPart u o ∧ Q o H') X.xe s
noncomputable def tNoPart : TO := fun _ H Q => Q none H
noncomputable def tPart (t : TE) : TO := fun σ H Q => t σ H fun x H1 => ∃ i, x = .int i ∧ Q (some i) H1
section
variable {X : Cx} {e : Expr} {te : TE} {lo hi : Option Expr} {tl th : TO} {pos p2 : Pos}
theorem po_none : PO X none tNoPart := by
  intro pins s σ H Q I h
  rw [evalPart_none]
  exact wpAny_pure ⟨none, H, I, .none, h⟩
theorem po_some (h : PE X e te) : PO X (some e) (tPart te) := by
  intro pins s σ H Q I hw
  rw [evalPart_some]
  refine thn (h pins s σ H _ I hw) fun u s1 h_0 => ?_
  obtain ⟨x, H1, I1, r1, q1⟩ := h_0
  obtain ⟨i, rfl, q⟩ := q1
  obtain ⟨t, rfl⟩ := r1
  exact ⟨some i, H1, I1, .int i t, q⟩
noncomputable def SlR (X : Cx) (r : V → Option Int → Option Int → Hp → VK → Prop) : Prop :=
  ∀ (pins : List (Addr × Obj)) (s : Shared) (σ : St) (H : Hp) (x : V) (v vl vu : Value) (lo hi : Option Int) (sl : Addr) (Q : VK), Inv X pins σ H s → RelV x v → s.heap.IsSliceOf sl vl vu .none → IsPart vl lo → IsPart vu hi → r x lo hi H Q →
    ∃ T id, typeLookup (.type T) "__getitem__" = pure (some (.builtin id)) ∧ s.TypeIs v T ∧ wpAny (model X.prog X.w) X.A (getItem v (.ref sl)) (EP X pins σ Q) X.xe s
theorem SlR.or {r r' : V → Option Int → Option Int → Hp → VK → Prop} (h : SlR X r) (h' : SlR X r') : SlR X (fun x lo hi H Q => r x lo hi H Q ∨ r' x lo hi H Q) := by
  intro pins s σ H x v vl vu lo hi sl Q I rx hs pl pu q
  rcases q with q | q
  · exact h pins s σ H x v vl vu lo hi sl Q I rx hs pl pu q
  · exact h' pins s σ H x v vl vu lo hi sl Q I rx hs pl pu q
noncomputable def tSl (r : V → Option Int → Option Int → Hp → VK → Prop) (te : TE) (tl th : TO) : TE := fun σ H Q => te σ H fun x H1 => tl σ H1 fun l H2 => th σ H2 fun u H3 => r x l u H3 Q
theorem pe_slice {r : V → Option Int → Option Int → Hp → VK → Prop} (hr : SlR X r) (he : PE X e te) (hl : PO X lo tl) (hu : PO X hi th) : PE X (.Subscript e (.Slice lo hi none p2) pos) (tSl r te tl th) := by
  intro pins s σ H Q I h
  refine Subscript_ (thn (he pins s σ H _ I h) fun v s1 h_0 => ?_)
  obtain ⟨x, H1, I1, r1, q1⟩ := h_0
  refine wpAny_Slice (thn (hl pins s1 σ H1 _ I1 q1) fun vl s2 ⟨l, H2, I2, pl, q2⟩ => thn (hu pins s2 σ H2 _ I2 q2) fun vu s3 ⟨u, H3, I3, pu, q3⟩ => ?_)
  rw [evalPart_none]
  refine wpAny_pure ?_
  have I4 : Inv X pins σ H3 { s3 with heap := s3.heap.push { cls := .type "slice", data := .fields #[vl, vu, .none] } } := I3.kept (t' := s3.toks) fun b ob q => Heap.get?_push_of_some _ q
  obtain ⟨T, id, hT, ht, hg⟩ := hr pins { s3 with heap := s3.heap.push { cls := .type "slice", data := .fields #[vl, vu, .none] } } σ H3 x v vl vu l u s3.heap.objs.size Q I4 r1 (Heap.IsSliceOf.new ..) pl pu q3
  show wpAny (model X.prog X.w) X.A (subscriptTail e (.Slice lo hi none p2) v (.ref s3.heap.objs.size)) (EP X pins σ Q) X.xe { s3 with heap := s3.heap.push { cls := .type "slice", data := .fields #[vl, vu, .none] } }
  exact tail_any (ops := [.ref s3.heap.objs.size, v]) ht hT hg (by with_unfolding_all rfl)
noncomputable def cutV (xs : List V) (lo hi : Option Int) : List V := (xs.drop (HT.sIx xs.length 0 lo)).take (HT.sIx xs.length xs.length hi - HT.sIx xs.length 0 lo)
theorem cutV_length (xs : List V) (lo hi : Option Int) : (cutV xs lo hi).length ≤ xs.length := by
  unfold cutV
  rw [List.length_take, List.length_drop]
  omega
noncomputable def rSlT (K : PySem.W.Frag) : V → Option Int → Option Int → Hp → VK → Prop := fun x lo hi H Q => ∃ a xs, x = .ref a ∧ SqT K H a xs ∧
  ¬ (HT.sIx xs.length 0 lo = 0 ∧ HT.sIx xs.length xs.length hi = xs.length) ∧ ∀ p, H p = none → Q (.ref p) (upd H p (.tup (cutV xs lo hi)))
theorem sl_tup : SlR X (rSlT X.K) := by
  intro pins s σ H x v vl vu lo hi sl Q I rx hs pl pu h
  obtain ⟨a, xs, rfl, hx, hw, q⟩ := h
  cases rx
  obtain ⟨its, r, ht, hz⟩ := I.tuple hx
  have hlen : its.toArray.size = xs.length := by rw [List.size_toArray]; exact r.length.symm
  refine ⟨"tuple", _, PyProof.Rows.slot_tuple_getitem.lookup, ht.typeIs, ?_⟩
  refine HT.getItem_tuple_cut ht hs pl pu (by rw [hlen]; exact hw) ?_ (by rw [hlen]; exact hz)
  rw [hlen]
  refine ⟨.ref s.heap.objs.size, _, I.laid (t' := s.toks) (o := .tup (cutV xs lo hi)) (fun b ob q => Heap.get?_push_of_some _ q) (Nat.le_refl _) ?_, rfl, q _ (I.hok.fresh (Nat.le_refl _))⟩
  exact ⟨Nat.le_trans (cutV_length xs lo hi) hz, _, (r.drop (HT.sIx xs.length 0 lo)).take (HT.sIx xs.length xs.length hi - HT.sIx xs.length 0 lo), IsTup.new _ _⟩
noncomputable def rCatT (K : PySem.W.Frag) : R2 := fun x y H Q => ∃ a b xs ys, x = .ref a ∧ y = .ref b ∧ SqT K H a xs ∧ SqT K H b ys ∧ xs ≠ [] ∧ xs.length + ys.length ≤ sizeLine ∧
  (ys = [] → Q (.ref a) H) ∧ (ys ≠ [] → ∀ p, H p = none → Q (.ref p) (upd H p (.tup (xs ++ ys))))
theorem Vals.nil_iff {xs : List V} {us : List Value} (r : Vals xs us) : us = [] ↔ xs = [] := by
  cases r with
  | nil => simp
  | cons _ _ => simp
theorem op_catT : OpR X (binaryOp .Add) (rCatT X.K) := by
  intro pins s σ H x y v u Q I rx ry h
  obtain ⟨a, b, xs, ys, rfl, rfl, ha, hb, hx, hz, q1, q2⟩ := h
  cases rx
  cases ry
  obtain ⟨its, r1, p1, _⟩ := I.tuple ha
  obtain ⟨its2, r2, p2, _⟩ := I.tuple hb
  refine HT.cat_tup p1 p2 (fun z => hx (r1.nil_iff.mp z)) (fun z => ⟨.ref a, H, I, rfl, q1 (r2.nil_iff.mp z)⟩) (fun z => ?_) (by rw [← r1.length, ← r2.length]; exact hz)
  refine ⟨.ref s.heap.objs.size, _, I.laid (t' := s.toks) (o := .tup (xs ++ ys)) (fun b ob q => Heap.get?_push_of_some _ q) (Nat.le_refl _) ?_, rfl, q2 (fun w => z (r2.nil_iff.mpr w)) _ (I.hok.fresh (Nat.le_refl _))⟩
  exact ⟨by rw [List.length_append]; exact hz, _, r1.append r2, IsTup.new _ _⟩
end
end L2
namespace L2
open PySem PySem.Spec PyProof.Rows
noncomputable def ixN (n : Nat) (i : Int) : Option Nat := if 0 ≤ i then (if i < n then some i.toNat else none) else if -(n : Int) ≤ i then some (i + n).toNat else none
noncomputable def atI {α : Type} (xs : List α) (i : Int) : Option α := (ixN xs.length i).bind fun j => xs[j]?
theorem ixN_seq {n : Nat} {i : Int} {j : Nat} (h : ixN n i = some j) : seqIndex? i n = some j ∧ j < n ∧ -(n : Int) ≤ i ∧ i < n := by
  unfold ixN at h
  by_cases h0 : 0 ≤ i
  · rw [if_pos h0] at h
    by_cases h1 : i < n
    · rw [if_pos h1] at h
      have e : i.toNat = j := Option.some.inj h
      exact ⟨by rw [seqIndex_of h0 h1, e], by omega, by omega, h1⟩
    · rw [if_neg h1] at h; cases h
  · rw [if_neg h0] at h
    by_cases h1 : -(n : Int) ≤ i
    · rw [if_pos h1] at h
      have e : (i + n).toNat = j := Option.some.inj h
      exact ⟨by rw [seqIndex_neg (by omega) h1, e], by omega, h1, by omega⟩
    · rw [if_neg h1] at h; cases h
theorem atI_get {α : Type} {xs : List α} {i : Int} {v : α} (h : atI xs i = some v) : ∃ j, seqIndex? i xs.length = some j ∧ xs[j]? = some v ∧ j < xs.length ∧ -(xs.length : Int) ≤ i ∧ i < xs.length := by
  unfold atI at h
  cases e : ixN xs.length i with
  | none => rw [e] at h; cases h
  | some j =>
    rw [e] at h
    obtain ⟨h1, h2, h3, h4⟩ := ixN_seq e
    exact ⟨j, h1, h, h2, h3, h4⟩
noncomputable def PlainIx (b : Expr) : Prop := ∀ o i, subscripted b false o i = operate [o, i] (getItem o i)
noncomputable def IxR (X : Cx) (r : R2) : Prop :=
  ∀ (value slice : Expr) (pins : List (Addr × Obj)) (s : Shared) (σ : St) (H : Hp) (x y : V) (v u : Value) (Q : VK), Inv X pins σ H s → RelV x v → RelV y u → r x y H Q →
    subscripted slice false v u = operate [v, u] (getItem v u) → wpAny (model X.prog X.w) X.A (subscriptTail value slice v u) (EP X pins σ Q) X.xe s
noncomputable def MtR (X : Cx) (id : String) (r : V → List V → Hp → VK → Prop) : Prop :=
  ∀ (pins : List (Addr × Obj)) (s : Shared) (σ : St) (H : Hp) (x : V) (xs : List V) (v : Value) (us : List Value) (Q : VK), Inv X pins σ H s → RelV x v → Vals xs us → r x xs H Q →
    wpAny (model X.prog X.w) X.A (call (.builtin id) (v :: us)) (EP X pins σ Q) X.xe s
section
variable {X : Cx} {a b : Expr} {ta tb : TE} {pos : Pos}
theorem IxR.or {r r' : R2} (h : IxR X r) (h' : IxR X r') : IxR X (fun x y H Q => r x y H Q ∨ r' x y H Q) := by
  intro value slice pins s σ H x y v u Q I rx ry q hs
  rcases q with q | q
  · exact h value slice pins s σ H x y v u Q I rx ry q hs
  · exact h' value slice pins s σ H x y v u Q I rx ry q hs
theorem pe_ix {r : R2} (hr : IxR X r) (ha : PE X a ta) (hb : PE X b tb) (hs : PlainIx b) : PE X (.Subscript a b pos) (tOp r ta tb) := by
  intro pins s σ H Q I h
  exact Subscript_ (binT ha hb I h fun v u s2 x y H2 I2 rx ry q => hr a b pins s2 σ H2 x y v u Q I2 rx ry q (hs _ _))
noncomputable def rIxL (K : PySem.W.Frag) : R2 := fun x y H Q => ∃ p xs i v, x = .ref p ∧ y = .int i ∧ SqL K H p xs ∧ atI xs i = some v ∧ Q v H
noncomputable def rIxT (K : PySem.W.Frag) : R2 := fun x y H Q => ∃ p xs i v, x = .ref p ∧ y = .int i ∧ SqT K H p xs ∧ atI xs i = some v ∧ Q v H
theorem ix_list : IxR X (rIxL X.K) := by
  intro value slice pins s σ H x y v u Q I rx ry h hs
  obtain ⟨p, xs, i, z, rfl, rfl, hq, he, q⟩ := h
  cases rx
  obtain ⟨t, rfl⟩ := ry
  obtain ⟨its, r, pl, hz⟩ := I.list hq
  obtain ⟨j, h1, h2, h3, h4, h5⟩ := atI_get he
  obtain ⟨w, ew, rw'⟩ := r.get h2
  have hl := r.length
  have hn := line63
  have fin : EP X pins σ Q w s := ⟨z, H, I, rw', q⟩
  by_cases h0 : 0 ≤ i
  · have hj : i.toNat = j := by
      rw [seqIndex_of h0 h5] at h1
      exact Option.some.inj h1
    exact item_listR pl.isList h0 (by omega) (by rw [hj]; simpa using ew) fin hs
  · have hj : (i + (its.toArray.size : Int)).toNat = j := by
      rw [seqIndex_neg (by omega) h4] at h1
      rw [List.size_toArray, ← hl]
      exact Option.some.inj h1
    exact subscriptTail_builtinR (x := w) pl.isList.typeIs slot_list_getitem.lookup
      (wpAny_getItem_list_neg (Q := fun r s' => r = w ∧ EP X pins σ Q r s') pl.isList (by omega) (by rw [List.size_toArray] <;> omega) (by omega) (by rw [hj]; simpa using ew) ⟨rfl, fin⟩) hs
theorem ix_tup : IxR X (rIxT X.K) := by
  intro value slice pins s σ H x y v u Q I rx ry h hs
  obtain ⟨p, xs, i, z, rfl, rfl, hq, he, q⟩ := h
  cases rx
  obtain ⟨t, rfl⟩ := ry
  obtain ⟨its, r, pl, hz⟩ := I.tuple hq
  obtain ⟨j, h1, h2, h3, h4, h5⟩ := atI_get he
  obtain ⟨w, ew, rw'⟩ := r.get h2
  have hl := r.length
  have hn := line63
  have fin : EP X pins σ Q w s := ⟨z, H, I, rw', q⟩
  exact subscriptTail_builtinR (x := w) pl.typeIs slot_tuple_getitem.lookup
    (getItem_tuple (j := j) (Q := fun r s' => r = w ∧ EP X pins σ Q r s') pl (by omega) (by omega) (by rw [List.size_toArray, ← hl]; exact h1) (by simpa using ew) ⟨rfl, fin⟩) hs
theorem mapSeq_set (its : List Value) (n j : Nat) (u : Value) : Obj.mapSeq (·.setIfInBounds j u) { cls := .type "list", data := .seq its.toArray n } = { cls := .type "list", data := .seq (its.set j u).toArray n } := by
  simp [Obj.mapSeq]
theorem Inv.lst {pins : List (Addr × Obj)} {σ : St} {H : Hp} {s : Shared} {p : Addr} {xs : List V} (I : Inv X pins σ H s) (h : H p = some (.lst xs)) :
    ∃ (its : List Value) (n : Nat), Vals xs its ∧ s.heap.get? p = some { cls := .type "list", data := .seq its.toArray n } ∧ xs.length ≤ sizeLine := by
  obtain ⟨z, its, n, r, e⟩ := I.hok p _ h
  exact ⟨its, n, r, e, z⟩
theorem Inv.lstUpd {pins : List (Addr × Obj)} {σ : St} {H : Hp} {s : Shared} {p : Addr} {xs ys : List V} {its its' : List Value} {n n' : Nat} {f : Obj → Obj} (I : Inv X pins σ H s) (h : H p = some (.lst xs))
    (ho : s.heap.get? p = some { cls := .type "list", data := .seq its.toArray n }) (hf : f { cls := .type "list", data := .seq its.toArray n } = { cls := .type "list", data := .seq its'.toArray n' }) (r : Vals ys its') (hz : ys.length ≤ sizeLine) (t : Nat) :
    Inv X pins σ (upd H p (.lst ys)) { s with heap := s.heap.update p f, toks := t } := by
  have e : (s.heap.update p f).get? p = some { cls := .type "list", data := .seq its'.toArray n' } := by
    rw [Heap.get?_update_self f ho (by rw [hf] <;> rfl), hf]
  refine I.write (x := p) (e := p) (by rw [h]; trivial) (.inl rfl) (fun b u hb q => (Heap.get?_update_other _ _ (Ne.symm hb)).trans q) ⟨_, e⟩ ?_
  exact ⟨hz, its', n', r, e⟩
noncomputable def rSetL : V → V → V → Hp → (Hp → Prop) → Prop := fun o i v H Q => ∃ p xs k j, o = .ref p ∧ i = .int k ∧ H p = some (.lst xs) ∧ ixN xs.length k = some j ∧ Q (upd H p (.lst (xs.set j v)))
theorem set_list : PSet X rSetL := by
  intro pins s σ H o i v ov iv u Q I ro ri rv h
  obtain ⟨p, xs, k, j, rfl, rfl, hp, hj, q⟩ := h
  cases ro
  obtain ⟨t, rfl⟩ := ri
  obtain ⟨its, n, r, ho, hz⟩ := I.lst hp
  obtain ⟨h1, h2, h3, h4⟩ := ixN_seq hj
  have hl := r.length
  have hn := line63
  have I' : Inv X pins σ (upd H p (.lst (xs.set j v))) { s with heap := s.heap.update p (Obj.mapSeq (·.setIfInBounds j u)) } :=
    I.lstUpd hp ho (mapSeq_set its n j u) (r.set rv j) (by rw [List.length_set]; exact hz) s.toks
  by_cases h0 : 0 ≤ k
  · have hk : k.toNat = j := by
      rw [seqIndex_of h0 h4] at h1
      exact Option.some.inj h1
    exact PySem.W.ki_setAt ho h0 (by omega) (by rw [List.size_toArray, ← hl]; exact h4) (by rw [hk]; exact ⟨_, I', q⟩)
  · have hk : (k + (its.toArray.size : Int)).toNat = j := by
      rw [seqIndex_neg (by omega) h3] at h1
      rw [List.size_toArray, ← hl]
      exact Option.some.inj h1
    exact PySem.W.ki_setBack ho (by omega) (by rw [List.size_toArray, ← hl]; exact h3) (by omega) (by rw [hk]; exact ⟨_, I', q⟩)
theorem slice_bounds (lo hi : Option Int) (n : Nat) : (sliceBounds lo hi none n).1 = ((HT.sIx n 0 lo : Nat) : Int) ∧ (sliceBounds lo hi none n).2.1 = ((HT.sIx n n hi : Nat) : Int) ∧ (sliceBounds lo hi none n).2.2 = 1 := by
  refine ⟨?_, ?_, rfl⟩
  · cases lo with
    | none => simp [sliceBounds, HT.sIx]
    | some i =>
      simp only [sliceBounds, HT.sIx, Option.getD_none, show (1 : Int) > 0 by decide, if_true]
      by_cases h : i < 0
      · simp only [h, if_true] <;> omega
      · simp only [h, if_false] <;> omega
  · cases hi with
    | none => simp [sliceBounds, HT.sIx]
    | some i =>
      simp only [sliceBounds, HT.sIx, Option.getD_none, show (1 : Int) > 0 by decide, if_true]
      by_cases h : i < 0
      · simp only [h, if_true] <;> omega
      · simp only [h, if_false] <;> omega
theorem slicePick_cut (its : List Value) (lo hi : Option Int) : slicePick its.toArray lo hi none = ((its.drop (HT.sIx its.length 0 lo)).take (HT.sIx its.length its.length hi - HT.sIx its.length 0 lo)).toArray := by
  obtain ⟨h1, h2, h3⟩ := slice_bounds lo hi its.toArray.size
  unfold slicePick
  rw [h1, h2, h3]
  simp only [sliceRange_one, pick_run, List.size_toArray] <;> rfl
noncomputable def rSlL (K : PySem.W.Frag) : V → Option Int → Option Int → Hp → VK → Prop := fun x lo hi H Q => ∃ a xs, x = .ref a ∧ SqL K H a xs ∧ ∀ p, H p = none → Q (.ref p) (upd H p (.lst (cutV xs lo hi)))
theorem sl_list : SlR X (rSlL X.K) := by
  intro pins s σ H x v vl vu lo hi sl Q I rx hs pl pu h
  obtain ⟨a, xs, rfl, hx, q⟩ := h
  cases rx
  obtain ⟨its, r, ht, hz⟩ := I.list hx
  have hlen := r.length
  refine ⟨"list", _, slot_list_getitem.lookup, ht.isList.typeIs, ?_⟩
  refine wpAny_getItem_list_slice ht.isList hs pl pu .none (by simp) ?_ (by rw [List.size_toArray] <;> omega)
  rw [slicePick_cut, ← hlen]
  refine ⟨.ref s.heap.objs.size, _, I.laid (t' := s.toks) (o := .lst (cutV xs lo hi)) (fun b ob q => Heap.get?_push_of_some _ q) (Nat.le_refl _) ?_, rfl, q _ (I.hok.fresh (Nat.le_refl _))⟩
  exact ⟨Nat.le_trans (cutV_length xs lo hi) hz, _, 0, (r.drop (HT.sIx xs.length 0 lo)).take (HT.sIx xs.length xs.length hi - HT.sIx xs.length 0 lo), Heap.get?_push_size _ rfl⟩
theorem call_len_seq : CallR X (.builtin "len") (fun xs H Q => ∃ p ys, xs = [.ref p] ∧ (SqL X.K H p ys ∨ SqT X.K H p ys) ∧ Q (.int ys.length) H) := by
  intro pins s σ H xs us Q I r h
  obtain ⟨p, ys, rfl, hq, q⟩ := h
  obtain ⟨u, rfl, rx⟩ := vals1 r
  cases rx
  have hn := line63
  rcases hq with hq | hq
  · obtain ⟨its, r', pl, hz⟩ := I.list hq
    have hlen := r'.length
    exact Calls.call_len_list pl.isList (by simp only [List.size_toArray] <;> omega) ⟨.int ys.length, H, I.tok _, ⟨s.toks + 1, by rw [List.size_toArray, hlen]⟩, q⟩
  · obtain ⟨its, r', pl, hz⟩ := I.tuple hq
    have hlen := r'.length
    exact len_tuple pl (by simp only [List.size_toArray] <;> omega) ⟨.int ys.length, H, I.tok _, ⟨s.toks + 1, by rw [List.size_toArray, hlen]⟩, q⟩
theorem call_tuple_of : CallR X (.type "tuple") (fun xs H Q => ∃ p ys, xs = [.ref p] ∧ ((SqL X.K H p ys ∧ ∀ l, H l = none → Q (.ref l) (upd H l (.tup ys))) ∨ (SqT X.K H p ys ∧ Q (.ref p) H))) := by
  intro pins s σ H xs us Q I r h
  obtain ⟨p, ys, rfl, h⟩ := h
  obtain ⟨u, rfl, rx⟩ := vals1 r
  cases rx
  rcases h with ⟨hq, q⟩ | ⟨hq, q⟩
  · obtain ⟨its, r', pl, hz⟩ := I.list hq
    have hlen := r'.length
    refine call_tuple_list pl.isList (fun h' kp => ?_) (by simp only [List.size_toArray] <;> omega)
    have I1 : Inv X pins σ H { s with heap := h' } := I.kept (t' := s.toks) kp
    have I2 : Inv X pins σ (upd H h'.objs.size (.tup ys)) { s with heap := h'.push { cls := .type "tuple", data := .seq its.toArray } } :=
      I1.laid (t' := s.toks) (fun b o e => Heap.get?_push_of_some _ e) (Nat.le_refl _) (show ObjOk X.prog X.w _ _ _ (.tup ys) from ⟨hz, its, r', IsTup.new _ _⟩)
    exact ⟨.ref h'.objs.size, _, I2, rfl, q _ (I1.hok.fresh (Nat.le_refl _))⟩
  · obtain ⟨its, r', pl, hz⟩ := I.tuple hq
    exact call_tuple_same pl ⟨.ref p, H, I, rfl, q⟩
noncomputable def tyV (K : PySem.W.Frag) (T : String) (x : V) (H : Hp) : Prop := match x with
  | .str _ => T = "str"
  | .int _ => T = "int"
  | .ref p => (T = "list" ∧ ∃ xs, SqL K H p xs) ∨ (T = "tuple" ∧ ∃ o, K.lookup p = some o ∧ o.cls = .type "tuple" ∧ o.dict = none) ∨
      (T = "dict" ∧ ((∃ kvs, H p = some (.dK kvs)) ∨ ∃ kvs, H p = some (.dT kvs))) ∨ (T = "set" ∧ ∃ S n, H p = some (.set S n))
  | _ => False
theorem tyV_is {pins : List (Addr × Obj)} {σ : St} {H : Hp} {s : Shared} {T : String} {x : V} {v : Value} (I : Inv X pins σ H s) (r : RelV x v) (ty : tyV X.K T x H) :
    s.TypeIs v T ∧ ∀ a, v = .ref a → ∃ ob, s.heap.get? a = some ob ∧ ob.dict = none := by
  cases x with
  | str z =>
    obtain ⟨t, rfl⟩ := r
    cases (show T = "str" from ty)
    exact ⟨typeIs_str s z t, fun _ e => nomatch e⟩
  | int i =>
    obtain ⟨t, rfl⟩ := r
    cases (show T = "int" from ty)
    exact ⟨typeIs_int s i t, fun _ e => nomatch e⟩
  | ref p =>
    cases r
    rcases ty with ⟨rfl, xs, hq⟩ | ⟨rfl, o, hk, hc, hd⟩ | ⟨rfl, hk⟩ | ⟨rfl, S, n, hk⟩
    · obtain ⟨its, _, pl, _⟩ := I.list hq
      refine ⟨pl.isList.typeIs, fun a e => ?_⟩
      cases e
      obtain ⟨o, n, e, c, hd, _⟩ := pl
      exact ⟨o, e, hd⟩
    · refine ⟨⟨o, I.kIn p o hk, hc⟩, fun a e => ?_⟩
      cases e
      exact ⟨o, I.kIn _ o hk, hd⟩
    · have z : ∃ o, s.heap.get? p = some o ∧ o.ExactDict := by
        rcases hk with ⟨kvs, hk⟩ | ⟨kvs, hk⟩
        · obtain ⟨_, _, _, _, o, _, _, e, ex, _⟩ := I.hok p _ hk
          exact ⟨o, e, ex⟩
        · obtain ⟨_, _, _, _, o, _, _, e, ex, _⟩ := I.hok p _ hk
          exact ⟨o, e, ex⟩
      obtain ⟨o, e, ex⟩ := z
      refine ⟨⟨o, e, ex.1⟩, fun a e2 => ?_⟩
      cases e2
      exact ⟨o, e, ex.2.1⟩
    · obtain ⟨o, _, _, _, e, ex, _⟩ := I.hok p _ hk
      refine ⟨⟨o, e, ex.1⟩, fun a e2 => ?_⟩
      cases e2
      exact ⟨o, e, ex.2.1⟩
  | _ => exact False.elim ty
noncomputable def tBM (K : PySem.W.Frag) (T : String) (r : V → List V → Hp → VK → Prop) (to : TE) (t : TA) : TE := fun σ H Q => to σ H fun x H1 => tyV K T x H1 ∧ t σ H1 fun xs H2 => r x xs H2 Q
variable {o e : Expr} {es : List Expr} {to : TE} {t : TA} {name : Str} {apos cpos : Pos} {T id : String} {r : V → List V → Hp → VK → Prop}
theorem pe_bm (pa : PlainAttrs T) (slot : Slot T name id) (hty : typeOf (.builtin id) = pure (.type "method_descriptor")) (hm : MtR X id r) (ho : PE X o to) (ha : PA X (e :: es) t)
    (hbase : attributeBase o name X.env (eval o X.env) = eval o X.env := by rfl)
    (hfew : ((backTo cpos (starEach (e :: es) X.env)).all (fun x => !x.1) && (backToKw cpos (keywordEach [] X.env)).all (fun x => x.1.isSome)
      && decide ((e :: es).length + ([] : List Keyword).length + (if ([] : List Keyword).isEmpty then 0 else 1) < 30)) = true := by rfl)
    (hline : (apos.endLine == cpos.line) = true := by rfl) (hs : starEach (e :: es) X.env = (false, eval e X.env) :: starEach es X.env := by rfl) (hplain : (backTo cpos (starEach es X.env)).any (·.1) = false := by rfl) :
    PE X (.Call (.Attribute o name apos) (e :: es) [] cpos) (tBM X.K T r to t) := by
  intro pins s σ H Q I h
  refine wpAny_Call_method_late hbase hfew hline rfl (thn (ho pins s σ H _ I h) fun v s1 h_0 => ?_)
  obtain ⟨x, H1, I1, r1, ty, q1⟩ := h_0
  obtain ⟨h1, h2⟩ := tyV_is I1 r1 ty
  refine ⟨T, id, pa, slot, hty, h1, h2, ?_⟩
  have hA := ha cpos pins s1 σ H1 _ I1 q1
  rw [hs] at hA ⊢
  refine Calls.callWith_builtin (by show (false || (backTo cpos (starEach es X.env)).any (·.1)) = false; rw [hplain] <;> rfl) (Calls.evalArgs_plain ?_)
  exact thn hA fun us s2 h_0 => by obtain ⟨vs, H2, I2, r2, q2⟩ := h_0; exact hm pins s2 σ H2 x vs v us Q I2 r1 r2 q2
end
end L2
namespace L2
open PySem PySem.Spec PyProof.Rows
noncomputable def MtM (X : Cx) (id : String) (r : V → List V → Hp → VK → Prop) : Prop :=
  ∀ (pins : List (Addr × Obj)) (s : Shared) (σ : St) (H : Hp) (x : V) (xs : List V) (v : Value) (us : List Value) (Q : VK), Inv X pins σ H s → RelV x v → Vals xs us → r x xs H Q →
    wpAny (model X.prog X.w) X.A (call (.builtin id) (v :: us)) (EP X pins σ Q) X.xe s
theorem Vals.one : ∀ {x : V} {us : List Value}, Vals [x] us → ∃ u, us = [u] ∧ RelV x u
  := by
  intro x us h
  cases h with
  | cons r t => cases t; exact ⟨_, rfl, r⟩
theorem Vals.zero : ∀ {us : List Value}, Vals [] us → us = []
  | _, .nil => rfl
theorem Vals.rep {xs : List V} {us : List Value} (h : Vals xs us) : ∀ k : Nat, Vals (List.replicate k xs).flatten (List.replicate k us).flatten
  | 0 => .nil
  | k + 1 => by
    rw [List.replicate_succ, List.replicate_succ, List.flatten_cons, List.flatten_cons]
    exact Vals.append h (Vals.rep h k)
theorem foldl_rep (its : List Value) : ∀ (k : Nat) (acc : List Value),
    List.foldl (fun x1 x2 => x1 ++ x2) acc.toArray (List.replicate k its.toArray) = (acc ++ (List.replicate k its).flatten).toArray
  | 0, acc => by simp
  | k + 1, acc => by
    have e : acc.toArray ++ its.toArray = (acc ++ its).toArray := by simp
    have e2 : (acc ++ its) ++ (List.replicate k its).flatten = acc ++ (List.replicate (k + 1) its).flatten := by
      rw [List.replicate_succ, List.flatten_cons, List.append_assoc]
    rw [← e2, ← foldl_rep its k (acc ++ its), ← e, List.replicate_succ, List.foldl_cons]
section
variable {X : Cx} {pins : List (Addr × Obj)} {σ : St} {H : Hp} {s : Shared} {l b : Addr} {xs ys zs : List V}
theorem Inv.lset {its its' : List Value} {n : Nat} {f : Array Value → Array Value} {t' : Nat} (I : Inv X pins σ H s) (hH : H l = some (.lst xs))
    (e : s.heap.get? l = some { cls := .type "list", data := .seq its.toArray n }) (hf : f its.toArray = its'.toArray) (hv : Vals ys its') (hz : ys.length ≤ sizeLine) :
    Inv X pins σ (upd H l (.lst ys)) { s with heap := s.heap.update l (Obj.mapSeq f), toks := t' } := by
  have q := PySem.IsL.update e f
  rw [hf] at q
  refine I.write (x := l) (e := l) (by rw [hH]; exact trivial) (.inl rfl) (fun b' u hb hu => (Heap.get?_update_other s.heap (Obj.mapSeq f) (Ne.symm hb)).trans hu) ⟨_, q⟩ ?_
  exact ⟨hz, its', _, hv, q⟩
theorem Inv.lnew {its : List Value} {t' : Nat} (I : Inv X pins σ H s) (hv : Vals ys its) (hz : ys.length ≤ sizeLine) :
    Inv X pins σ (upd H s.heap.objs.size (.lst ys)) { s with heap := s.heap.push { cls := .type "list", data := .seq its.toArray }, toks := t' } :=
  I.laid (fun _ _ q => Heap.get?_push_of_some _ q) (Nat.le_refl _) ⟨hz, its, 0, hv, Heap.get?_push_size _ rfl⟩
theorem Inv.fresh (I : Inv X pins σ H s) : H s.heap.objs.size = none := I.hok.fresh (Nat.le_refl _)
theorem Inv.lstM (I : Inv X pins σ H s) (hH : H l = some (.lst xs)) : xs.length ≤ sizeLine ∧ ∃ (its : List Value) (n : Nat), Vals xs its ∧ xs.length = its.length ∧ s.heap.get? l = some { cls := .type "list", data := .seq its.toArray n } := by
  obtain ⟨z, its, n, r, e⟩ := I.hok l _ hH
  exact ⟨z, its, n, r, r.length, e⟩
end
section
variable {X : Cx}
noncomputable def rAppend : V → List V → Hp → VK → Prop := fun x vs H Q => ∃ l xs y, x = .ref l ∧ vs = [y] ∧ H l = some (.lst xs) ∧ xs.length < sizeLine ∧ Q .non (upd H l (.lst (xs ++ [y])))
theorem mt_append : MtM X "list.append" rAppend := by
  intro pins s σ H x vs v us Q I rx rv h
  obtain ⟨l, xs, y, rfl, rfl, hH, hz, q⟩ := h
  cases rx
  obtain ⟨u, rfl, ru⟩ := rv.one
  obtain ⟨z, its, n, r, hl, e⟩ := I.lstM hH
  refine call_meets F.slot_list_append ⟨_, e, rfl⟩ F.entry_list_append (F.args_list_append_2 _ _) (PySem.list_append l its.toArray n u (by rw [List.size_toArray]; omega)) ⟨e, ?_⟩
  refine ⟨.non, _, I.lset (its' := its ++ [u]) hH e (by simp) (r.append (.cons ru .nil)) ?_, rfl, q⟩
  rw [List.length_append, List.length_singleton]
  omega
theorem len_rep {α : Type} (xs : List α) (k : Nat) : (List.replicate k xs).flatten.length = k * xs.length := by
  induction k with
  | zero => simp
  | succ k ih => rw [List.replicate_succ, List.flatten_cons, List.length_append, ih, Nat.succ_mul, Nat.add_comm]
end
section
variable {prog : Program} {w : World} {A : Around} {E : Value → Shared → Prop} {s : Shared}
end
section
variable {X : Cx}
end
end L2
namespace Att
open PySem PySem.W PySem.Calls PyProof.Rows
theorem ints_of_wellAll {P : Params} {h : Heap} : ∀ (ns : List Int) (vs : List Value), WellAll P h vs (ns.map WData.int) → IntsAre vs ns := by
  intro ns
  induction ns with
  | nil =>
    intro vs w
    rw [List.map_nil] at w
    cases w
    exact .nil
  | cons n ns ih =>
    intro vs w
    rw [List.map_cons] at w
    cases w with
    | cons a b =>
      cases a
      exact .cons _ _ (ih _ b)
theorem script_of {l : OpenLaw} {n : Nat} (hn : l.most = some n) {P : Params} {h : Heap} {args : List WData} {vals : List Value}
    (hpre : l.row.toRowW.claim.pre args = true) (hwl : WellAll P h vals args) :
    ∃ a vs ns, vals = [Value.ref a] ∧ args = [WData.list (ns.map WData.int)] ∧ h.get? a = some { cls := .type "list", data := .seq vs.toArray } ∧ IntsAre vs ns ∧ ns.length ≤ n := by
  have hsh : WShape.hasAll [] args [.list .int] = true := (pre_splitW hpre).1
  have hc : l.pre.holds [] { args := args } = true := (pre_splitW hpre).2
  obtain ⟨d, r, rfl, h1, h2⟩ := hasAllW_cons hsh
  obtain rfl := hasAllW_nil h2
  obtain ⟨xs, rfl, h3⟩ := hasW_list h1
  obtain ⟨ns, rfl⟩ := items_int h3
  have hlen : ns.length ≤ n := by
    unfold OpenLaw.pre at hc
    have h4 : (WTm.not (.lt (.lit (.int (n : Int))) (.len (.arg 0)))).holds [] { args := [.list (ns.map .int)] } = true := by
      have h4 := (holds_andW hc).1
      rw [hn] at h4
      exact h4
    have h5 := condW_of h4 (w_not (w_lt w_lit (w_len_list (w_arg rfl))))
    rw [List.length_map] at h5
    refine Nat.le_of_not_lt fun q => ?_
    have q' : (n : Int) < ((ns.length : Nat) : Int) := by omega
    first
      | (rw [decide_eq_true q'] at h5; exact absurd h5 (by decide))
      | (simp at h5; omega)
  cases hwl with
  | cons w1 w2 =>
    cases w2
    cases w1 with
    | list ho hall => exact ⟨_, _, ns, rfl, rfl, ho, ints_of_wellAll ns _ hall, hlen⟩
theorem post_true (l : OpenLaw) (args : List WData) : l.row.toRowW.claim.post args (.bool true) args = true :=
  postW_of (r := l.row.toRowW) (X := (true == true))
    (show WShape.has [] (.bool true) .bool = true by first | rfl | decide | simp [WShape.has, WShape.arms, WShape.armsAll])
    (show (WTm.eq .res (.lit (.bool true))).value [] { args := args, res := some (.bool true), after := args } = some (.bool (true == true)) from w_eq_bool (w_res rfl) w_lit) rfl
theorem attach_call {l : OpenLaw} {n : Nat} {q : Program} {loose : List Str} {XP : (Str → Option Value) → Heap → Prop} {YP : World → Heap → Prop} {d : DefRec}
    (hn : l.most = some n) (hdf : d.params.defaults = [])
    (call : ∀ (w : World) (s₀ s₁ : Shared) (mg mb : Str → Option Value) (fa : Addr) (o : Obj) (pm cd doc : Value) (a : Addr) (vs : List Value) (ns : List Int),
      Ground q loose [] XP w s₀ mg mb s₁.heap → YP w s₁.heap →
      s₁.heap.get? fa = some o → o.data = .func (docDef d.name d.params d.body d.scope pm cd doc) → s₁.heap.CodeRec cd d.name → mg d.name = some (.ref fa) →
      s₁.heap.get? a = some { cls := .type "list", data := .seq vs.toArray } → IntsAre vs ns → ns.length ≤ n → s₁.gens = #[] →
      codeAny (model l.prog w) callerA (.call (.ref fa) ⟨[.ref a], []⟩) (fun r s' => r = .ok (.ret (.bool true)) ∧ OldK s₁.heap s'.heap ∧ s'.os = s₁.os ∧ AllBare s'.gens) s₁) :
    WalkO q loose XP YP l.row.toRowW d [] (fun f vs => PySem.call f vs) := by
  intro w s₀ s₁ mg mb G Y fa o pm cd doc dV kV ho hd hcd hD hmg hg args vals as hpre hlay hrd hwl hlo
  obtain rfl : dV = .none := Dflts.none hD hdf
  obtain rfl : kV = .none := Dflts.noKw hD
  obtain ⟨a, vs, ns, rfl, rfl, hobj, hints, hlen⟩ := script_of hn hpre hwl
  refine enter_call (codeAny_mono (call w s₀ s₁ mg mb fa o pm cd doc a vs ns G Y ho (fd_plain hd) hcd hmg hobj hints hlen hg) fun r s' hq => ?_)
  obtain ⟨rfl, h2, h3, h4⟩ := hq
  exact ⟨.inl ⟨.bool true, .bool true, [], rfl, fun _ => rfl, .bool true, post_true l _, fun _ => ⟨List.Pairwise.nil, fun _ hm => (nomatch hm)⟩⟩, h2, h3, h4⟩
section
variable {prog : Program} {w : World} {A : Around} {E : Value → Shared → Prop} {s : Shared} {K : Frag}
end
end Att
namespace L2
open PySem PySem.Spec PyProof.Rows
theorem vals_ints : ∀ {vs : List Value} {ns : List Int}, IntsAre vs ns → Vals (ns.map V.int) vs
  | _, _, .nil => .nil
  | _, _, .cons n t h => .cons ⟨t, rfl⟩ (vals_ints h)
noncomputable def Only (H : Hp) : Prop := ∀ b, H b = none ∨ ∃ o xs, H b = some (.frz o (.lst xs))
theorem law_call {P : Program} {w : World} {K : PySem.W.Frag} {mg mb : Str → Option Value} {CX : CXT} {k : Nat} {fa a : Addr} {fd : FuncData} {x : Str} {sp : Sp} {s₁ : Shared} {vs : List Value} {ns : List Int}
    (KX : K.In s₁.heap) (hns : s₁.heap.Ns mainGlobals mg) (hb : s₁.heap.Ns builtinsNs mb) (hbb : ∀ x : Str, x ≠ "__name__" → mb x = bootBuiltins x) (hlim : s₁.heap.NoLimit) (hg : s₁.gens = #[])
    (ha : s₁.heap.get? a = some { cls := .type "list", data := .seq vs.toArray }) (hi : IntsAre vs ns) (hl : ns.length ≤ sizeLine) (hr : Room k callerA)
    (F : ∀ base : Heap, K.In base → base.Ns mainGlobals mg → FnOk P w K mg base CX k fa fd [x] sp) (hbind : ∀ (s : Shared) (u : Value), BindsTo s fd ⟨[u], []⟩ [(x, u)])
    (hsp : ∀ H : Hp, Only H → SqL K H a (ns.map V.int) → sp [.ref a] H (fun v _ => v = .bl true) fun _ _ _ => False)
    (hCX : ∀ H e s', CX [] H s₁ (fun _ _ _ => False) e s' → False) :
    codeAny (model P w) callerA (.call (.ref fa) ⟨[.ref a], []⟩) (fun r s' => r = .ok (.ret (.bool true)) ∧ OldK s₁.heap s'.heap ∧ s'.os = s₁.os ∧ AllBare s'.gens) s₁ := by
  have rv := vals_ints hi
  have lenV := hi.length
  have core : ∀ H : Hp, Only H → SqL K H a (ns.map V.int) → HOk P w H s₁.heap → (∀ b, H b ≠ none → b = a) → (H a ≠ none → K.lookup a = none) →
      codeAny (model P w) callerA (.call (.ref fa) ⟨[.ref a], []⟩) (fun r s' => r = .ok (.ret (.bool true)) ∧ OldK s₁.heap s'.heap ∧ s'.os = s₁.os ∧ AllBare s'.gens) s₁ := by
    intro H hO hS hok hA hK
    have base_of : ∀ {b : Addr} {o : Obj}, s₁.heap.get? b = some o → H b = none → (hidT s₁.heap H).get? b = some o := fun e n => hidT_get e n
    have noA : ∀ {b : Addr} {o : Obj} {es : Array DictEntry} {ep : Nat}, s₁.heap.get? b = some o → o.data = .dict es ep → H b = none := fun {b o es ep} e d => by
      cases q : H b with
      | none => rfl
      | some u =>
        have e' : b = a := hA b (by rw [q]; simp)
        subst e'
        rw [ha] at e; cases e
        have d' : Data.seq vs.toArray _ = Data.dict es ep := d
        cases d'
    have nsK : ∀ {b : Addr} {m : Str → Option Value}, s₁.heap.Ns b m → (hidT s₁.heap H).Ns b m := fun {b m} ⟨o, es, ep, e, d, r⟩ => ⟨o, es, ep, base_of e (noA e d), d, r⟩
    have hKb : K.In (hidT s₁.heap H) := fun b o e => base_of (KX b o e) (by
      cases q : H b with
      | none => rfl
      | some u =>
        have e' : b = a := hA b (by rw [q]; simp)
        subst e'
        rw [hK (by rw [q]; simp)] at e; cases e)
    have hM : Mod K mg (hidT s₁.heap H) := ⟨hKb, nsK hns, ⟨mb, nsK hb, hbb⟩, let ⟨mc, h1, h2⟩ := hlim; ⟨mc, nsK h1, h2⟩⟩
    have e0 : Env0 P w K mg (hidT s₁.heap H) callerA [] s₁ H := ⟨rfl, hM, fun b o e => of_hidT e, Nat.le_of_eq (hidT_size _ _), trivial, fun b hb => absurd (show b ∈ ([] : List Addr) from hb) (by simp), hok, .of_eq hg⟩
    refine codeAny_mono ((F _ hKb (nsK hns)).run callerA [] s₁ H ⟨[.ref a], []⟩ [.ref a] [.ref a] _ _ hr e0 (hbind s₁ (.ref a)) (.cons rfl .nil) (hsp H hO hS)) fun r s' h => ?_
    cases r with
    | error e => exact (hCX H e s' h).elim
    | ok fl =>
      cases fl with
      | next => exact False.elim h
      | brk => exact False.elim h
      | cont => exact False.elim h
      | ret u =>
        obtain ⟨v, H', os, bare, un, hok', r', q⟩ := h
        have q' : v = .bl true := q
        subst q'
        obtain rfl : u = Value.bool true := r'
        refine ⟨rfl, OldK.of_keep fun b o e => ?_, os, bare⟩
        cases q : H b with
        | none => exact un.keep b o e q (by intro z; exact absurd (show b ∈ ([] : List Addr) from z) (by simp)) (by simp)
        | some u =>
          rcases hO b with z | ⟨ob, xs, z⟩
          · rw [q] at z; cases z
          · have z2 := un.frzs b ob _ z
            obtain ⟨e1, _⟩ := hok b _ z
            obtain ⟨e2, _⟩ := hok' b _ z2
            rw [e] at e1; cases e1
            exact e2
  cases hk : K.lookup a with
  | some o =>
    have e := KX a o hk
    rw [ha] at e
    cases e
    refine core (fun _ => none) (fun _ => .inl rfl) (.inr ⟨_, vs.toArray, _, hk, rfl, rfl, rfl, by rw [List.size_toArray, lenV]; exact hl, by simpa using rv⟩) (fun b u z => by have z' : (none : Option HO) = some u := z; cases z') (fun b z => absurd rfl z) fun z => absurd rfl z
  | none =>
    refine core (fun b => if b = a then some (.frz { cls := .type "list", data := .seq vs.toArray } (.lst (ns.map V.int))) else none) (fun b => ?_) (.inl (.inr ⟨{ cls := .type "list", data := .seq vs.toArray }, if_pos rfl⟩)) (fun b u z => ?_) (fun b z => ?_) fun _ => hk
    · by_cases hb : b = a
      · exact .inr ⟨_, _, if_pos hb⟩
      · exact .inl (if_neg hb)
    · by_cases hb : b = a
      · have z' := (if_pos hb).symm.trans z
        cases z'
        subst hb
        exact ⟨ha, by rw [List.length_map]; exact hl, vs, _, rv, ha⟩
      · have z' := (if_neg hb).symm.trans z
        cases z'
    · by_cases hb : b = a
      · exact hb
      · exact absurd (if_neg hb) z
end L2
namespace L2
open PySem PySem.Spec PyProof.Rows
noncomputable abbrev KOf {K : PySem.W.Frag} {h : Heap} (_ : K.In h) : PySem.W.Frag := K
theorem walk_of {l : PySem.W.OpenLaw} {n k : Nat} {q : Program} {loose : List Str} {XP : (Str → Option Value) → Heap → Prop} {YP : World → Heap → Prop} {d : DefRec} {K : Params → PySem.W.Frag} {CX : World → CXT} {sp : World → Sp} {x : Str}
    (hn : l.most = some n) (hn2 : n ≤ sizeLine) (hdf : d.params.defaults = []) (hr : Room k callerA)
    (hY : ∀ (w : World) (h : Heap), YP w h → (K w.params).In h)
    (F : ∀ (w : World) (mg : Str → Option Value) (fa : Addr) (h : Heap), (K w.params).In h → h.Ns mainGlobals mg → mg d.name = some (.ref fa) →
      ∃ fd : FuncData, (∀ (s : Shared) (u : Value), BindsTo s fd ⟨[u], []⟩ [(x, u)]) ∧
        ∀ base : Heap, (K w.params).In base → base.Ns mainGlobals mg → FnOk l.prog w (K w.params) mg base (CX w) k fa fd [x] (sp w))
    (hsp : ∀ (w : World) (H : Hp) (a : Addr) (ns : List Int), ns.length ≤ n → Only H → SqL (K w.params) H a (ns.map V.int) → sp w [.ref a] H (fun v _ => v = .bl true) fun _ _ _ => False)
    (hCX : ∀ (w : World) (H : Hp) (s : Shared) (e : Value) (s' : Shared), CX w [] H s (fun _ _ _ => False) e s' → False) :
    PySem.W.WalkO q loose XP YP l.row.toRowW d [] (fun f vs => PySem.call f vs) := by
  refine Att.attach_call hn hdf fun w s₀ s₁ mg mb fa o pm cd doc a vs ns G Y ho hd hcd hmg hobj hints hlen hg => ?_
  have KX := hY w _ Y
  obtain ⟨fd, hb, hF⟩ := F w mg fa _ KX G.T.g hmg
  exact law_call KX G.T.g G.T.b G.T.builtins G.T.nolimit hg hobj hints (Nat.le_trans hlen hn2) hr hF hb (fun H hO hS => hsp w H a ns hlen hO hS) fun H e s' => hCX w H s₁ e s'
theorem walk_ofK {l : PySem.W.OpenLaw} {n k : Nat} {q : Program} {loose : List Str} {XP : (Str → Option Value) → Heap → Prop} {YP : World → Heap → Prop} {d : DefRec} {K : Params → PySem.W.Frag} {CX : CXT} {sp : PySem.W.Frag → Sp} {x : Str}
    (hn : l.most = some n) (hn2 : n ≤ sizeLine) (hdf : d.params.defaults = []) (hr : Room k callerA)
    (hY : ∀ (w : World) (h : Heap), YP w h → (K w.params).In h)
    (F : ∀ (w : World) (mg : Str → Option Value) (fa : Addr) (h : Heap), (K w.params).In h → h.Ns mainGlobals mg → mg d.name = some (.ref fa) →
      ∃ fd : FuncData, (∀ (s : Shared) (u : Value), BindsTo s fd ⟨[u], []⟩ [(x, u)]) ∧
        ∀ base : Heap, (K w.params).In base → base.Ns mainGlobals mg → FnOk l.prog w (K w.params) mg base CX k fa fd [x] (sp (K w.params)))
    (hsp : ∀ (K : PySem.W.Frag) (H : Hp) (a : Addr) (ns : List Int), ns.length ≤ n → Only H → SqL K H a (ns.map V.int) → sp K [.ref a] H (fun v _ => v = .bl true) fun _ _ _ => False)
    (hCX : ∀ (H : Hp) (s : Shared) (e : Value) (s' : Shared), CX [] H s (fun _ _ _ => False) e s' → False) :
    PySem.W.WalkO q loose XP YP l.row.toRowW d [] (fun f vs => PySem.call f vs) :=
  walk_of (K := K) (CX := fun _ => CX) (sp := fun w => sp (K w.params)) hn hn2 hdf hr hY F (fun w H a ns h1 h2 h3 => hsp (K w.params) H a ns h1 h2 h3) fun _ H s e s' => hCX H s e s'
end L2
namespace L2
open PySem PySem.Spec PyProof.Rows
noncomputable def defArgs (s : Stmt) : Arguments := match s with
  | .FunctionDef _ a _ _ _ _ _ _ _ _ => a
  | _ => { posonlyargs := [], args := [], vararg := none, kwonlyargs := [], kw_defaults := [], kwarg := none, defaults := [] }
noncomputable def defBody (s : Stmt) : List Stmt := match s with
  | .FunctionDef _ _ b _ _ _ _ _ _ _ => b
  | _ => []
noncomputable def defScope (s : Stmt) : Scope := match s with
  | .FunctionDef _ _ _ _ _ _ sc _ _ _ => sc
  | _ => { kind := .function, names := [], isGenerator := false, isCoroutine := false }
noncomputable abbrev CX0 : CXT := fun _ _ _ _ _ _ => False
noncomputable abbrev E0 : XK := fun _ _ _ => False
theorem pass0 {X : Cx} : Passes CX0 X E0 := fun _ _ _ _ _ _ _ h => h.elim
structure Fun (K : PySem.W.Frag) (x qual : Str) (st : Stmt) (f : Addr) (fd : FuncData) : Prop where
  ex : ∃ (oc : Value) (od : Option Addr) (kV doc pm : Value) (an : Option Addr) (cdv ct : Value) (osl : Array (Option Value)),
    fd = PySem.W.fnOf x qual (defArgs st) (defBody st) (defScope st) .none kV doc pm an cdv ct ∧ K.lookup f = some ⟨oc, od, .func fd, osl⟩ ∧ PySem.W.codeIn K cdv qual = true
  kp : PySem.W.keepIn K (.ref f) = true
section
variable {P : Program} {w : World} {K : PySem.W.Frag} {mg : Str → Option Value} {base : Heap}
theorem Fun.ok {x qual : Str} {st : Stmt} {f : Addr} {fd : FuncData} {N ps : List Str} {k : Nat} {sp : Sp} (F : Fun K x qual st f fd) (S : FnScope N ps (defScope st)) (len : ∀ vs H Q E, sp vs H Q E → vs.length = ps.length)
    (hbody : ∀ (cdv : Value) (A : Around) (outer : List Env) (s : Shared) (H : Hp) (vs : List V) (Q : VK) (E : XK), Room k (A.deeper (envOfC qual (defScope st) s.heap.objs.size f cdv)) → sp vs H Q E →
      ∃ t, PSs (cxOf CX0 P w K mg base N qual (defScope st) f cdv A outer s H E).nox (defBody st) t ∧ t { nx := fun _ H' => Q .non H', rt := Q } (start N vs) H) : FnOk P w K mg base CX0 (k + 1) f fd ps sp := by
  obtain ⟨oc, od, kV, doc, pm, an, cdv, ct, osl, rfl, lk, hcd⟩ := F.ex
  refine fn_of lk hcd S len fun A outer s H vs Q E hr hsp => ?_
  obtain ⟨t, h, q⟩ := hbody cdv A outer s H vs Q E hr hsp
  exact ⟨t, h.nox, q⟩
theorem Fun.binds {x qual : Str} {st : Stmt} {f : Addr} {fd : FuncData} {ps : List Str} (F : Fun K x qual st f fd)
    (h : ∀ (kV doc pm : Value) (an : Option Addr) (cdv ct : Value) (us : List Value), us.length = ps.length → bindArgs (PySem.W.fnOf x qual (defArgs st) (defBody st) (defScope st) .none kV doc pm an cdv ct) ⟨us, []⟩ = pure (ps.zip us)) : Binds K fd ps [] := by
  obtain ⟨oc, od, kV, doc, pm, an, cdv, ct, osl, rfl, lk, hcd⟩ := F.ex
  exact .all (h kV doc pm an cdv ct)
theorem fun_mk {x qual : Str} {st : Stmt} {f : Addr} {oc : Value} {od an : Option Addr} {osl : Array (Option Value)} {kV doc pm cdv ct : Value} (l : K.lookup f = some ⟨oc, od, .func (PySem.W.fnOf x qual (defArgs st) (defBody st) (defScope st) .none kV doc pm an cdv ct), osl⟩)
    (c : PySem.W.codeIn K cdv qual = true) (k : PySem.W.keepIn K (.ref f) = true) : Fun K x qual st f (PySem.W.fnOf x qual (defArgs st) (defBody st) (defScope st) .none kV doc pm an cdv ct) := ⟨⟨oc, od, kV, doc, pm, an, cdv, ct, osl, rfl, l, c⟩, k⟩
end
section
variable {X : Cx}
end
noncomputable def Same (H H' : Hp) : Prop := ∀ b o, H b = some o → H' b = some o
theorem Same.refl (H : Hp) : Same H H := fun _ _ h => h
theorem Same.trans {H H1 H2 : Hp} (a : Same H H1) (b : Same H1 H2) : Same H H2 := fun c o h => b c o (a c o h)
theorem Same.free {H H' : Hp} (e : Same H H') {l : Addr} (h : H' l = Option.none) : H l = Option.none := by
  cases q : H l with
  | none => rfl
  | some o =>
    rw [e l o q] at h
    cases h
end L2
set_option Elab.async false
set_option linter.all false
namespace Fn
open PySem L2
noncomputable abbrev D := PyData
noncomputable def hid (O : List Addr) (H : Hp) : Hp := fun a => if a ∈ O then none else H a
theorem hid_in {O : List Addr} {H : Hp} {a : Addr} (h : a ∈ O) : hid O H a = none := by unfold hid; rw [if_pos h]
theorem hid_out {O : List Addr} {H : Hp} {a : Addr} (h : a ∉ O) : hid O H a = H a := by unfold hid; rw [if_neg h]
theorem hid_nil (H : Hp) : hid [] H = H := by funext a; exact hid_out (by simp)
theorem hid_some {O : List Addr} {H : Hp} {a : Addr} {o : HO} (h : hid O H a = some o) : a ∉ O ∧ H a = some o := by
  by_cases z : a ∈ O
  · rw [hid_in z] at h; cases h
  · rw [hid_out z] at h; exact ⟨z, h⟩
theorem hid_same {O : List Addr} {H H' : Hp} (s : Same H H') : Same (hid O H) (hid O H') := fun b o e => by
  obtain ⟨z, e⟩ := hid_some e
  rw [hid_out z]; exact s b o e
theorem hid_le (O : List Addr) (H : Hp) : Same (hid O H) H := fun b o e => (hid_some e).2
theorem hid_less {O O' : List Addr} {H : Hp} (h : ∀ a ∈ O, a ∈ O') : Same (hid O' H) (hid O H) := fun b o e => by
  obtain ⟨z, e⟩ := hid_some e
  rw [hid_out fun q => z (h b q)]; exact e
theorem Same.rd {H H' : Hp} (s : Same H H') {a : Addr} {u : HO} (r : Rd H a u) : Rd H' a u := by
  rcases r with r | ⟨o, r⟩
  · exact .inl (s _ _ r)
  · exact .inr ⟨o, s _ _ r⟩
theorem Same.sqL {K : PySem.W.Frag} {H H' : Hp} (s : Same H H') {a : Addr} {xs : List V} (r : SqL K H a xs) : SqL K H' a xs := by
  rcases r with r | r
  · exact .inl (Same.rd s r)
  · exact .inr r
theorem Same.sqT {K : PySem.W.Frag} {H H' : Hp} (s : Same H H') {a : Addr} {xs : List V} (r : SqT K H a xs) : SqT K H' a xs := by
  rcases r with r | r
  · exact .inl (Same.rd s r)
  · exact .inr r
theorem Same.live {H H' : Hp} (s : Same H H') {a : Addr} (h : H a ≠ none) : H' a ≠ none := by
  cases e : H a with
  | none => exact absurd e h
  | some o => rw [s a o e]; intro z; cases z
mutual
noncomputable def Rep (K : PySem.W.Frag) (H : Hp) : D → V → Prop
  | .none, v => v = .non
  | .bool b, v => v = .bl b
  | .int i, v => v = .int i
  | .str x, v => v = .str x ∧ PyData.strOk x = true
  | .tuple ds, v => ∃ a xs, v = .ref a ∧ SqT K H a xs ∧ Reps K H ds xs
  | .list ds, v => ∃ a xs, v = .ref a ∧ SqL K H a xs ∧ Reps K H ds xs
  | .dict _, _ => False
noncomputable def Reps (K : PySem.W.Frag) (H : Hp) : List D → List V → Prop
  | [], vs => vs = []
  | d :: ds, vs => ∃ v r, vs = v :: r ∧ Rep K H d v ∧ Reps K H ds r
end
mutual
theorem Rep.mono {K : PySem.W.Frag} {H H' : Hp} (s : Same H H') : ∀ {d : D} {v : V}, Rep K H d v → Rep K H' d v
  | .none, _, h => h
  | .bool _, _, h => h
  | .int _, _, h => h
  | .str _, _, h => h
  | .dict _, _, h => h
  | .tuple ds, _, h => by
    obtain ⟨a, xs, e, q, r⟩ := h
    exact ⟨a, xs, e, Same.sqT s q, Reps.mono s r⟩
  | .list ds, _, h => by
    obtain ⟨a, xs, e, q, r⟩ := h
    exact ⟨a, xs, e, Same.sqL s q, Reps.mono s r⟩
theorem Reps.mono {K : PySem.W.Frag} {H H' : Hp} (s : Same H H') : ∀ {ds : List D} {vs : List V}, Reps K H ds vs → Reps K H' ds vs
  | [], _, h => h
  | d :: ds, _, h => by
    obtain ⟨v, r, e, h1, h2⟩ := h
    exact ⟨v, r, e, Rep.mono s h1, Reps.mono s h2⟩
end
theorem Reps.nil {K : PySem.W.Frag} {H : Hp} : Reps K H [] [] := rfl
theorem Reps.cons {K : PySem.W.Frag} {H : Hp} {d : D} {v : V} {ds : List D} {vs : List V} (h : Rep K H d v) (r : Reps K H ds vs) : Reps K H (d :: ds) (v :: vs) := ⟨v, vs, rfl, h, r⟩
theorem Reps.length {K : PySem.W.Frag} {H : Hp} : ∀ {ds : List D} {vs : List V}, Reps K H ds vs → ds.length = vs.length
  | [], _, h => by cases h; rfl
  | d :: ds, _, h => by
    obtain ⟨v, r, rfl, _, h2⟩ := h
    simp [h2.length]
theorem Reps.get {K : PySem.W.Frag} {H : Hp} : ∀ {ds : List D} {vs : List V} {i : Nat} {d : D}, Reps K H ds vs → ds[i]? = some d → ∃ v, vs[i]? = some v ∧ Rep K H d v
  | [], _, _, _, _, e => by simp at e
  | d :: ds, _, 0, _, h, e => by
    obtain ⟨v, r, rfl, h1, _⟩ := h
    simp at e; subst e
    exact ⟨v, rfl, h1⟩
  | d :: ds, _, i + 1, _, h, e => by
    obtain ⟨v, r, rfl, _, h2⟩ := h
    simpa using Reps.get h2 (by simpa using e)
theorem Reps.append {K : PySem.W.Frag} {H : Hp} : ∀ {ds es : List D} {vs ws : List V}, Reps K H ds vs → Reps K H es ws → Reps K H (ds ++ es) (vs ++ ws)
  | [], _, _, _, h, r => by cases h; exact r
  | d :: ds, _, _, _, h, r => by
    obtain ⟨v, t, rfl, h1, h2⟩ := h
    exact ⟨v, t ++ _, rfl, h1, Reps.append h2 r⟩
theorem Reps.take {K : PySem.W.Frag} {H : Hp} : ∀ {ds : List D} {vs : List V} (n : Nat), Reps K H ds vs → Reps K H (ds.take n) (vs.take n)
  | _, _, 0, _ => by simp [Reps]
  | [], _, n + 1, h => by cases h; simp [Reps]
  | d :: ds, _, n + 1, h => by
    obtain ⟨v, t, rfl, h1, h2⟩ := h
    exact ⟨v, t.take n, rfl, h1, Reps.take n h2⟩
theorem Reps.drop {K : PySem.W.Frag} {H : Hp} : ∀ {ds : List D} {vs : List V} (n : Nat), Reps K H ds vs → Reps K H (ds.drop n) (vs.drop n)
  | _, _, 0, h => by simpa using h
  | [], _, n + 1, h => by cases h; simp [Reps]
  | d :: ds, _, n + 1, h => by
    obtain ⟨v, t, rfl, h1, h2⟩ := h
    simpa using Reps.drop n h2
theorem Reps.set {K : PySem.W.Frag} {H : Hp} {d : D} {v : V} (hv : Rep K H d v) : ∀ {ds : List D} {vs : List V} (i : Nat), Reps K H ds vs → Reps K H (ds.set i d) (vs.set i v)
  | [], _, _, h => by cases h; simp [Reps]
  | _ :: ds, _, 0, h => by
    obtain ⟨w, t, rfl, h1, h2⟩ := h
    exact ⟨v, t, rfl, hv, h2⟩
  | _ :: ds, _, i + 1, h => by
    obtain ⟨w, t, rfl, h1, h2⟩ := h
    exact ⟨w, t.set i v, rfl, h1, Reps.set hv i h2⟩
theorem Reps.rep {K : PySem.W.Frag} {H : Hp} {ds : List D} {vs : List V} (h : Reps K H ds vs) : ∀ k : Nat, Reps K H (List.replicate k ds).flatten (List.replicate k vs).flatten
  | 0 => by simp [Reps]
  | k + 1 => by
    simp only [List.replicate_succ, List.flatten_cons]
    exact Reps.append h (Reps.rep h k)
inductive Cel where
  | emp | val (d : D) | own (ds : List D) | ref (a : Addr)
noncomputable abbrev Env := List Cel
noncomputable def RelC (K : PySem.W.Frag) (O W : List Addr) (H : Hp) (u : Option (Option V)) : Cel → Prop
  | .emp => True
  | .val d => ∃ v, u = some (some v) ∧ Rep K (hid (O ++ W) H) d v
  | .own ds => ∃ a xs, u = some (some (.ref a)) ∧ a ∈ W ∧ a ∉ O ∧ H a = some (.lst xs) ∧ Reps K (hid (O ++ W) H) ds xs
  | .ref a => u = some (some (.ref a))
structure SR (K : PySem.W.Frag) (O W : List Addr) (ρ : Env) (σ : St) (H : Hp) : Prop where
  len : σ.length = ρ.length
  rel : ∀ (i : Nat) c, ρ[i]? = some c → RelC K O W H σ[i]? c
  apart : ∀ (i j : Nat) (ds es : List D) (a : Addr), i ≠ j → ρ[i]? = some (.own ds) → ρ[j]? = some (.own es) → σ[i]? = some (some (V.ref a)) → σ[j]? = some (some (V.ref a)) → False
  live : ∀ a ∈ O ++ W, H a ≠ none
theorem RelC.mono {K : PySem.W.Frag} {O W : List Addr} {H H' : Hp} {u : Option (Option V)} {c : Cel} (s : Same H H') (h : RelC K O W H u c) : RelC K O W H' u c := by
  cases c with
  | emp => trivial
  | ref _ => exact h
  | val d => obtain ⟨v, e, r⟩ := h; exact ⟨v, e, r.mono (hid_same s)⟩
  | own ds => obtain ⟨a, xs, e, w, o, h, r⟩ := h; exact ⟨a, xs, e, w, o, s _ _ h, r.mono (hid_same s)⟩
theorem SR.mono {K : PySem.W.Frag} {O W : List Addr} {ρ : Env} {σ : St} {H H' : Hp} (h : SR K O W ρ σ H) (s : Same H H') : SR K O W ρ σ H' :=
  ⟨h.len, fun i c e => (h.rel i c e).mono s, h.apart, fun a ha => Same.live s (h.live a ha)⟩
structure Fm (W : List Addr) (H H' : Hp) (W' : List Addr) : Prop where
  keep : ∀ b o, H b = some o → b ∉ W → H' b = some o
  new : ∀ a ∈ W', a ∈ W ∨ H a = none
theorem Fm.refl (W : List Addr) (H : Hp) : Fm W H H W := ⟨fun _ _ e _ => e, fun _ h => .inl h⟩
theorem Fm.of_same {W : List Addr} {H H' : Hp} (s : Same H H') : Fm W H H' W := ⟨fun b o e _ => s b o e, fun _ h => .inl h⟩
theorem Fm.trans {W W1 W2 : List Addr} {H H1 H2 : Hp} (a : Fm W H H1 W1) (b : Fm W1 H1 H2 W2) : Fm W H H2 W2 where
  keep := fun c o e n => b.keep c o (a.keep c o e n) fun z => by
    rcases a.new c z with q | q
    · exact n q
    · rw [e] at q; cases q
  new := fun c hc => by
    rcases b.new c hc with q | q
    · exact a.new c q
    · by_cases z : c ∈ W
      · exact .inl z
      · cases e : H c with
        | none => exact .inr rfl
        | some o => rw [a.keep c o e z] at q; cases q
theorem Fm.same {H H' : Hp} {W' : List Addr} (a : Fm [] H H' W') : Same H H' := fun b o e => a.keep b o e (by simp)
theorem Fm.hid {O W W' : List Addr} {H H' : Hp} (a : Fm W H H' W') : Same (hid (O ++ W) H) (hid (O ++ W') H') := fun b o e => by
  obtain ⟨z, e⟩ := hid_some e
  have z1 : b ∉ O := fun q => z (List.mem_append_left _ q)
  have z2 : b ∉ W := fun q => z (List.mem_append_right _ q)
  have z3 : b ∉ W' := fun q => by
    rcases a.new b q with p | p
    · exact z2 p
    · rw [e] at p; cases p
  rw [hid_out (by intro q; rcases List.mem_append.mp q with p | p; exact z1 p; exact z3 p)]
  exact a.keep b o e z2
section
variable (K : PySem.W.Frag)
noncomputable def tF (f : Env → Option D) : TE := fun σ H Q => ∃ O W ρ d, SR K O W ρ σ H ∧ f ρ = some d ∧ ∀ v H', Same H H' → Rep K (hid (O ++ W) H') d v → Q v H'
noncomputable def RepB (O W : List Addr) (H : Hp) (d : D) (v : V) : Prop := Rep K (hid (O ++ W) H) d v ∨ ∃ ds a xs, d = .list ds ∧ v = .ref a ∧ H a = some (.lst xs) ∧ Reps K (hid (O ++ W) H) ds xs
noncomputable def tB' (f : Env → Option D) : TE := fun σ H Q => ∃ O W ρ d, SR K O W ρ σ H ∧ f ρ = some d ∧ ∀ v H', Same H H' → RepB K O W H' d v → Q v H'
noncomputable def tN (f : Env → Option (List D)) : TE := fun σ H Q => ∃ O W ρ ds, SR K O W ρ σ H ∧ f ρ = some ds ∧ ∀ p xs H', H p = none → Same H H' → H' p = some (.lst xs) → Reps K (hid (O ++ (W ++ [p])) H') ds xs → Q (.ref p) H'
noncomputable def tFT (f : Env → Option Bool) : TT := fun σ H Q => ∃ O W ρ b, SR K O W ρ σ H ∧ f ρ = some b ∧ ∀ H', Same H H' → Q b H'
noncomputable def tFA (f : Env → Option (List D)) : TA := fun σ H Q => ∃ O W ρ ds, SR K O W ρ σ H ∧ f ρ = some ds ∧ ∀ vs H', Same H H' → Reps K (hid (O ++ W) H') ds vs → Q vs H'
inductive Fl where
  | nx (ρ : Env) | rt (d : D) | bk (ρ : Env) | ct (ρ : Env)
noncomputable def Post (O W : List Addr) (H : Hp) (Dn : Ends) : Fl → Prop
  | .nx ρ => ∀ W' σ' H', SR K O W' ρ σ' H' → Fm W H H' W' → Dn.nx σ' H'
  | .bk ρ => ∀ W' σ' H', SR K O W' ρ σ' H' → Fm W H H' W' → Dn.bk σ' H'
  | .ct ρ => ∀ W' σ' H', SR K O W' ρ σ' H' → Fm W H H' W' → Dn.ct σ' H'
  | .rt d => ∀ W' v H', Rep K (hid (O ++ W') H') d v → Fm W H H' W' → Dn.rt v H'
noncomputable def tFS (f : Env → Option Fl) : TS := fun Dn σ H => ∃ O W ρ fl, SR K O W ρ σ H ∧ f ρ = some fl ∧ Post K O W H Dn fl
end
theorem Post.fm {K : PySem.W.Frag} {O W W1 : List Addr} {H H1 : Hp} {Dn : Ends} {fl : Fl} (a : Fm W H H1 W1) (h : Post K O W H Dn fl) : Post K O W1 H1 Dn fl := by
  cases fl with
  | nx ρ => exact fun W' σ' H' s f => h W' σ' H' s (a.trans f)
  | bk ρ => exact fun W' σ' H' s f => h W' σ' H' s (a.trans f)
  | ct ρ => exact fun W' σ' H' s f => h W' σ' H' s (a.trans f)
  | rt d => exact fun W' v H' s f => h W' v H' s (a.trans f)
theorem RepB.mono {K : PySem.W.Frag} {O W : List Addr} {H H' : Hp} {d : D} {v : V} (h : RepB K O W H d v) (s : Same H H') : RepB K O W H' d v := by
  rcases h with h | ⟨ds, a, xs, e1, e2, h, r⟩
  · exact .inl (h.mono (hid_same s))
  · exact .inr ⟨ds, a, xs, e1, e2, s _ _ h, r.mono (hid_same s)⟩
theorem RepB.lst {K : PySem.W.Frag} {O W : List Addr} {H : Hp} {ds : List D} {v : V} (h : RepB K O W H (.list ds) v) : ∃ a xs, v = .ref a ∧ SqL K H a xs ∧ Reps K (hid (O ++ W) H) ds xs := by
  rcases h with ⟨a, xs, e, q, r⟩ | ⟨es, a, xs, e1, e2, h, r⟩
  · exact ⟨a, xs, e, Same.sqL (hid_le _ _) q, r⟩
  · cases e1; exact ⟨a, xs, e2, .inl (.inl h), r⟩
theorem RepB.tup {K : PySem.W.Frag} {O W : List Addr} {H : Hp} {ds : List D} {v : V} (h : RepB K O W H (.tuple ds) v) : ∃ a xs, v = .ref a ∧ SqT K H a xs ∧ Reps K (hid (O ++ W) H) ds xs := by
  rcases h with ⟨a, xs, e, q, r⟩ | ⟨es, a, xs, e1, e2, h, r⟩
  · exact ⟨a, xs, e, Same.sqT (hid_le _ _) q, r⟩
  · cases e1
theorem RepB.int {K : PySem.W.Frag} {O W : List Addr} {H : Hp} {i : Int} {v : V} (h : RepB K O W H (.int i) v) : v = .int i := by
  rcases h with h | ⟨es, a, xs, e1, e2, h, r⟩
  · exact h
  · cases e1
theorem RepB.bl {K : PySem.W.Frag} {O W : List Addr} {H : Hp} {b : Bool} {v : V} (h : RepB K O W H (.bool b) v) : v = .bl b := by
  rcases h with h | ⟨es, a, xs, e1, e2, h, r⟩
  · exact h
  · cases e1
theorem RepB.str {K : PySem.W.Frag} {O W : List Addr} {H : Hp} {x : Str} {v : V} (h : RepB K O W H (.str x) v) : v = .str x ∧ PyData.strOk x = true := by
  rcases h with h | ⟨es, a, xs, e1, e2, h, r⟩
  · exact h
  · cases e1
theorem RepB.whole {K : PySem.W.Frag} {O W : List Addr} {H : Hp} {d : D} {v : V} (h : RepB K O W H d v) : Rep K H d v := by
  rcases h with h | ⟨ds, a, xs, rfl, e2, h, r⟩
  · exact h.mono (hid_le _ _)
  · exact ⟨a, xs, e2, .inl (.inl h), r.mono (hid_le _ _)⟩
section
variable {K : PySem.W.Frag} {O W : List Addr} {ρ : Env} {σ : St} {H : Hp}
theorem SR.put {i : Nat} {d : D} {v : V} (s : SR K O W ρ σ H) (r : Rep K (hid (O ++ W) H) d v) : SR K O W (ρ.set i (.val d)) (σ.set i (some v)) H where
  len := by simp [s.len]
  rel := fun j c e => by
    by_cases h : i = j
    · subst h
      have hi : i < ρ.length := by
        have := (List.getElem?_eq_some_iff.mp e).1; simpa using this
      rw [List.getElem?_set_self hi] at e
      cases e
      exact ⟨v, List.getElem?_set_self (by rw [s.len]; exact hi), r⟩
    · rw [List.getElem?_set_ne h] at e
      rw [List.getElem?_set_ne h]
      exact s.rel j c e
  apart := fun j k ds es a n e1 e2 f1 f2 => by
    have hj : i ≠ j := fun z => by
      subst z
      have hi : i < ρ.length := by have := (List.getElem?_eq_some_iff.mp e1).1; simpa using this
      rw [List.getElem?_set_self hi] at e1; cases e1
    have hk : i ≠ k := fun z => by
      subst z
      have hi : i < ρ.length := by have := (List.getElem?_eq_some_iff.mp e2).1; simpa using this
      rw [List.getElem?_set_self hi] at e2; cases e2
    rw [List.getElem?_set_ne hj] at e1 f1
    rw [List.getElem?_set_ne hk] at e2 f2
    exact s.apart j k ds es a n e1 e2 f1 f2
  live := s.live
theorem SR.putN {i : Nat} {ds : List D} {p : Addr} {xs : List V} {H' : Hp} (s : SR K O W ρ σ H) (np : H p = none) (sm : Same H H') (hp : H' p = some (.lst xs)) (r : Reps K (hid (O ++ (W ++ [p])) H') ds xs) :
    SR K O (W ++ [p]) (ρ.set i (.own ds)) (σ.set i (some (.ref p))) H' := by
  have up : Same (hid (O ++ W) H) (hid (O ++ (W ++ [p])) H') := fun b o e => by
    obtain ⟨z, e⟩ := hid_some e
    have nb : b ≠ p := fun q => by rw [q, np] at e; cases e
    rw [hid_out (by
      intro q
      rcases List.mem_append.mp q with q | q
      · exact z (List.mem_append_left _ q)
      · rcases List.mem_append.mp q with q | q
        · exact z (List.mem_append_right _ q)
        · exact nb (by simpa using q))]
    exact sm b o e
  have old : ∀ (j : Nat) c, ρ[j]? = some c → RelC K O (W ++ [p]) H' σ[j]? c := fun j c e => by
    have q := s.rel j c e
    cases c with
    | emp => trivial
    | ref _ => exact q
    | val d => obtain ⟨v, e, r⟩ := q; exact ⟨v, e, r.mono up⟩
    | own es => obtain ⟨a, ys, e, w, o, h, r⟩ := q; exact ⟨a, ys, e, List.mem_append_left _ w, o, sm _ _ h, r.mono up⟩
  have neP : ∀ (j : Nat) es a, ρ[j]? = some (.own es) → σ[j]? = some (some (V.ref a)) → a ≠ p := fun j es a e f z => by
    obtain ⟨b, ys, e', _, _, h, _⟩ := s.rel j _ e
    rw [f] at e'; cases e'
    rw [z, np] at h; cases h
  refine ⟨by simp [s.len], fun j c e => ?_, fun j k es fs a n e1 e2 f1 f2 => ?_, fun a ha => ?_⟩
  rotate_left 2
  · by_cases z : a = p
    · subst z; rw [hp]; intro q; cases q
    · refine Same.live sm (s.live a ?_)
      rcases List.mem_append.mp ha with q | q
      · exact List.mem_append_left _ q
      · rcases List.mem_append.mp q with q | q
        · exact List.mem_append_right _ q
        · exact absurd (by simpa using q) z
  · by_cases h : i = j
    · subst h
      have hi : i < ρ.length := by
        have := (List.getElem?_eq_some_iff.mp e).1; simpa using this
      rw [List.getElem?_set_self hi] at e
      cases e
      exact ⟨p, xs, List.getElem?_set_self (by rw [s.len]; exact hi), by simp, fun z => s.live p (List.mem_append_left _ z) np, hp, r⟩
    · rw [List.getElem?_set_ne h] at e
      rw [List.getElem?_set_ne h]
      exact old j c e
  · by_cases hj : i = j
    · subst hj
      have hk : i ≠ k := n
      have hi : i < σ.length := by
        have := (List.getElem?_eq_some_iff.mp f1).1; simpa using this
      rw [List.getElem?_set_self hi] at f1
      cases f1
      rw [List.getElem?_set_ne hk] at e2 f2
      exact neP k fs p e2 f2 rfl
    · by_cases hk : i = k
      · subst hk
        have hi : i < σ.length := by
          have := (List.getElem?_eq_some_iff.mp f2).1; simpa using this
        rw [List.getElem?_set_self hi] at f2
        cases f2
        rw [List.getElem?_set_ne hj] at e1 f1
        exact neP j es p e1 f1 rfl
      · rw [List.getElem?_set_ne hj] at e1 f1
        rw [List.getElem?_set_ne hk] at e2 f2
        exact s.apart j k es fs a n e1 e2 f1 f2
theorem SR.upd {i : Nat} {ds ds' : List D} {a : Addr} {xs xs' : List V} (s : SR K O W ρ σ H) (e : ρ[i]? = some (.own ds)) (f : σ[i]? = some (some (V.ref a))) (hx : H a = some (.lst xs)) (r : Reps K (hid (O ++ W) H) ds' xs') :
    SR K O W (ρ.set i (.own ds')) σ (upd H a (.lst xs')) ∧ Fm W H (upd H a (.lst xs')) W := by
  obtain ⟨b, ys, e', hw, ho, h, _⟩ := s.rel i _ e
  rw [f] at e'; cases e'
  have hid_eq : hid (O ++ W) (L2.upd H a (.lst xs')) = hid (O ++ W) H := by
    funext c
    by_cases z : c ∈ O ++ W
    · rw [hid_in z, hid_in z]
    · rw [hid_out z, hid_out z, upd_ne]
      rintro rfl
      exact z (List.mem_append_right _ hw)
  refine ⟨⟨by simp [s.len], fun j c ec => ?_, fun j k es fs b n e1 e2 f1 f2 => ?_, fun b hb => ?_⟩, ⟨fun b o eb nb => ?_, fun _ h => .inl h⟩⟩
  rotate_left 2
  · by_cases z : b = a
    · subst z; rw [upd_same]; intro q; cases q
    · rw [upd_ne z]; exact s.live b hb
  rotate_left 1
  · by_cases hj : i = j
    · subst hj
      have hi : i < ρ.length := (List.getElem?_eq_some_iff.mp e).1
      rw [List.getElem?_set_self hi] at ec
      cases ec
      exact ⟨a, xs', f, hw, ho, upd_same, by rw [hid_eq]; exact r⟩
    · rw [List.getElem?_set_ne hj] at ec
      have q := s.rel j c ec
      cases c with
      | emp => trivial
      | ref _ => exact q
      | val d => obtain ⟨v, e2, r2⟩ := q; exact ⟨v, e2, by rw [hid_eq]; exact r2⟩
      | own es =>
        obtain ⟨b, zs, e2, w2, o2, h2, r2⟩ := q
        refine ⟨b, zs, e2, w2, o2, ?_, by rw [hid_eq]; exact r2⟩
        rw [upd_ne]
        · exact h2
        · rintro rfl
          exact s.apart i j _ _ _ hj e ec f e2
  · have g1 : ∃ es', ρ[j]? = some (.own es') := by
      by_cases hj : i = j
      · subst hj; exact ⟨_, e⟩
      · rw [List.getElem?_set_ne hj] at e1; exact ⟨_, e1⟩
    have g2 : ∃ es', ρ[k]? = some (.own es') := by
      by_cases hk : i = k
      · subst hk; exact ⟨_, e⟩
      · rw [List.getElem?_set_ne hk] at e2; exact ⟨_, e2⟩
    obtain ⟨es', g1⟩ := g1
    obtain ⟨fs', g2⟩ := g2
    exact s.apart j k es' fs' b n g1 g2 f1 f2
  · rw [upd_ne]
    · exact eb
    · rintro rfl; exact nb hw
theorem SR.freeze {i : Nat} {ds : List D} (s : SR K O W ρ σ H) (e : ρ[i]? = some (.own ds)) : ∃ W', SR K O W' (ρ.set i (.val (.list ds))) σ H ∧ Fm W H H W' ∧ ∀ H' W'', Fm W' H H' W'' → Fm W H H' W'' := by
  obtain ⟨a, xs, f, hw, ho, h, r⟩ := s.rel i _ e
  have sub : ∀ b ∈ W.filter (fun b => decide (b ≠ a)), b ∈ W := fun b hb => (List.mem_filter.mp hb).1
  have nin : a ∉ W.filter (fun b => decide (b ≠ a)) := fun hb => by simpa using (List.mem_filter.mp hb).2
  have up : Same (hid (O ++ W) H) (hid (O ++ W.filter (fun b => decide (b ≠ a))) H) := hid_less fun b hb => by
    rcases List.mem_append.mp hb with z | z
    · exact List.mem_append_left _ z
    · exact List.mem_append_right _ (sub b z)
  have fm : Fm W H H (W.filter (fun b => decide (b ≠ a))) := ⟨fun _ _ q _ => q, fun b hb => .inl (sub b hb)⟩
  refine ⟨W.filter (fun b => decide (b ≠ a)), ⟨by simp [s.len], fun j c ec => ?_, fun j k es fs b n e1 e2 f1 f2 => ?_, fun b hb => ?_⟩, fm, fun H' W'' q => fm.trans q⟩
  rotate_left 2
  · refine s.live b ?_
    rcases List.mem_append.mp hb with q | q
    · exact List.mem_append_left _ q
    · exact List.mem_append_right _ (sub b q)
  · by_cases hj : i = j
    · subst hj
      have hi : i < ρ.length := (List.getElem?_eq_some_iff.mp e).1
      rw [List.getElem?_set_self hi] at ec
      cases ec
      refine ⟨.ref a, f, a, xs, rfl, .inl (.inl ?_), r.mono up⟩
      rw [hid_out]
      · exact h
      · intro z
        rcases List.mem_append.mp z with z | z
        · exact ho z
        · exact nin z
    · rw [List.getElem?_set_ne hj] at ec
      have q := s.rel j c ec
      cases c with
      | emp => trivial
      | ref _ => exact q
      | val d => obtain ⟨v, e2, r2⟩ := q; exact ⟨v, e2, r2.mono up⟩
      | own es =>
        obtain ⟨b, zs, e2, w2, o2, h2, r2⟩ := q
        refine ⟨b, zs, e2, List.mem_filter.mpr ⟨w2, ?_⟩, o2, h2, r2.mono up⟩
        have : b ≠ a := by rintro rfl; exact s.apart i j _ _ _ hj e ec f e2
        simpa using this
  · have hj : i ≠ j := fun z => by
      subst z
      have hi : i < ρ.length := (List.getElem?_eq_some_iff.mp e).1
      rw [List.getElem?_set_self hi] at e1; cases e1
    have hk : i ≠ k := fun z => by
      subst z
      have hi : i < ρ.length := (List.getElem?_eq_some_iff.mp e).1
      rw [List.getElem?_set_self hi] at e2; cases e2
    rw [List.getElem?_set_ne hj] at e1
    rw [List.getElem?_set_ne hk] at e2
    exact s.apart j k es fs b n e1 e2 f1 f2
end
end Fn
set_option Elab.async false
set_option linter.all false
set_option maxRecDepth 100000
namespace Fn
open PySem L2 PySem.Spec PyProof.Rows
noncomputable abbrev SE (X : Cx) (e : Expr) (f : Env → Option D) : Prop := PE X e (tF X.K f)
noncomputable abbrev SB (X : Cx) (e : Expr) (f : Env → Option D) : Prop := PE X e (tB' X.K f)
noncomputable abbrev SN (X : Cx) (e : Expr) (f : Env → Option (List D)) : Prop := PE X e (tN X.K f)
noncomputable abbrev ST (X : Cx) (e : Expr) (f : Env → Option Bool) : Prop := PT X e (tFT X.K f)
noncomputable abbrev SW (X : Cx) (e : Expr) (f : Env → Option Bool) : Prop := PW X e (tFT X.K f)
noncomputable abbrev SA (X : Cx) (es : List Expr) (f : Env → Option (List D)) : Prop := PA X es (tFA X.K f)
noncomputable abbrev SS (X : Cx) (st : Stmt) (f : Env → Option Fl) : Prop := PS X st (tFS X.K f)
noncomputable abbrev SSs (X : Cx) (sts : List Stmt) (f : Env → Option Fl) : Prop := PSs X sts (tFS X.K f)
noncomputable def RepsB (K : PySem.W.Frag) (O W : List Addr) (H : Hp) : List D → List V → Prop
  | [], vs => vs = []
  | d :: ds, vs => ∃ v r, vs = v :: r ∧ RepB K O W H d v ∧ RepsB K O W H ds r
noncomputable def tFAB (K : PySem.W.Frag) (f : Env → Option (List D)) : TA := fun σ H Q => ∃ O W ρ ds, SR K O W ρ σ H ∧ f ρ = some ds ∧ ∀ vs H', Same H H' → RepsB K O W H' ds vs → Q vs H'
noncomputable abbrev SAB (X : Cx) (es : List Expr) (f : Env → Option (List D)) : Prop := PA X es (tFAB X.K f)
section
variable {X : Cx} {e : Expr}
theorem pe_conv {t t' : TE} (h : PE X e t) (c : ∀ σ H Q, t' σ H Q → t σ H Q) : PE X e t' := fun pins s σ H Q I q => h pins s σ H Q I (c σ H Q q)
theorem pt_conv {t t' : TT} (h : PT X e t) (c : ∀ σ H Q, t' σ H Q → t σ H Q) : PT X e t' := fun pins s σ H Q I q => h pins s σ H Q I (c σ H Q q)
theorem pw_conv {t t' : TT} (h : PW X e t) (c : ∀ σ H Q, t' σ H Q → t σ H Q) : PW X e t' := fun wh pins s σ H Q I q => h wh pins s σ H Q I (c σ H Q q)
theorem pa_conv {es : List Expr} {t t' : TA} (h : PA X es t) (c : ∀ σ H Q, t' σ H Q → t σ H Q) : PA X es t' := fun p pins s σ H Q I q => h p pins s σ H Q I (c σ H Q q)
theorem ps_conv {st : Stmt} {t t' : TS} (h : PS X st t) (c : ∀ D σ H, t' D σ H → t D σ H) : PS X st t' := fun pins s σ H D I q => h pins s σ H D I (c D σ H q)
theorem pss_conv {st : List Stmt} {t t' : TS} (h : PSs X st t) (c : ∀ D σ H, t' D σ H → t D σ H) : PSs X st t' := fun pins s σ H D I q => h pins s σ H D I (c D σ H q)
end
noncomputable def eVar (i : Nat) : Env → Option D := fun ρ => match ρ[i]? with
  | some (.val d) => some d
  | _ => none
noncomputable def bVar (i : Nat) : Env → Option D := fun ρ => match ρ[i]? with
  | some (.val d) => some d
  | some (.own ds) => some (.list ds)
  | _ => none
noncomputable def eC (d : D) : Env → Option D := fun _ => some d
section
variable {X : Cx} {pos : Pos}
theorem se_var (i : Nat) {x : Str} (hN : X.N[i]? = some x := by rfl) (hv : Vis X.env.scope x := by first | exact Or.inl rfl | exact Or.inr (Or.inl rfl) | exact Or.inr (Or.inr rfl)) (hd : (x == ("__debug__" : Str)) = false := by decide)
    (hcd : (x == ("__classdict__" : Str)) = false := by decide) : SE X (.Name x pos) (eVar i) := by
  refine pe_conv (pe_var hN hv hd hcd) fun σ H Q h => ?_
  obtain ⟨O, W, ρ, d, sr, e, k⟩ := h
  unfold eVar at e
  cases c : ρ[i]? with
  | none => rw [c] at e; cases e
  | some c' =>
    rw [c] at e
    cases c' with
    | emp => cases e
    | ref _ => cases e
    | own ds => cases e
    | val d' =>
      cases e
      obtain ⟨v, e1, r⟩ := sr.rel i _ c
      exact ⟨v, e1, k v H (.refl H) r⟩
theorem sb_var (i : Nat) {x : Str} (hN : X.N[i]? = some x := by rfl) (hv : Vis X.env.scope x := by first | exact Or.inl rfl | exact Or.inr (Or.inl rfl) | exact Or.inr (Or.inr rfl)) (hd : (x == ("__debug__" : Str)) = false := by decide)
    (hcd : (x == ("__classdict__" : Str)) = false := by decide) : SB X (.Name x pos) (bVar i) := by
  refine pe_conv (pe_var hN hv hd hcd) fun σ H Q h => ?_
  obtain ⟨O, W, ρ, d, sr, e, k⟩ := h
  unfold bVar at e
  cases c : ρ[i]? with
  | none => rw [c] at e; cases e
  | some c' =>
    rw [c] at e
    cases c' with
    | emp => cases e
    | ref _ => cases e
    | own ds =>
      cases e
      obtain ⟨a, xs, e1, w, o, h, r⟩ := sr.rel i _ c
      exact ⟨_, e1, k _ H (.refl H) (.inr ⟨ds, a, xs, rfl, rfl, h, r⟩)⟩
    | val d' =>
      cases e
      obtain ⟨v, e1, r⟩ := sr.rel i _ c
      exact ⟨v, e1, k v H (.refl H) (.inl r)⟩
theorem sb_of {e : Expr} {f : Env → Option D} (h : SE X e f) : SB X e f := pe_conv h fun σ H Q h_0 => by obtain ⟨O, W, ρ, d, sr, e, k⟩ := h_0; exact ⟨O, W, ρ, d, sr, e, fun v H' s r => k v H' s (.inl r)⟩
theorem se_c {e : Expr} {v : V} {d : D} (h : PE X e (tC v)) (r : ∀ H, Rep X.K H d v) : SE X e (eC d) := pe_conv h fun σ H Q h_0 => by
  obtain ⟨O, W, ρ, d', sr, e, k⟩ := h_0
  have e' : some d = some d' := e
  cases e'
  exact k v H (.refl H) (r _)
theorem se_int {i j} : SE X (.Constant (.int i) j pos) (eC (.int i)) := se_c pe_int fun _ => rfl
theorem se_bl {b j} : SE X (.Constant (.bool b) j pos) (eC (.bool b)) := se_c pe_bl fun _ => rfl
theorem se_non {j} : SE X (.Constant .none j pos) (eC .none) := se_c pe_non fun _ => rfl
theorem se_str {x j} (h : PyData.strOk x = true := by decide +kernel) : SE X (.Constant (.str x) j pos) (eC (.str x)) := se_c pe_str fun _ => ⟨rfl, h⟩
theorem se_globI {x : Str} {i : Int} {t : Tok} (hg : Gl X x) (hm : X.mg x = some (.int i t)) (hd : (x == ("__debug__" : Str)) = false := by decide) : SE X (.Name x pos) (eC (.int i)) :=
  se_c (pe_glob hg hm (v := .int i) ⟨t, rfl⟩ hd) fun _ => rfl
end
section
variable {K : PySem.W.Frag} {O W : List Addr} {H : Hp} {p : Addr}
theorem same_upd (np : H p = none) (o : HO) : Same H (upd H p o) := fun b u e => by
  rw [upd_ne]
  · exact e
  · rintro rfl; rw [np] at e; cases e
theorem new_tup {ds : List D} {xs : List V} (np : H p = none) (lv : ∀ a ∈ O ++ W, H a ≠ none) (r : Reps K (hid (O ++ W) H) ds xs) : Same H (upd H p (.tup xs)) ∧ Rep K (hid (O ++ W) (upd H p (.tup xs))) (.tuple ds) (.ref p) := by
  have s := same_upd np (.tup xs)
  refine ⟨s, p, xs, rfl, .inl (.inl ?_), r.mono (hid_same s)⟩
  rw [hid_out fun z => lv p z np, upd_same]
theorem new_lst {ds : List D} {xs : List V} (np : H p = none) (lv : ∀ a ∈ O ++ W, H a ≠ none) (r : Reps K (hid (O ++ W) H) ds xs) : Same H (upd H p (.lst xs)) ∧ Rep K (hid (O ++ W) (upd H p (.lst xs))) (.list ds) (.ref p) := by
  have s := same_upd np (.lst xs)
  refine ⟨s, p, xs, rfl, .inl (.inl ?_), r.mono (hid_same s)⟩
  rw [hid_out fun z => lv p z np, upd_same]
theorem new_own {ds : List D} {xs : List V} (np : H p = none) (r : Reps K (hid (O ++ W) H) ds xs) : Reps K (hid (O ++ (W ++ [p])) (upd H p (.lst xs))) ds xs := by
  refine r.mono fun b o e => ?_
  obtain ⟨z, e⟩ := hid_some e
  have nb : b ≠ p := by rintro rfl; rw [np] at e; cases e
  rw [hid_out, upd_ne nb]
  · exact e
  · intro q
    rcases List.mem_append.mp q with q | q
    · exact z (List.mem_append_left _ q)
    · rcases List.mem_append.mp q with q | q
      · exact z (List.mem_append_right _ q)
      · exact nb (by simpa using q)
end
noncomputable def big : Nat := 100000
theorem big_ok {n : Nat} (h : n ≤ big) : n ≤ sizeLine := Nat.le_trans h (by rw [sizeLine_eq]; decide)
noncomputable def OpD (K : PySem.W.Frag) (r : R2) (g : D → D → Option D) : Prop := ∀ (O W : List Addr) (H : Hp) (x y : V) (dx dy d : D) (Q : VK), (∀ a ∈ O ++ W, H a ≠ none) → RepB K O W H dx x → RepB K O W H dy y → g dx dy = some d →
  (∀ v H', Same H H' → Rep K (hid (O ++ W) H') d v → Q v H') → r x y H Q
noncomputable def e2 (g : D → D → Option D) (f f' : Env → Option D) : Env → Option D := fun ρ => match f ρ, f' ρ with
  | some x, some y => g x y
  | _, _ => none
theorem e2_some {g : D → D → Option D} {f f' : Env → Option D} {ρ : Env} {d : D} (h : e2 g f f' ρ = some d) : ∃ x y, f ρ = some x ∧ f' ρ = some y ∧ g x y = some d := by
  unfold e2 at h
  cases e : f ρ with
  | none => rw [e] at h; cases h
  | some x =>
    cases e' : f' ρ with
    | none => rw [e, e'] at h; cases h
    | some y => rw [e, e'] at h; exact ⟨x, y, rfl, rfl, h⟩
section
variable {X : Cx} {a b : Expr} {pos : Pos} {f f' f'' : Env → Option D} {g g' : D → D → Option D} {r r' : R2}
theorem op_of (hg : OpD X.K r g) : ∀ σ H Q, tF X.K (e2 g f f') σ H Q → tOp r (tB' X.K f) (tB' X.K f') σ H Q := by
  intro σ H Q ⟨O, W, ρ, d, sr, e, k⟩
  obtain ⟨x, y, e1, e2, e3⟩ := e2_some e
  refine ⟨O, W, ρ, x, sr, e1, fun v H1 s1 r1 => ⟨O, W, ρ, y, sr.mono s1, e2, fun u H2 s2 r2 => ?_⟩⟩
  exact hg O W H2 v u x y d Q (sr.mono (s1.trans s2)).live (r1.mono s2) r2 e3 fun w H' s q => k w H' ((s1.trans s2).trans s) q
theorem se_op {op : Operator} (ho : OpR X (binaryOp op) r) (hg : OpD X.K r g) (ha : SB X a f) (hb : SB X b f') : SE X (.BinOp a op b pos) (e2 g f f') := pe_conv (pe_op ho ha hb) (op_of hg)
theorem se_cmp {op : CmpOp} (ho : OpR X (compareOp op) r) (hg : OpD X.K r g) (ha : SB X a f) (hb : SB X b f') (hm : behindInMarks op b = false) : SE X (.Compare a [op] [b] pos) (e2 g f f') := pe_conv (pe_cmpR ho ha hb hm) (op_of hg)
theorem se_ix (ho : IxR X r) (hg : OpD X.K r g) (ha : SB X a f) (hb : SB X b f') (hs : PlainIx b) : SE X (.Subscript a b pos) (e2 g f f') := pe_conv (pe_ix ho ha hb hs) (op_of hg)
noncomputable def eT (f : Env → Option D) : Env → Option Bool := fun ρ => match f ρ with
  | some (.bool b) => some b
  | _ => none
theorem eT_some {f : Env → Option D} {ρ : Env} {b : Bool} (h : eT f ρ = some b) : f ρ = some (.bool b) := by
  unfold eT at h
  cases e : f ρ with
  | none => rw [e] at h; cases h
  | some d =>
    rw [e] at h
    cases d <;> first | cases h; rfl | cases h
theorem test_of {t : TE} {f : Env → Option D} (h : ∀ σ H Q, tF X.K f σ H Q → t σ H Q) : ∀ σ H Q, tFT X.K (eT f) σ H Q → (fun σ H Q => t σ H fun x H' => ∃ k, x = .bl k ∧ Q k H') σ H Q := by
  intro σ H Q ⟨O, W, ρ, b, sr, e, k⟩
  refine h σ H _ ⟨O, W, ρ, .bool b, sr, eT_some e, fun v H' s r => ?_⟩
  have r' : v = .bl b := r
  exact ⟨b, r', k H' s⟩
theorem st_cmp {op : CmpOp} (ho : OpR X (compareOp op) r) (hg : OpD X.K r g) (ha : SB X a f) (hb : SB X b f') (hm : behindInMarks op b = false) : ST X (.Compare a [op] [b] pos) (eT (e2 g f f')) := pt_conv (pt_cmpR ho ha hb hm) (test_of (op_of hg))
theorem st_val (h : SE X a f) (he : ∀ whole, isTrue a X.env whole = (do let v ← whole; standAt a.pos; holding [v] (truthy v)) := by intro _; rfl) : ST X a (eT f) := pt_conv (pt_val h he) (test_of fun _ _ _ q => q)
noncomputable def e3 (g g' : D → D → Option D) (f f' f'' : Env → Option D) : Env → Option D := fun ρ => match f ρ, f' ρ with
  | some x, some y => match g x y with
    | some (.bool true) => match f'' ρ with
      | some z => g' y z
      | none => none
    | some (.bool false) => some (.bool false)
    | _ => none
  | _, _ => none
theorem chain_of (hg : OpD X.K r g) (hg' : OpD X.K r' g') : ∀ σ H Q, tF X.K (e3 g g' f f' f'') σ H Q → tChain r r' (tB' X.K f) (tB' X.K f') (tB' X.K f'') σ H Q := by
  intro σ H Q ⟨O, W, ρ, d, sr, e, k⟩
  unfold e3 at e
  cases e1 : f ρ with
  | none => rw [e1] at e; cases e
  | some x =>
    cases e2 : f' ρ with
    | none => rw [e1, e2] at e; cases e
    | some y =>
      simp only [e1, e2] at e
      refine ⟨O, W, ρ, x, sr, e1, fun v H1 s1 r1 => ⟨O, W, ρ, y, sr.mono s1, e2, fun u H2 s2 r2 => ?_⟩⟩
      cases e4 : g x y with
      | none => rw [e4] at e; cases e
      | some z =>
        rw [e4] at e
        have key : ∃ c, z = .bool c ∧ (c = true → ∃ w, f'' ρ = some w ∧ g' y w = some d) ∧ (c = false → d = .bool false) := by
          cases z with
          | bool c =>
            cases c with
            | true =>
              refine ⟨true, rfl, (fun _ => ?_), (fun q => by cases q)⟩
              cases e5 : f'' ρ with
              | none => simp [e5] at e
              | some w => simp [e5] at e; exact ⟨w, rfl, e⟩
            | false => exact ⟨false, rfl, (fun q => by cases q), (fun _ => by simpa using e.symm)⟩
          | _ => simp at e
        obtain ⟨c, rfl, t1, t2⟩ := key
        refine hg O W H2 v u x y (.bool c) _ (sr.mono (s1.trans s2)).live (r1.mono s2) r2 e4 fun w H3 s3 q => ?_
        have q' : w = .bl c := q
        refine ⟨c, q', ?_⟩
        cases c with
        | false =>
          rw [if_neg Bool.false_ne_true]
          rw [t2 rfl] at k
          exact k _ H3 ((s1.trans s2).trans s3) rfl
        | true =>
          rw [if_pos rfl]
          obtain ⟨w, e5, e6⟩ := t1 rfl
          refine ⟨O, W, ρ, w, sr.mono ((s1.trans s2).trans s3), e5, fun u' H4 s4 r4 => ?_⟩
          exact hg' O W H4 u u' y w d Q (sr.mono (((s1.trans s2).trans s3).trans s4)).live (r2.mono (s3.trans s4)) r4 e6 fun w' H' s' q' => k w' H' ((((s1.trans s2).trans s3).trans s4).trans s') q'
variable {c : Expr}
theorem se_chain {op op' : CmpOp} (ho : OpR X (compareOp op) r) (hg : OpD X.K r g) (ho' : OpR X (compareOp op') r') (hg' : OpD X.K r' g') (ha : SB X a f) (hb : SB X b f') (hc : SB X c f'')
    (hm : lastMarks [op, op'] [b, c] = false := by with_unfolding_all rfl) : SE X (.Compare a [op, op'] [b, c] pos) (e3 g g' f f' f'') := pe_conv (pe_chain ho ho' ha hb hc hm) (chain_of hg hg')
noncomputable def tOrF (t u : Env → Option Bool) : Env → Option Bool := fun ρ => match t ρ with
  | some true => some true
  | some false => u ρ
  | none => none
noncomputable def tNotF (t : Env → Option Bool) : Env → Option Bool := fun ρ => (t ρ).map (!·)
variable {t u : Env → Option Bool} {rest : List Expr}
theorem sw_or1 (ha : ST X a t) : SW X (.BoolOp .Or [a] pos) t := pw_or1 ha
theorem sw_or (ha : ST X a t) (hb : SW X (.BoolOp .Or (b :: rest) pos) u) : SW X (.BoolOp .Or (a :: b :: rest) pos) (tOrF t u) := pw_conv (pw_or ha hb) fun σ H Q h_0 => by
  obtain ⟨O, W, ρ, d, sr, e, k⟩ := h_0
  unfold tOrF at e
  cases e1 : t ρ with
  | none => rw [e1] at e; cases e
  | some x =>
    rw [e1] at e
    refine ⟨O, W, ρ, x, sr, e1, fun H1 s1 => ?_⟩
    cases x with
    | true => rw [if_pos rfl]; cases e; exact k H1 s1
    | false => rw [if_neg Bool.false_ne_true]; exact ⟨O, W, ρ, d, sr.mono s1, e, fun H2 s2 => k H2 (s1.trans s2)⟩
theorem st_sw (h : SW X a t) : ST X a t := h.pt
theorem st_not (ha : ST X a t) : ST X (.UnaryOp .Not a pos) (tNotF t) := pt_conv (pt_not ha) fun σ H Q h_0 => by
  obtain ⟨O, W, ρ, d, sr, e, k⟩ := h_0
  unfold tNotF at e
  cases e1 : t ρ with
  | none => rw [e1] at e; cases e
  | some x =>
    rw [e1] at e
    refine ⟨O, W, ρ, x, sr, e1, fun H1 s1 => ?_⟩
    have e' : (!x) = d := Option.some.inj e
    show Q (!x) H1
    rw [e']
    exact k H1 s1
noncomputable def eAndV (f f' : Env → Option D) : Env → Option D := fun ρ => match f ρ with
  | some (.bool true) => f' ρ
  | some (.bool false) => some (.bool false)
  | _ => none
noncomputable def eNotV (f : Env → Option D) : Env → Option D := fun ρ => match f ρ with
  | some (.bool b) => some (.bool (!b))
  | _ => none
theorem isBool {f : Env → Option D} {ρ : Env} {A B : Option D} {d : D} (h : (match f ρ with | some (.bool true) => A | some (.bool false) => B | _ => none) = some d) :
    (f ρ = some (.bool true) ∧ A = some d) ∨ (f ρ = some (.bool false) ∧ B = some d) := by
  cases e : f ρ with
  | none => rw [e] at h; cases h
  | some x =>
    rw [e] at h
    cases x with
    | bool b => cases b with
      | true => exact .inl ⟨rfl, h⟩
      | false => exact .inr ⟨rfl, h⟩
    | _ => cases h
theorem se_one {op} (h : SE X a f) : SE X (.BoolOp op [a] pos) f := pe_one h
theorem se_and (ha : SE X a f) (hb : SE X (.BoolOp .And (b :: rest) pos) f') : SE X (.BoolOp .And (a :: b :: rest) pos) (eAndV f f') := pe_conv (pe_and ha hb) fun σ H Q h_0 => by
  obtain ⟨O, W, ρ, d, sr, e, k⟩ := h_0
  rcases isBool e with ⟨e1, e2⟩ | ⟨e1, e2⟩
  · refine ⟨O, W, ρ, _, sr, e1, fun v H1 s1 r1 => ⟨true, r1, ?_⟩⟩
    rw [if_pos rfl]
    exact ⟨O, W, ρ, d, sr.mono s1, e2, fun u H2 s2 r2 => k u H2 (s1.trans s2) r2⟩
  · refine ⟨O, W, ρ, _, sr, e1, fun v H1 s1 r1 => ⟨false, r1, ?_⟩⟩
    rw [if_neg Bool.false_ne_true]
    cases e2
    exact k _ H1 s1 rfl
theorem se_not (ha : SE X a f) : SE X (.UnaryOp .Not a pos) (eNotV f) := pe_conv (pe_not ha) fun σ H Q h_0 => by
  obtain ⟨O, W, ρ, d, sr, e, k⟩ := h_0
  unfold eNotV at e
  cases e1 : f ρ with
  | none => rw [e1] at e; cases e
  | some x =>
    rw [e1] at e
    cases x with
    | bool b =>
      cases e
      exact ⟨O, W, ρ, _, sr, e1, fun v H1 s1 r1 => ⟨b, r1, k _ H1 s1 rfl⟩⟩
    | _ => cases e
noncomputable def eIf (t : Env → Option Bool) (f f' : Env → Option D) : Env → Option D := fun ρ => match t ρ with
  | some true => f ρ
  | some false => f' ρ
  | none => none
theorem se_ifExp {c : Expr} (hc : ST X c t) (ha : SE X a f) (hb : SE X b f') : SE X (.IfExp c a b pos) (eIf t f f') := pe_conv (pe_ifExp hc ha hb) fun σ H Q h_0 => by
  obtain ⟨O, W, ρ, d, sr, e, k⟩ := h_0
  unfold eIf at e
  cases e1 : t ρ with
  | none => rw [e1] at e; cases e
  | some x =>
    rw [e1] at e
    refine ⟨O, W, ρ, x, sr, e1, fun H1 s1 => ?_⟩
    cases x with
    | true => rw [if_pos rfl]; exact ⟨O, W, ρ, d, sr.mono s1, e, fun u H2 s2 r2 => k u H2 (s1.trans s2) r2⟩
    | false => rw [if_neg Bool.false_ne_true]; exact ⟨O, W, ρ, d, sr.mono s1, e, fun u H2 s2 r2 => k u H2 (s1.trans s2) r2⟩
end
noncomputable def aNil : Env → Option (List D) := fun _ => some []
noncomputable def aCons (f : Env → Option D) (g : Env → Option (List D)) : Env → Option (List D) := fun ρ => match f ρ, g ρ with
  | some d, some ds => some (d :: ds)
  | _, _ => none
theorem aCons_some {f : Env → Option D} {g : Env → Option (List D)} {ρ : Env} {ds : List D} (h : aCons f g ρ = some ds) : ∃ d r, f ρ = some d ∧ g ρ = some r ∧ ds = d :: r := by
  unfold aCons at h
  cases e : f ρ with
  | none => rw [e] at h; cases h
  | some x =>
    cases e' : g ρ with
    | none => rw [e, e'] at h; cases h
    | some y => rw [e, e'] at h; cases h; exact ⟨x, y, rfl, rfl, rfl⟩
section
variable {X : Cx} {e : Expr} {es : List Expr} {f : Env → Option D} {g : Env → Option (List D)} {pos : Pos}
theorem sa_nil : SA X [] aNil := pa_conv pa_nil fun σ H Q h_0 => by
  obtain ⟨O, W, ρ, ds, sr, e, k⟩ := h_0
  cases e
  exact k [] H (.refl H) .nil
theorem sa_cons (ha : SE X e f) (hr : SA X es g) (hs : starEach (e :: es) X.env = (false, eval e X.env) :: starEach es X.env := by rfl) : SA X (e :: es) (aCons f g) := pa_conv (pa_cons ha hr hs) fun σ H Q h_0 => by
  obtain ⟨O, W, ρ, ds, sr, e, k⟩ := h_0
  obtain ⟨d, r, e1, e2, rfl⟩ := aCons_some e
  refine ⟨O, W, ρ, d, sr, e1, fun v H1 s1 r1 => ⟨O, W, ρ, r, sr.mono s1, e2, fun vs H2 s2 r2 => ?_⟩⟩
  exact k (v :: vs) H2 (s1.trans s2) (.cons (r1.mono (hid_same s2)) r2)
theorem sab_nil : SAB X [] aNil := pa_conv pa_nil fun σ H Q h_0 => by
  obtain ⟨O, W, ρ, ds, sr, e, k⟩ := h_0
  cases e
  exact k [] H (.refl H) rfl
theorem sab_cons (ha : SB X e f) (hr : SAB X es g) (hs : starEach (e :: es) X.env = (false, eval e X.env) :: starEach es X.env := by rfl) : SAB X (e :: es) (aCons f g) := pa_conv (pa_cons ha hr hs) fun σ H Q h_0 => by
  obtain ⟨O, W, ρ, ds, sr, e, k⟩ := h_0
  obtain ⟨d, r, e1, e2, rfl⟩ := aCons_some e
  refine ⟨O, W, ρ, d, sr, e1, fun v H1 s1 r1 => ⟨O, W, ρ, r, sr.mono s1, e2, fun vs H2 s2 r2 => ?_⟩⟩
  exact k (v :: vs) H2 (s1.trans s2) ⟨v, vs, rfl, r1.mono s2, r2⟩
noncomputable def eTup (g : Env → Option (List D)) : Env → Option D := fun ρ => match g ρ with
  | some ds => if ds.length ≤ big then some (.tuple ds) else none
  | none => none
noncomputable def eLst (g : Env → Option (List D)) : Env → Option D := fun ρ => match g ρ with
  | some ds => if ds.length ≤ big then some (.list ds) else none
  | none => none
noncomputable def nLst (g : Env → Option (List D)) : Env → Option (List D) := fun ρ => match g ρ with
  | some ds => if ds.length ≤ big then some ds else none
  | none => none
theorem sized {α : Type} {o : Option (List D)} {F : List D → α} {d : α} (h : (match o with | some ds => if ds.length ≤ big then some (F ds) else none | none => none) = some d) : ∃ ds, o = some ds ∧ ds.length ≤ big ∧ F ds = d := by
  cases o with
  | none => cases h
  | some ds =>
    by_cases z : ds.length ≤ big
    · rw [show (match some ds with | some ds => if ds.length ≤ big then some (F ds) else none | none => none) = some (F ds) from if_pos z] at h
      exact ⟨ds, rfl, z, Option.some.inj h⟩
    · rw [show (match some ds with | some ds => if ds.length ≤ big then some (F ds) else none | none => none) = none from if_neg z] at h
      cases h
theorem se_tup {x1} (h : SA X es g) : SE X (.Tuple es x1 pos) (eTup g) := pe_conv (pe_tup h) fun σ H Q h_0 => by
  obtain ⟨O, W, ρ, d, sr, e, k⟩ := h_0
  obtain ⟨ds, e1, z, rfl⟩ := sized (F := PyData.tuple) e
  refine ⟨O, W, ρ, ds, sr, e1, fun vs H1 s1 r1 => ⟨by rw [← r1.length]; exact big_ok z, fun p np => ?_⟩⟩
  obtain ⟨s2, r2⟩ := new_tup np (sr.mono s1).live r1
  exact k _ _ (s1.trans s2) r2
theorem se_lst (h : SA X es g) : SE X (.List es pos) (eLst g) := pe_conv (pe_lst h) fun σ H Q h_0 => by
  obtain ⟨O, W, ρ, d, sr, e, k⟩ := h_0
  obtain ⟨ds, e1, z, rfl⟩ := sized (F := PyData.list) e
  refine ⟨O, W, ρ, ds, sr, e1, fun vs H1 s1 r1 => ⟨by rw [← r1.length]; exact big_ok z, fun p np => ?_⟩⟩
  obtain ⟨s2, r2⟩ := new_lst np (sr.mono s1).live r1
  exact k _ _ (s1.trans s2) r2
theorem sn_lst (h : SA X es g) : SN X (.List es pos) (nLst g) := pe_conv (pe_lst h) fun σ H Q h_0 => by
  obtain ⟨O, W, ρ, d, sr, e, k⟩ := h_0
  obtain ⟨ds, e1, z, rfl⟩ := sized (F := id) e
  refine ⟨O, W, ρ, ds, sr, e1, fun vs H1 s1 r1 => ⟨by rw [← r1.length]; exact big_ok z, fun p np => ?_⟩⟩
  have np0 : H p = none := by
    cases q : H p with
    | none => rfl
    | some o => rw [s1 p o q] at np; cases np
  exact k p vs _ np0 (s1.trans (same_upd np _)) upd_same (new_own np r1)
end
noncomputable def spF (K : PySem.W.Frag) (G : List D → Option D) : Sp := fun vs H Q _ => ∃ O ds d, (∀ a ∈ O, H a ≠ none) ∧ Reps K (hid O H) ds vs ∧ G ds = some d ∧ ∀ v H', Same H H' → Rep K (hid O H') d v → Q v H'
noncomputable def eCall (G : List D → Option D) (g : Env → Option (List D)) : Env → Option D := fun ρ => match g ρ with
  | some ds => G ds
  | none => none
noncomputable def CallD (K : PySem.W.Frag) (r : List V → Hp → VK → Prop) (G : List D → Option D) : Prop := ∀ (O W : List Addr) (H : Hp) (vs : List V) (ds : List D) (d : D) (Q : VK), (∀ a ∈ O ++ W, H a ≠ none) → RepsB K O W H ds vs → G ds = some d →
  (∀ v H', Same H H' → Rep K (hid (O ++ W) H') d v → Q v H') → r vs H Q
section
variable {X : Cx} {k : Nat} {f C : Addr} {fd : FuncData} {ps : List Str} {x m : Str} {p pos apos : Pos} {e o : Expr} {es : List Expr} {g : Env → Option (List D)} {G : List D → Option D} {id T : String} {r : List V → Hp → VK → Prop}
theorem se_call (F : FnOk X.prog X.w X.K X.mg X.base CX0 k f fd ps (spF X.K G)) (hr : Room k X.A) (hg : Gl X x) (hm : X.mg x = some (.ref f)) (hk : PySem.W.keepIn X.K (.ref f) = true) (hb : Binds X.K fd ps [])
    (ha : SA X (e :: es) g) (hdb : (x == ("__debug__" : Str)) = false := by decide) (he : starEach (e :: es) X.env = (false, eval e X.env) :: starEach es X.env := by rfl) (hpl : (backTo pos (starEach es X.env)).any (·.1) = false := by rfl) :
    SE X (.Call (.Name x p) (e :: es) [] pos) (eCall G g) := pe_conv (pe_call (E := E0) F hr hg hm hk hb .nil pass0 ha hdb he hpl) fun σ H Q h_0 => by
  obtain ⟨O, W, ρ, d, sr, e, k⟩ := h_0
  unfold eCall at e
  cases e1 : g ρ with
  | none => rw [e1] at e; cases e
  | some ds =>
    rw [e1] at e
    refine ⟨O, W, ρ, ds, sr, e1, fun vs H1 s1 r1 => ⟨O ++ W, ds, d, (sr.mono s1).live, ?_, e, fun v H' s2 q => k v H' (s1.trans s2) q⟩⟩
    rw [List.append_nil]
    exact r1
theorem callB_of (hc : CallD X.K r G) : ∀ σ H Q, tF X.K (eCall G g) σ H Q → tCB r (tFAB X.K g) σ H Q := by
  intro σ H Q ⟨O, W, ρ, d, sr, e, k⟩
  unfold eCall at e
  cases e1 : g ρ with
  | none => rw [e1] at e; cases e
  | some ds =>
    rw [e1] at e
    exact ⟨O, W, ρ, ds, sr, e1, fun vs H1 s1 r1 => hc O W H1 vs ds d Q (sr.mono s1).live r1 e fun v H' s2 q => k v H' (s1.trans s2) q⟩
theorem se_callB (hc : CallR X (.builtin id) r) (hd : CallD X.K r G) (hg : Gl X x) (hm : X.mg x = none) (hv : bootBuiltins x = some (.builtin id)) (ha : SAB X (e :: es) g) (hn : x ≠ "__name__" := by decide) (hdb : (x == ("__debug__" : Str)) = false := by decide)
    (he : starEach (e :: es) X.env = (false, eval e X.env) :: starEach es X.env := by rfl) (hpl : (backTo pos (starEach es X.env)).any (·.1) = false := by rfl) : SE X (.Call (.Name x p) (e :: es) [] pos) (eCall G g) :=
  pe_conv (pe_callB hc hg hm hv ha hn hdb he hpl) (callB_of hd)
theorem se_callTy (hc : CallR X (.type T) r) (hd : CallD X.K r G) (hg : Gl X x) (hm : X.mg x = none) (hv : bootBuiltins x = some (.type T)) (ha : SAB X (e :: es) g) (hn : x ≠ "__name__" := by decide) (hdb : (x == ("__debug__" : Str)) = false := by decide)
    (he : starEach (e :: es) X.env = (false, eval e X.env) :: starEach es X.env := by rfl) (hpl : (backTo pos (starEach es X.env)).any (·.1) = false := by rfl) : SE X (.Call (.Name x p) (e :: es) [] pos) (eCall G g) :=
  pe_conv (pe_callTy hc hg hm hv ha hn hdb he hpl) (callB_of hd)
end
noncomputable def sNil : Env → Option Fl := fun ρ => some (.nx ρ)
noncomputable def sSeq (s t : Env → Option Fl) : Env → Option Fl := fun ρ => match s ρ with
  | some (.nx ρ') => t ρ'
  | r => r
noncomputable def sRet (f : Env → Option D) : Env → Option Fl := fun ρ => match f ρ with
  | some d => some (.rt d)
  | none => none
noncomputable def sSet (i : Nat) (f : Env → Option D) : Env → Option Fl := fun ρ => match f ρ with
  | some d => some (.nx (ρ.set i (.val d)))
  | none => none
noncomputable def sSetN (i : Nat) (f : Env → Option (List D)) : Env → Option Fl := fun ρ => match f ρ with
  | some ds => some (.nx (ρ.set i (.own ds)))
  | none => none
noncomputable def sIf (t : Env → Option Bool) (s s' : Env → Option Fl) : Env → Option Fl := fun ρ => match t ρ with
  | some true => s ρ
  | some false => s' ρ
  | none => none
noncomputable def sNo : Env → Option Fl := fun _ => none
noncomputable def frz (i : Nat) (ρ : Env) : Env := match ρ[i]? with
  | some (.own ds) => ρ.set i (.val (.list ds))
  | _ => ρ
noncomputable def sFrz (i : Nat) (s : Env → Option Fl) : Env → Option Fl := fun ρ => s (frz i ρ)
noncomputable def sApp (i : Nat) (f : Env → Option D) : Env → Option Fl := fun ρ => match ρ[i]?, f ρ with
  | some (.own ds), some d => if ds.length < big then some (.nx (ρ.set i (.own (ds ++ [d])))) else none
  | _, _ => none
section
variable {X : Cx} {e : Expr} {st : Stmt} {rest : List Stmt} {s s' : Env → Option Fl} {f : Env → Option D} {pos : Pos}
theorem sss_nil : SSs X [] sNil := pss_conv pss_nil fun D σ H h_0 => by
  obtain ⟨O, W, ρ, fl, sr, e, k⟩ := h_0
  cases e
  exact k W σ H sr (.refl W H)
theorem sss_cons (h1 : SS X st s) (h2 : SSs X rest s') : SSs X (st :: rest) (sSeq s s') := pss_conv (pss_cons h1 h2) fun D σ H h_0 => by
  obtain ⟨O, W, ρ, fl, sr, e, k⟩ := h_0
  unfold sSeq at e
  cases e1 : s ρ with
  | none => rw [e1] at e; cases e
  | some fl1 =>
    rw [e1] at e
    refine ⟨O, W, ρ, fl1, sr, e1, ?_⟩
    cases fl1 with
    | nx ρ' => exact fun W' σ' H' sr' fm => ⟨O, W', ρ', fl, sr', e, k.fm fm⟩
    | rt d => cases e; exact k
    | bk ρ' => cases e; exact k
    | ct ρ' => cases e; exact k
theorem sss_one (h1 : SS X st s) : SSs X [st] s := pss_one h1
theorem ss_ret (he : SE X e f) : SS X (.Return (some e) pos) (sRet f) := ps_conv (ps_ret he) fun D σ H h_0 => by
  obtain ⟨O, W, ρ, fl, sr, e, k⟩ := h_0
  unfold sRet at e
  cases e1 : f ρ with
  | none => rw [e1] at e; cases e
  | some d =>
    rw [e1] at e
    cases e
    exact ⟨O, W, ρ, d, sr, e1, fun v H' s r => k W v H' r (.of_same s)⟩
theorem ss_no : SS X st sNo := fun _ _ _ _ _ _ ⟨_, _, _, _, _, e, _⟩ => by cases e
theorem ss_expr (he : SE X e f) (hs : swapsWith e none pos.line X.env = pure false := by rfl) : SS X (.Expr e pos) (fun ρ => match f ρ with | some _ => some (.nx ρ) | none => none) := ps_conv (ps_expr he hs) fun D σ H h_0 => by
  obtain ⟨O, W, ρ, fl, sr, e, k⟩ := h_0
  cases e1 : f ρ with
  | none => simp [e1] at e
  | some d =>
    simp [e1] at e
    subst e
    exact ⟨O, W, ρ, d, sr, e1, fun v H' s r => k W σ H' (sr.mono s) (.of_same s)⟩
theorem ss_set {i : Nat} {x : Str} {pos' : Pos} (hN : X.N.Nodup) (hi : X.N[i]? = some x) (hx : Loc X.env.scope x) (he : SE X e f) (hs : swapsWith e (some (.Name x pos')) pos.line X.env = pure false := by rfl) (hf : X.fn x = true ∨ X.env.scope.names.lookup x = some .local := by first | exact .inl rfl | exact .inr rfl | assumption) :
    SS X (.Assign [.Name x pos'] e pos) (sSet i f) := ps_conv (ps_set hN hi hx he hs hf) fun D σ H h_0 => by
  obtain ⟨O, W, ρ, fl, sr, e, k⟩ := h_0
  unfold sSet at e
  cases e1 : f ρ with
  | none => rw [e1] at e; cases e
  | some d =>
    rw [e1] at e
    cases e
    exact ⟨O, W, ρ, d, sr, e1, fun v H' s r => k W _ H' ((sr.mono s).put r) (.of_same s)⟩
theorem ss_setN {i : Nat} {x : Str} {pos' : Pos} {f : Env → Option (List Fn.D)} (hN : X.N.Nodup) (hi : X.N[i]? = some x) (hx : Loc X.env.scope x) (he : SN X e f) (hs : swapsWith e (some (.Name x pos')) pos.line X.env = pure false := by rfl) (hf : X.fn x = true ∨ X.env.scope.names.lookup x = some .local := by first | exact .inl rfl | exact .inr rfl | assumption) :
    SS X (.Assign [.Name x pos'] e pos) (sSetN i f) := ps_conv (ps_set hN hi hx he hs hf) fun D σ H h_0 => by
  obtain ⟨O, W, ρ, fl, sr, e, k⟩ := h_0
  unfold sSetN at e
  cases e1 : f ρ with
  | none => rw [e1] at e; cases e
  | some ds =>
    rw [e1] at e
    cases e
    refine ⟨O, W, ρ, ds, sr, e1, fun p xs H' np s hp r => k (W ++ [p]) _ H' (sr.putN np s hp r) ⟨fun b o q _ => s b o q, fun a ha => ?_⟩⟩
    rcases List.mem_append.mp ha with z | z
    · exact .inl z
    · have : a = p := by simpa using z
      subst this
      exact .inr np
theorem ss_if {c : Expr} {a b : List Stmt} {t : Env → Option Bool} (hc : ST X c t) (ha : SSs X a s) (hb : SSs X b s') : SS X (.If c a b pos) (sIf t s s') := ps_conv (ps_if hc ha hb) fun D σ H h_0 => by
  obtain ⟨O, W, ρ, fl, sr, e, k⟩ := h_0
  unfold sIf at e
  cases e1 : t ρ with
  | none => rw [e1] at e; cases e
  | some x =>
    rw [e1] at e
    refine ⟨O, W, ρ, x, sr, e1, fun H1 s1 => ?_⟩
    cases x with
    | true => rw [if_pos rfl]; exact ⟨O, W, ρ, fl, sr.mono s1, e, k.fm (.of_same s1)⟩
    | false => rw [if_neg Bool.false_ne_true]; exact ⟨O, W, ρ, fl, sr.mono s1, e, k.fm (.of_same s1)⟩
theorem frz_ok {K : PySem.W.Frag} {O W : List Addr} {ρ : Env} {σ : L2.St} {H : Hp} {Dn : Ends} {fl : Fl} (i : Nat) (sr : SR K O W ρ σ H) (k : Post K O W H Dn fl) : ∃ W', SR K O W' (frz i ρ) σ H ∧ Post K O W' H Dn fl := by
  unfold frz
  cases c : ρ[i]? with
  | none => exact ⟨W, sr, k⟩
  | some c' =>
    cases c' with
    | emp => exact ⟨W, sr, k⟩
    | ref _ => exact ⟨W, sr, k⟩
    | val d => exact ⟨W, sr, k⟩
    | own ds =>
      obtain ⟨W', sr', fm, _⟩ := sr.freeze c
      exact ⟨W', sr', k.fm fm⟩
theorem ss_frz (i : Nat) (h : SS X st s) : SS X st (sFrz i s) := ps_conv h fun D σ H h_0 => by
  obtain ⟨O, W, ρ, fl, sr, e, k⟩ := h_0
  obtain ⟨W', sr', k'⟩ := frz_ok i sr k
  exact ⟨O, W', frz i ρ, fl, sr', e, k'⟩
theorem ss_app {i : Nat} {x : Str} {p apos cpos : Pos} (hN : X.N[i]? = some x) (hv : Vis X.env.scope x) (he : SE X e f) (hs : starEach [e] X.env = [(false, eval e X.env)] := by rfl)
    (hsw : swapsWith (.Call (.Attribute (.Name x p) "append" apos) [e] [] cpos) none pos.line X.env = pure false := by rfl)
    (hbase : attributeBase (.Name x p) "append" X.env (eval (.Name x p) X.env) = eval (.Name x p) X.env := by rfl)
    (hfew : ((backTo cpos (starEach [e] X.env)).all (fun x => !x.1) && (backToKw cpos (keywordEach [] X.env)).all (fun x => x.1.isSome)
      && decide ([e].length + ([] : List Keyword).length + (if ([] : List Keyword).isEmpty then 0 else 1) < 30)) = true := by rfl)
    (hline : (apos.endLine == cpos.line) = true := by rfl) (hplain : (backTo cpos (starEach [] X.env)).any (·.1) = false := by rfl)
    (hd : (x == ("__debug__" : Str)) = false := by decide) (hcd : (x == ("__classdict__" : Str)) = false := by decide) :
    SS X (.Expr (.Call (.Attribute (.Name x p) "append" apos) [e] [] cpos) pos) (sApp i f) := by
  have hh := pe_bm (X := X) (apos := apos) (cpos := cpos) PySem.F.plainAttrs_list PySem.F.slot_list_append PySem.F.type_list_append mt_append (pe_var (pos := p) hN hv hd hcd) (pa_cons he pa_nil hs) hbase hfew hline hs hplain
  refine ps_conv (ps_expr hh hsw) fun D σ H h_0 => ?_
  obtain ⟨O, W, ρ, fl, sr, e, k⟩ := h_0
  unfold sApp at e
  cases c : ρ[i]? with
  | none => rw [c] at e; cases e
  | some c' =>
    cases e1 : f ρ with
    | none => rw [c, e1] at e; cases c' <;> cases e
    | some d =>
      rw [c, e1] at e
      cases c' with
      | emp => cases e
      | ref _ => cases e
      | val d' => cases e
      | own ds =>
        by_cases z : ds.length < big
        · have e' : some (Fl.nx (ρ.set i (.own (ds ++ [d])))) = some fl := by rw [← e]; exact (if_pos z).symm
          cases e'
          obtain ⟨a, xs, f1, hw, ho, ha, r⟩ := sr.rel i _ c
          refine ⟨.ref a, f1, .inl ⟨rfl, xs, .inl (.inl ha)⟩, O, W, ρ, d, sr, e1, fun v H1 s1 r1 => ?_⟩
          have sr1 := sr.mono s1
          have r2 := Reps.append (r.mono (hid_same s1)) (Reps.cons r1 Reps.nil)
          refine ⟨a, xs, v, rfl, rfl, s1 _ _ ha, ?_, ?_⟩
          · rw [← r.length]
            exact Nat.lt_of_lt_of_le z (by rw [sizeLine_eq]; decide)
          · obtain ⟨sr2, fm⟩ := sr1.upd c f1 (s1 _ _ ha) r2
            exact k W σ _ sr2 (Fm.trans (.of_same s1) fm)
        · have e' : (none : Option Fl) = some fl := by rw [← e]; exact (if_neg z).symm
          cases e'
end
noncomputable def Yields (K : PySem.W.Frag) (O W : List Addr) (J : It) (ds : List D) (H1 : Hp) : Prop := ∀ W2 H2, Fm W H1 H2 W2 → (∀ a ∈ O ++ W2, H2 a ≠ none) →
  (∀ (i : Nat) d, ds[i]? = some d → J.go i H2 ∧ ∀ x H3, J.yld i H2 x H3 → Same H2 H3 ∧ Rep K (hid (O ++ W2) H3) d x) ∧ J.stop ds.length H2
noncomputable def tFI (K : PySem.W.Frag) (f : Env → Option (List D)) : TI := fun σ H R => ∃ O W ρ ds, SR K O W ρ σ H ∧ f ρ = some ds ∧ ∀ J H1, Same H H1 → Yields K O W J ds H1 → R J H1
noncomputable abbrev SI (X : Cx) (tg iter : Expr) (f : Env → Option (List D)) : Prop := PI X tg iter (tFI X.K f)
noncomputable def tFG (K : PySem.W.Frag) (g : Env → D → Option Env) : TG := fun v σ H Q => ∃ O W ρ d ρ', SR K O W ρ σ H ∧ Rep K (hid (O ++ W) H) d v ∧ g ρ d = some ρ' ∧ ∀ σ' H', SR K O W ρ' σ' H' → Same H H' → Q σ' H'
noncomputable abbrev SG (X : Cx) (tg : Expr) (g : Env → D → Option Env) : Prop := PG X tg (tFG X.K g)
noncomputable def forF (g : Env → D → Option Env) (body : Env → Option Fl) : List D → Env → Option Fl
  | [], ρ => some (.nx ρ)
  | d :: ds, ρ => match g ρ d with
    | none => none
    | some ρ1 => match body ρ1 with
      | none => none
      | some (.nx ρ2) => forF g body ds ρ2
      | some (.ct ρ2) => forF g body ds ρ2
      | some (.bk ρ2) => some (.nx ρ2)
      | some (.rt d) => some (.rt d)
noncomputable def sFor (f : Env → Option (List D)) (g : Env → D → Option Env) (body : Env → Option Fl) : Env → Option Fl := fun ρ => match f ρ with
  | some ds => forF g body ds ρ
  | none => none
section
variable {X : Cx} {tg iter l : Expr} {f : Env → Option (List D)} {fd : Env → Option D} {pos : Pos}
noncomputable def eItems (f : Env → Option D) : Env → Option (List D) := fun ρ => match f ρ with
  | some (.list ds) => some ds
  | _ => none
noncomputable def eItemsT (f : Env → Option D) : Env → Option (List D) := fun ρ => match f ρ with
  | some (.tuple ds) => some ds
  | _ => none
theorem yields_list {K : PySem.W.Frag} {O W : List Addr} {a : Addr} {xs : List V} {ds : List D} {H1 : Hp} (q : SqL K (hid (O ++ W) H1) a xs) (r : Reps K (hid (O ++ W) H1) ds xs) : Yields K O W (Itl K a) ds H1 := by
  intro W2 H2 fm _
  have s := fm.hid (O := O)
  have q2 : SqL K H2 a xs := Same.sqL (hid_le _ _) (Same.sqL s q)
  refine ⟨fun i d e => ?_, xs, q2, by rw [r.length]; exact Nat.le_refl _⟩
  obtain ⟨v, ev, rv⟩ := r.get e
  refine ⟨⟨xs, v, q2, ev⟩, fun x H3 y => ?_⟩
  obtain ⟨rfl, y⟩ := y
  have := y xs q2
  rw [ev] at this
  cases this
  exact ⟨.refl _, rv.mono s⟩
theorem yields_tup {K : PySem.W.Frag} {O W : List Addr} {a : Addr} {xs : List V} {ds : List D} {H1 : Hp} (q : SqT K (hid (O ++ W) H1) a xs) (r : Reps K (hid (O ++ W) H1) ds xs) : Yields K O W (Itt K a) ds H1 := by
  intro W2 H2 fm _
  have s := fm.hid (O := O)
  have q2 : SqT K H2 a xs := Same.sqT (hid_le _ _) (Same.sqT s q)
  refine ⟨fun i d e => ?_, xs, q2, by rw [r.length]; exact Nat.le_refl _⟩
  obtain ⟨v, ev, rv⟩ := r.get e
  refine ⟨⟨xs, v, q2, ev⟩, fun x H3 y => ?_⟩
  obtain ⟨rfl, y⟩ := y
  have := y xs q2
  rw [ev] at this
  cases this
  exact ⟨.refl _, rv.mono s⟩
noncomputable def rngD (lo : Int) (n : Nat) : List D := (List.range n).map fun (i : Nat) => PyData.int (lo + i)
theorem yields_rng {K : PySem.W.Frag} {O W : List Addr} {lo : Int} {n : Nat} {H1 : Hp} : Yields K O W (Itr lo n) (rngD lo n) H1 := by
  intro W2 H2 fm _
  refine ⟨fun i d e => ?_, ?_⟩
  · unfold rngD at e
    rw [List.getElem?_map] at e
    by_cases hi : i < n
    · rw [List.getElem?_range hi] at e
      cases e
      refine ⟨hi, fun x H3 y => ?_⟩
      obtain ⟨rfl, rfl⟩ := y
      exact ⟨.refl _, rfl⟩
    · rw [List.getElem?_eq_none (by simpa using hi)] at e
      cases e
  · show n ≤ (rngD lo n).length
    unfold rngD
    simp
theorem si_list (h : SE X l fd) : SI X tg l (eItems fd) := fun pins s σ H R I h_0 => by
  obtain ⟨O, W, ρ, ds, sr, e, k⟩ := h_0
  refine pi_list h pins s σ H R I ⟨O, W, ρ, .list ds, sr, ?_, fun v H1 s1 r1 => ?_⟩
  · unfold eItems at e
    cases e1 : fd ρ with
    | none => rw [e1] at e; cases e
    | some d => rw [e1] at e; cases d <;> first | cases e; rfl | cases e
  · obtain ⟨a, xs, rfl, q, r⟩ := r1
    exact ⟨a, rfl, ⟨xs, Same.sqL (hid_le _ _) q⟩, k _ H1 s1 (yields_list q r)⟩
theorem si_tup (h : SE X l fd) : SI X tg l (eItemsT fd) := fun pins s σ H R I h_0 => by
  obtain ⟨O, W, ρ, ds, sr, e, k⟩ := h_0
  refine pi_tup h pins s σ H R I ⟨O, W, ρ, .tuple ds, sr, ?_, fun v H1 s1 r1 => ?_⟩
  · unfold eItemsT at e
    cases e1 : fd ρ with
    | none => rw [e1] at e; cases e
    | some d => rw [e1] at e; cases d <;> first | cases e; rfl | cases e
  · obtain ⟨a, xs, rfl, q, r⟩ := r1
    exact ⟨a, rfl, ⟨xs, Same.sqT (hid_le _ _) q⟩, k _ H1 s1 (yields_tup q r)⟩
noncomputable def smallI (i : Int) : Bool := decide (-1000000 ≤ i) && decide (i ≤ 1000000)
theorem smallI_ok {i : Int} (h : smallI i = true) : -(2 ^ 62) ≤ i ∧ i < 2 ^ 62 := by
  unfold smallI at h
  simp at h
  omega
noncomputable def eRng1 (f : Env → Option D) : Env → Option (List D) := fun ρ => match f ρ with
  | some (.int j) => if smallI j = true then some (rngD 0 j.toNat) else none
  | _ => none
noncomputable def eRng2 (f f' : Env → Option D) : Env → Option (List D) := fun ρ => match f ρ, f' ρ with
  | some (.int i), some (.int j) => if (smallI i && smallI j) = true then some (rngD i (j - i).toNat) else none
  | _, _ => none
theorem eRng1_some {f : Env → Option D} {ρ : Env} {ds : List D} (h : eRng1 f ρ = some ds) : ∃ j, f ρ = some (.int j) ∧ smallI j = true ∧ ds = rngD 0 j.toNat := by
  unfold eRng1 at h
  cases e : f ρ with
  | none => rw [e] at h; cases h
  | some d =>
    rw [e] at h
    cases d with
    | int j =>
      by_cases z : smallI j = true
      · have : some (rngD 0 j.toNat) = some ds := by rw [← h]; exact (if_pos z).symm
        exact ⟨j, rfl, z, (Option.some.inj this).symm⟩
      · have : none = some ds := by rw [← h]; exact (if_neg z).symm
        cases this
    | _ => cases h
theorem eRng2_some {f f' : Env → Option D} {ρ : Env} {ds : List D} (h : eRng2 f f' ρ = some ds) : ∃ i j, f ρ = some (.int i) ∧ f' ρ = some (.int j) ∧ smallI i = true ∧ smallI j = true ∧ ds = rngD i (j - i).toNat := by
  unfold eRng2 at h
  cases e : f ρ with
  | none => rw [e] at h; cases h
  | some d =>
    cases e' : f' ρ with
    | none => rw [e, e'] at h; cases d <;> cases h
    | some d' =>
      rw [e, e'] at h
      cases d with
      | int i =>
        cases d' with
        | int j =>
          by_cases z : (smallI i && smallI j) = true
          · have : some (rngD i (j - i).toNat) = some ds := by rw [← h]; exact (if_pos z).symm
            have z' := Bool.and_eq_true_iff.mp z
            exact ⟨i, j, rfl, rfl, z'.1, z'.2, (Option.some.inj this).symm⟩
          · have : none = some ds := by rw [← h]; exact (if_neg z).symm
            cases this
        | _ => cases h
      | _ => cases d' <;> cases h
theorem si_range1 {a : Expr} {p : Pos} {fa : Env → Option D} (hg : Gl X "range") (hm : X.mg "range" = none) (ha : SE X a fa) (hs : starEach [a] X.env = [(false, eval a X.env)] := by rfl) : SI X tg (.Call (.Name "range" p) [a] [] pos) (eRng1 fa) :=
  fun pins s σ H R I h_0 => by
  obtain ⟨O, W, ρ, ds, sr, e, k⟩ := h_0
  obtain ⟨j, e1, sm, rfl⟩ := eRng1_some e
  have b := smallI_ok sm
  refine pi_range1 hg hm (pa_cons ha pa_nil hs) hs pins s σ H R I ⟨O, W, ρ, .int j, sr, e1, fun v H1 s1 r1 => ?_⟩
  have r1' : v = .int j := r1
  subst r1'
  exact ⟨j, rfl, b.1, b.2, k _ H1 s1 yields_rng⟩
theorem si_range2 {a b : Expr} {p : Pos} {fa fb : Env → Option D} (hg : Gl X "range") (hm : X.mg "range" = none) (ha : SE X a fa) (hb : SE X b fb) (hs : starEach [a, b] X.env = [(false, eval a X.env), (false, eval b X.env)] := by rfl) (hs2 : starEach [b] X.env = [(false, eval b X.env)] := by rfl) :
    SI X tg (.Call (.Name "range" p) [a, b] [] pos) (eRng2 fa fb) := fun pins s σ H R I h_0 => by
  obtain ⟨O, W, ρ, ds, sr, e, k⟩ := h_0
  obtain ⟨i, j, e1, e2, sm1, sm2, rfl⟩ := eRng2_some e
  have b1 := smallI_ok sm1
  have b2 := smallI_ok sm2
  refine pi_range2 hg hm (pa_cons ha (pa_cons hb pa_nil hs2) (by rw [hs, hs2])) hs hs2 pins s σ H R I ⟨O, W, ρ, .int i, sr, e1, fun v H1 s1 r1 => ⟨O, W, ρ, .int j, sr.mono s1, e2, fun u H2 s2 r2 => ?_⟩⟩
  have r1' : v = .int i := r1
  have r2' : u = .int j := r2
  subst r1' r2'
  exact ⟨i, j, rfl, ⟨b1.1, b1.2, b2.1, b2.2⟩, k _ H2 (s1.trans s2) yields_rng⟩
noncomputable def gVar (i : Nat) : Env → D → Option Env := fun ρ d => some (ρ.set i (.val d))
noncomputable def gVars : List Nat → Env → List D → Option Env
  | [], ρ, [] => some ρ
  | i :: is, ρ, d :: ds => gVars is (ρ.set i (.val d)) ds
  | _, _, _ => none
noncomputable def gTupF (is : List Nat) : Env → D → Option Env := fun ρ d => match d with
  | .tuple ds => gVars is ρ ds
  | _ => none
theorem sg_name {i : Nat} {x : Str} (hN : X.N.Nodup) (hi : X.N[i]? = some x) (hx : Loc X.env.scope x) (hf : X.fn x = true ∨ X.env.scope.names.lookup x = some .local := by first | exact .inl rfl | exact .inr rfl | assumption) : SG X (.Name x pos) (gVar i) :=
  fun pins s σ H v u Q I r h_0 => by
  obtain ⟨O, W, ρ, d, ρ', sr, rd, e, k⟩ := h_0
  cases e
  exact pg_name hN hi hx hf pins s σ H v u Q I r (k _ H (sr.put rd) (.refl H))
noncomputable def tFGs (K : PySem.W.Frag) (is : List Nat) : TGs := fun vs σ H Q => ∃ O W ρ ds ρ', SR K O W ρ σ H ∧ Reps K (hid (O ++ W) H) ds vs ∧ gVars is ρ ds = some ρ' ∧ ∀ σ', SR K O W ρ' σ' H → Q σ' H
theorem sgs_nil : PGs X [] (tFGs X.K []) := fun pins s σ H vs us Q I r h_0 => by
  obtain ⟨O, W, ρ, ds, ρ', sr, rd, e, k⟩ := h_0
  cases ds with
  | nil =>
    cases rd
    cases e
    exact pgs_nil pins s σ H [] us Q I r ⟨rfl, k σ sr⟩
  | cons d ds => cases e
theorem sgs_cons {i : Nat} {is : List Nat} {x : Str} {p : Pos} {es : List Expr} (hN : X.N.Nodup) (hi : X.N[i]? = some x) (hx : Loc X.env.scope x) (h2 : PGs X es (tFGs X.K is)) (hf : X.fn x = true ∨ X.env.scope.names.lookup x = some .local := by first | exact .inl rfl | exact .inr rfl | assumption)
    (hs : (assignEach (.Name x p :: es) X.env).map (·.2) = assign (.Name x p) X.env :: (assignEach es X.env).map (·.2) := by rfl) : PGs X (.Name x p :: es) (tFGs X.K (i :: is)) := fun pins s σ H vs us Q I r h_0 => by
  obtain ⟨O, W, ρ, ds, ρ', sr, rd, e, k⟩ := h_0
  cases ds with
  | nil => cases e
  | cons d ds =>
    obtain ⟨v, vr, rfl, r1, r2⟩ := rd
    exact pgs_cons (pg_name hN hi hx hf) h2 hs pins s σ H _ us Q I r ⟨v, vr, rfl, O, W, ρ.set i (.val d), ds, ρ', sr.put r1, r2, e, k⟩
theorem gVars_len : ∀ {is : List Nat} {ρ ρ' : Env} {ds : List D}, gVars is ρ ds = some ρ' → ds.length = is.length
  | [], _, _, [], _ => rfl
  | [], _, _, _ :: _, h => by cases h
  | _ :: _, _, _, [], h => by cases h
  | i :: is, ρ, ρ', d :: ds, h => by
    have := gVars_len (is := is) (ρ := ρ.set i (.val d)) (ds := ds) h
    simp [this]
theorem sg_tup {es : List Expr} {k : Nat} {is : List Nat} (hc : X.calm = true) (h : PGs X es (tFGs X.K is)) (hn : (assignEach es X.env).length = is.length := by rfl) (hst : (assignEach es X.env).findIdx? (·.1) = none := by rfl) : SG X (.Tuple es k pos) (gTupF is) :=
  fun pins s σ H v u Q I r h_0 => by
  obtain ⟨O, W, ρ, d, ρ', sr, rd, e, kk⟩ := h_0
  cases d with
  | tuple ds =>
    obtain ⟨a, xs, rfl, q, rr⟩ := rd
    refine pg_tup hc h hn hst pins s σ H _ u Q I r ⟨a, xs, rfl, Same.sqT (hid_le _ _) q, ?_, O, W, ρ, ds, ρ', sr, rr, e, fun σ' sr' => kk σ' H sr' (.refl H)⟩
    rw [← rr.length]
    exact gVars_len e
  | _ => cases e
theorem ss_for {body : List Stmt} {g : Env → D → Option Env} {b : Env → Option Fl} (hp : PassesOwn (model X.prog X.w) X.A X.env X.xe) (hc : X.calm = true) (hi : SI X tg iter f) (hg : SG X tg g) (hb : SSs X body b)
    (hs : ∀ x, foldedSetIterable iter X.env x = pure x := by intro _; rfl) : SS X (.For tg iter body [] pos) (sFor f g b) := ps_conv (ps_for hp hc hi hg hb hs) fun D σ H h_0 => by
  obtain ⟨O, W, ρ, fl, sr, e, k⟩ := h_0
  unfold sFor at e
  cases e1 : f ρ with
  | none => rw [e1] at e; cases e
  | some ds =>
    rw [e1] at e
    refine ⟨O, W, ρ, ds, sr, e1, fun J H1 s1 y => ?_⟩
    have k1 : Post X.K O W H1 D fl := k.fm (.of_same s1)
    refine ⟨fun i m σ' H' => i ≤ ds.length ∧ m = ds.length - i ∧ ∃ W' ρ', SR X.K O W' ρ' σ' H' ∧ Fm W H1 H' W' ∧ forF g b (ds.drop i) ρ' = some fl, ⟨ds.length, Nat.zero_le _, rfl, W, ρ, sr.mono s1, .refl W H1, e⟩, ?_⟩
    rintro i m σ2 H2 ⟨hi, rfl, W2, ρ2, sr2, fm2, e2⟩
    obtain ⟨yi, ys⟩ := y W2 H2 fm2 sr2.live
    by_cases hlt : i < ds.length
    · have ed : ds.drop i = ds[i] :: ds.drop (i + 1) := List.drop_eq_getElem_cons hlt
      obtain ⟨go, yld⟩ := yi i ds[i] (by simp [hlt])
      rw [ed] at e2
      refine .inr ⟨go, fun σ3 H3 => ∃ W' ρ', SR X.K O W' ρ' σ3 H3 ∧ Fm W H1 H3 W' ∧ forF g b (ds.drop (i + 1)) ρ' = some fl, fun σ3 H3 ⟨W', ρ', a1, a2, a3⟩ => ⟨ds.length - (i + 1), by omega, hlt, rfl, W', ρ', a1, a2, a3⟩, fun x H3 y3 => ?_⟩
      obtain ⟨s3, r3⟩ := yld x H3 y3
      unfold forF at e2
      cases eg : g ρ2 ds[i] with
      | none => rw [eg] at e2; cases e2
      | some ρ3 =>
        rw [eg] at e2
        refine ⟨O, W2, ρ2, ds[i], ρ3, sr2.mono s3, r3, eg, fun σ4 H4 sr4 s4 => ?_⟩
        have fm4 : Fm W H1 H4 W2 := fm2.trans (.of_same (s3.trans s4))
        cases eb : b ρ3 with
        | none => simp [eb] at e2
        | some fl3 =>
          simp only [eb] at e2
          refine ⟨O, W2, ρ3, fl3, sr4, eb, ?_⟩
          cases fl3 with
          | nx ρ5 => exact fun W' σ' H' sr' fm => ⟨W', ρ5, sr', fm4.trans fm, e2⟩
          | ct ρ5 => exact fun W' σ' H' sr' fm => ⟨W', ρ5, sr', fm4.trans fm, e2⟩
          | bk ρ5 =>
            cases e2
            exact fun W' σ' H' sr' fm => k1 W' σ' H' sr' (fm4.trans fm)
          | rt d =>
            cases e2
            exact fun W' v H' r fm => k1 W' v H' r (fm4.trans fm)
    · have ei : i = ds.length := by omega
      subst ei
      rw [List.drop_length] at e2
      cases e2
      exact .inl ⟨ys, k1 W2 σ2 H2 sr2 fm2⟩
end
noncomputable def runF (n N : Nat) (body : Env → Option Fl) : List D → Option D := fun ds => if ds.length = n then
    (match body (ds.map Cel.val ++ List.replicate (N - n) Cel.emp) with
    | some (.rt d) => some d
    | some (.nx _) => some .none
    | _ => none)
  else none
theorem start_sr {K : PySem.W.Frag} {O : List Addr} {H : Hp} {N : List Str} {vs : List V} {ds : List D} (lv : ∀ a ∈ O, H a ≠ none) (r : Reps K (hid O H) ds vs) : SR K O [] (ds.map Cel.val ++ List.replicate (N.length - ds.length) Cel.emp) (L2.start N vs) H := by
  have hl := r.length
  refine ⟨?_, fun i c e => ?_, fun i j es fs a n e1 => ?_, fun a ha => lv a (by simpa using ha)⟩
  · unfold L2.start
    simp [hl]
  · by_cases hi : i < ds.length
    · rw [List.getElem?_append_left (by simpa using hi), List.getElem?_map] at e
      cases q : ds[i]? with
      | none => rw [q] at e; cases e
      | some d =>
        rw [q] at e
        cases e
        obtain ⟨v, ev, rv⟩ := r.get q
        refine ⟨v, ?_, by rw [List.append_nil]; exact rv⟩
        unfold L2.start
        rw [List.getElem?_append_left (by simp; omega), List.getElem?_map, ev]
        rfl
    · rw [List.getElem?_append_right (by simpa using hi), List.getElem?_replicate] at e
      split at e
      · cases e; trivial
      · cases e
  · exfalso
    by_cases hi : i < ds.length
    · rw [List.getElem?_append_left (by simpa using hi), List.getElem?_map] at e1
      cases q : ds[i]? with
      | none => rw [q] at e1; cases e1
      | some d => rw [q] at e1; cases e1
    · rw [List.getElem?_append_right (by simpa using hi), List.getElem?_replicate] at e1
      split at e1 <;> cases e1
theorem fn_def {P : Program} {w : World} {K : PySem.W.Frag} {mg : Str → Option Value} {base : Heap} {x qual : Str} {st : Stmt} {f : Addr} {fd : FuncData} {N ps : List Str} {k : Nat} {b : Env → Option Fl} (F : Fun K x qual st f fd) (S : FnScope N ps (defScope st))
    (hbody : ∀ (cdv : Value) (A : Around) (outer : List PySem.Env) (s : Shared) (H : Hp) (E : XK), Room k (A.deeper (envOfC qual (defScope st) s.heap.objs.size f cdv)) → SSs (cxOf CX0 P w K mg base N qual (defScope st) f cdv A outer s H E).nox (defBody st) b) :
    FnOk P w K mg base CX0 (k + 1) f fd ps (spF K (runF ps.length N.length b)) := by
  refine F.ok S (fun vs H Q E h => ?_) (fun cdv A outer s H vs Q E hr h => ⟨_, hbody cdv A outer s H E hr, ?_⟩)
  · obtain ⟨O, ds, d, _, r, e, _⟩ := h
    unfold runF at e
    by_cases z : ds.length = ps.length
    · rw [← r.length]; exact z
    · rw [if_neg z] at e; cases e
  · obtain ⟨O, ds, d, lv, r, e, kk⟩ := h
    unfold runF at e
    by_cases z : ds.length = ps.length
    · rw [if_pos z] at e
      rw [← z] at e
      cases eb : b (ds.map Cel.val ++ List.replicate (N.length - ds.length) Cel.emp) with
      | none => rw [eb] at e; cases e
      | some fl =>
        rw [eb] at e
        refine ⟨O, [], _, fl, start_sr lv r, eb, ?_⟩
        cases fl with
        | nx ρ =>
          cases e
          exact fun W' σ' H' sr' fm => kk .non H' fm.same rfl
        | rt d' =>
          cases e
          exact fun W' v H' rv fm => kk v H' fm.same (rv.mono (hid_less fun a ha => List.mem_append_left _ ha))
        | bk ρ => cases e
        | ct ρ => cases e
    · rw [if_neg z] at e; cases e
end Fn
set_option Elab.async false
set_option linter.all false
set_option maxRecDepth 100000
namespace Fn
open PySem L2 PySem.Spec PyProof.Rows
noncomputable def clOf (env : PySem.Env) : List (Str × NameKind) → List (Str × Addr) → List (Str × Addr)
  | [], acc => acc
  | (n, k) :: r, acc => clOf env r (if k == .free then (match env.cells.lookup n with | some c => (n, c) :: acc | none => acc) else acc)
theorem closureFor_of {scope : Scope} {env : PySem.Env} (h : ∀ x ∈ scope.names, x.2 = .free → ∃ c, env.cells.lookup x.1 = some c) : closureFor scope env = pure (clOf env scope.names []) := by
  unfold closureFor
  have key : ∀ (names : List (Str × NameKind)) (acc : List (Str × Addr)), (∀ x ∈ names, x.2 = .free → ∃ c, env.cells.lookup x.1 = some c) →
      (forIn names acc fun (x : Str × NameKind) (r : List (Str × Addr)) => (match x with | (name, kind) => if (kind == .free) = true then (do let c ← cellOf env name; pure (ForInStep.yield ((name, c) :: r))) else pure (ForInStep.yield r) : Sem (ForInStep (List (Str × Addr))))) = (pure (clOf env names acc) : Sem (List (Str × Addr))) := by
    intro names
    induction names with
    | nil => intro acc _; rfl
    | cons x names ih =>
      intro acc hx
      obtain ⟨n, k⟩ := x
      rw [List.forIn_cons]
      cases hk : k == NameKind.free with
      | false =>
        have e : clOf env ((n, k) :: names) acc = clOf env names acc := by
          show clOf env names (if k == .free then _ else acc) = _
          rw [hk]; rfl
        rw [e, ← ih acc fun y hy => hx y (List.mem_cons_of_mem _ hy)]
        simp only [hk]
        rfl
      | true =>
        have hk' : k = .free := by simpa using hk
        obtain ⟨c, hc⟩ := hx (n, k) List.mem_cons_self hk'
        have hc' : env.cells.lookup n = some c := hc
        have e : clOf env ((n, k) :: names) acc = clOf env names ((n, c) :: acc) := by
          show clOf env names (if k == .free then _ else acc) = _
          rw [hk, hc']; rfl
        rw [e, ← ih ((n, c) :: acc) fun y hy => hx y (List.mem_cons_of_mem _ hy)]
        simp only [hk]
        have e2 : cellOf env n = pure c := by unfold cellOf; rw [hc']
        rw [e2]
        rfl
  first
    | exact key scope.names [] h
    | (have := key scope.names [] h; simpa using this)
theorem mem_clOf {env : PySem.Env} : ∀ {names : List (Str × NameKind)} {acc : List (Str × Addr)} {x : Str} {c : Addr}, (x, c) ∈ clOf env names acc → (x, c) ∈ acc ∨ env.cells.lookup x = some c
  | [], _, _, _, h => .inl h
  | (n, k) :: r, acc, x, c, h => by
    rcases mem_clOf (names := r) h with q | q
    · cases hk : k == NameKind.free with
      | false => rw [hk] at q; exact .inl q
      | true =>
        rw [hk] at q
        cases hc : env.cells.lookup n with
        | none => rw [hc] at q; exact .inl q
        | some d =>
          rw [hc] at q
          rcases List.mem_cons.mp q with z | z
          · cases z; exact .inr hc
          · exact .inl z
    · exact .inr q
theorem clOf_acc {env : PySem.Env} : ∀ {names : List (Str × NameKind)} {acc : List (Str × Addr)} {p : Str × Addr}, p ∈ acc → p ∈ clOf env names acc
  | [], _, _, h => h
  | (n, k) :: r, acc, p, h => by
    refine clOf_acc (names := r) ?_
    cases hk : k == NameKind.free with
    | false => exact h
    | true =>
      cases hc : env.cells.lookup n with
      | none => exact h
      | some d => exact List.mem_cons_of_mem _ h
theorem clOf_has {env : PySem.Env} : ∀ {names : List (Str × NameKind)} {acc : List (Str × Addr)} {x : Str} {c : Addr}, (x, NameKind.free) ∈ names → env.cells.lookup x = some c → (x, c) ∈ clOf env names acc
  | [], _, _, _, h, _ => by cases h
  | (n, k) :: r, acc, x, c, h, hc => by
    rcases List.mem_cons.mp h with z | z
    · cases z
      refine clOf_acc (names := r) ?_
      rw [show (NameKind.free == NameKind.free) = true by rfl, hc]
      exact List.mem_cons_self
    · exact clOf_has (names := r) z hc
theorem lookup_of_mem {l : List (Str × Addr)} {x : Str} {c : Addr} (h : (x, c) ∈ l) (u : ∀ c', (x, c') ∈ l → c' = c) : l.lookup x = some c := by
  induction l with
  | nil => cases h
  | cons p l ih =>
    obtain ⟨y, d⟩ := p
    rw [List.lookup_cons]
    cases q : x == y with
    | true =>
      have : x = y := by simpa using q
      subst this
      rw [u d List.mem_cons_self]
    | false =>
      rcases List.mem_cons.mp h with z | z
      · cases z; simp at q
      · exact ih z fun c' hc' => u c' (List.mem_cons_of_mem _ hc')
theorem clOf_lookup {env : PySem.Env} {names : List (Str × NameKind)} {x : Str} {c : Addr} (h : (x, NameKind.free) ∈ names) (hc : env.cells.lookup x = some c) : (clOf env names []).lookup x = some c := by
  refine lookup_of_mem (clOf_has h hc) fun c' hc' => ?_
  rcases mem_clOf hc' with q | q
  · cases q
  · rw [hc] at q; cases q; rfl
theorem clOf_some {env : PySem.Env} {names : List (Str × NameKind)} {x : Str} {c : Addr} (h : (clOf env names []).lookup x = some c) : env.cells.lookup x = some c := by
  rcases mem_clOf (PySem.mem_of_lookup h) with q | q
  · cases q
  · exact q
theorem relabel_inv {env : PySem.Env} : ∀ {names : List (Str × NameKind)} {x : Str} {k : NameKind},
    (names.map fun (n, k) => if (k == NameKind.free && env.scope.kind == .function && env.kindOf n == some .cell) then (n, NameKind.cell) else (n, k)).lookup x = some k → (k = .cell ∨ k = .free) → (x, NameKind.free) ∈ names ∨ (x, NameKind.cell) ∈ names
  | [], _, _, h, _ => by simp at h
  | (n, k) :: r, x, k', h, hk => by
    have h' : List.lookup x ((if (k == NameKind.free && env.scope.kind == .function && env.kindOf n == some .cell) = true then (n, NameKind.cell) else (n, k)) :: (r.map fun (n, k) => if (k == NameKind.free && env.scope.kind == .function && env.kindOf n == some .cell) then (n, NameKind.cell) else (n, k))) = some k' := h
    by_cases hc : (k == NameKind.free && env.scope.kind == .function && env.kindOf n == some .cell) = true
    · rw [if_pos hc, List.lookup_cons] at h'
      cases q : x == n with
      | true =>
        have : x = n := by simpa using q
        subst this
        have hf : k = .free := by
          have := (Bool.and_eq_true_iff.mp (Bool.and_eq_true_iff.mp hc).1).1
          simpa using this
        subst hf
        exact .inl List.mem_cons_self
      | false =>
        rw [q] at h'
        exact (relabel_inv (names := r) h' hk).imp (List.mem_cons_of_mem _) (List.mem_cons_of_mem _)
    · rw [if_neg hc, List.lookup_cons] at h'
      cases q : x == n with
      | true =>
        have : x = n := by simpa using q
        subst this
        rw [q] at h'
        cases h'
        rcases hk with rfl | rfl
        · exact .inr List.mem_cons_self
        · exact .inl List.mem_cons_self
      | false =>
        rw [q] at h'
        exact (relabel_inv (names := r) h' hk).imp (List.mem_cons_of_mem _) (List.mem_cons_of_mem _)
theorem relabel_free {env : PySem.Env} : ∀ {names : List (Str × NameKind)} {x : Str}, names.lookup x = some .free →
    (names.map fun (n, k) => if (k == NameKind.free && env.scope.kind == .function && env.kindOf n == some .cell) then (n, NameKind.cell) else (n, k)).lookup x = some .cell ∨
    (names.map fun (n, k) => if (k == NameKind.free && env.scope.kind == .function && env.kindOf n == some .cell) then (n, NameKind.cell) else (n, k)).lookup x = some .free
  | [], _, h => by simp at h
  | (n, k) :: r, x, h => by
    show List.lookup x ((if (k == NameKind.free && env.scope.kind == .function && env.kindOf n == some .cell) = true then (n, NameKind.cell) else (n, k)) :: _) = _ ∨ List.lookup x ((if (k == NameKind.free && env.scope.kind == .function && env.kindOf n == some .cell) = true then (n, NameKind.cell) else (n, k)) :: _) = _
    rw [List.lookup_cons] at h
    cases q : x == n with
    | true =>
      rw [q] at h
      cases h
      by_cases hc : (NameKind.free == NameKind.free && env.scope.kind == .function && env.kindOf n == some .cell) = true
      · rw [if_pos hc, List.lookup_cons, q]; exact .inl rfl
      · rw [if_neg hc, List.lookup_cons, q]; exact .inr rfl
    | false =>
      rw [q] at h
      have ih := relabel_free (env := env) (names := r) h
      by_cases hc : (k == NameKind.free && env.scope.kind == .function && env.kindOf n == some .cell) = true
      · rw [if_pos hc, List.lookup_cons, q]; exact ih
      · rw [if_neg hc, List.lookup_cons, q]; exact ih
noncomputable abbrev cxComp (X : Cx) (Nc : List Str) (scope : Scope) (cl : List (Str × Addr)) (C : Addr) (s₀ : Shared) (H₀ : Hp) (ex : List Addr) : Cx :=
  { X with N := Nc, s₀ := s₀, H₀ := H₀, env := compEnvC scope cl C X.env, outer := X.stack, ex := ex, fn := fun _ => false, pn := [], xe := fun _ _ => False }
structure CompOk (X : Cx) (scope : Scope) (Nc : List Str) (cap : List (Option Nat)) : Prop where
  kind : scope.kind = .function
  nocell : ∀ y ∈ scope.names, y.2 ≠ .cell
  loc : ∀ y ∈ scope.names, y.2 = .local → scope.names.lookup y.1 = some .local
  free : ∀ y ∈ scope.names, y.2 = .free → X.env.kindOf y.1 = some .cell ∨ X.env.kindOf y.1 = some .free
  len : cap.length = Nc.length
  at_ : ∀ (i j : Nat) (x : Str), cap[i]? = some (some j) → Nc[i]? = some x → X.N[j]? = some x ∧ scope.names.lookup x = some .free
noncomputable def selF (cap : List (Option Nat)) (ρ : Env) : Env := cap.map fun
  | none => .emp
  | some j => match ρ[j]? with
    | some (.val d) => .val d
    | _ => .emp
noncomputable def selV (cap : List (Option Nat)) (σ : L2.St) : L2.St := cap.map fun
  | none => none
  | some j => match σ[j]? with
    | some v => v
    | none => none
theorem sel_sr {K : PySem.W.Frag} {O W : List Addr} {ρ : Env} {σ : L2.St} {H : Hp} (cap : List (Option Nat)) (sr : SR K O W ρ σ H) : SR K (O ++ W) [] (selF cap ρ) (selV cap σ) H := by
  refine ⟨by simp [selF, selV], fun i c e => ?_, fun i j ds es a n e1 => ?_, fun a ha => sr.live a (by simpa using ha)⟩
  · unfold selF at e
    rw [List.getElem?_map] at e
    cases q : cap[i]? with
    | none => rw [q] at e; cases e
    | some o =>
      rw [q] at e
      cases o with
      | none => cases e; trivial
      | some j =>
        cases z : ρ[j]? with
        | none => simp [z] at e; subst e; trivial
        | some c' =>
          cases c' with
          | emp => simp [z] at e; subst e; trivial
          | ref _ => simp [z] at e; subst e; trivial
          | own ds => simp [z] at e; subst e; trivial
          | val d =>
            simp [z] at e
            subst e
            obtain ⟨v, e1, r⟩ := sr.rel j _ z
            refine ⟨v, ?_, by rw [List.append_nil]; exact r⟩
            unfold selV
            rw [List.getElem?_map, q]
            simp [e1]
  · exfalso
    unfold selF at e1
    rw [List.getElem?_map] at e1
    cases q : cap[i]? with
    | none => rw [q] at e1; cases e1
    | some o =>
      rw [q] at e1
      cases o with
      | none => cases e1
      | some j =>
        cases z : ρ[j]? with
        | none => simp [z] at e1
        | some c' => cases c' <;> simp [z] at e1
inductive Tests (X : Cx) : List Expr → (Env → Option Bool) → Prop
  | nil : Tests X [] (fun _ => some true)
  | one {c : Expr} {t : Env → Option Bool} : ST X c t → Tests X [c] t
noncomputable def compF (g : Env → D → Option Env) (t : Env → Option Bool) (fe : Env → Option D) (ρ : Env) : List D → Option (List D)
  | [] => some []
  | d :: ds => match g ρ d with
    | none => none
    | some ρ1 => match t ρ1 with
      | none => none
      | some false => compF g t fe ρ ds
      | some true => match fe ρ1 with
        | none => none
        | some y => match compF g t fe ρ ds with
          | none => none
          | some r => some (y :: r)
section
variable {prog : Program} {w : World} {A : Around} {R : Result → Shared → Prop} {s : Shared}
theorem comp_loop {elt target iter : Expr} {ifs : List Expr} {scope : Scope} {pos : Pos} {it acc : Value} {env : PySem.Env} (I : Nat → Shared → Prop)
    (turn : ∀ n s, I n s → wpAny (model prog w) A (pyNext it) (fun r s₁ => match r with
      | none => R (.ok .next) s₁
      | some v => wpAny (model prog w) A (letOwnedTupleGo target it v) (fun _ s₁' => wpAny (model prog w) A (assign target env v) (fun _ s₂ =>
          wpAny (model prog w) A (forIn ifs true fun c r => if r = true then do let ok ← isTrue c env (eval c env); pure (ForInStep.yield ok) else pure (ForInStep.yield r)) (fun ok s₃ =>
            if ok = true then wpAny (model prog w) A (eval elt env) (fun x s₄ =>
              wpAny (model prog w) A (call (.builtin "list.append") [acc, x]) (fun _ s₅ => ∃ m, m < n ∧ I m s₅) (fun _ _ => False) s₄) (fun _ _ => False) s₃
            else ∃ m, m < n ∧ I m s₃) (fun _ _ => False) s₂) (fun _ _ => False) s₁') (fun _ _ => False) s₁) (fun _ _ => False) s)
    (n : Nat) (h : I n s) :
    codeAny (model prog w) A (.compLoop (.ListComp elt [⟨target, iter, ifs, 0⟩] scope pos) 0 it acc env) R s := by
  refine codeAny_loop rfl I (fun n s hI => ?_) n h
  show wpAny _ A ((compTurn (.ListComp elt [⟨target, iter, ifs, 0⟩] scope pos) 0 it acc env).onRaise (fun x => do noteFrame x env; theTreesLotGoes x)) _ _ s
  refine wpAny_noted ?_
  rw [compTurn_list]
  have no : ∀ {E' : Value → Shared → Prop} (e : Value) (s : Shared), False → E' e s := fun _ _ z => z.elim
  refine wpAny_bind (wpAny_standAt (wpAny_bind (wpAny_mono (turn n s hI) (fun r s₁ h₁ => ?_) no)))
  cases r with
  | none => exact wpAny_pure h₁
  | some v =>
    refine wpAny_bind (wpAny_mono h₁ (fun _ s₁' h₁' => ?_) no)
    refine wpAny_bind (wpAny_mono h₁' (fun _ s₂ h₂ => wpAny_bind (wpAny_mono h₂ (fun ok s₃ h₃ => ?_) no)) no)
    cases ok with
    | false => exact wpAny_pure ⟨rfl, h₃⟩
    | true =>
      exact wpAny_bind (wpAny_bind (wpAny_mono h₃ (fun x s₄ h₄ => wpAny_bind (wpAny_mono h₄ (fun _ s₅ h₅ => wpAny_pure (wpAny_pure ⟨rfl, h₅⟩)) no)) no))
end
theorem SR.weak {K : PySem.W.Frag} {O W : List Addr} {ρ ρ0 : Env} {σ : L2.St} {H : Hp} (sr : SR K O W ρ σ H) (hl : ρ0.length = ρ.length) (h : ∀ (i : Nat) c, ρ0[i]? = some c → c = .emp ∨ ρ[i]? = some c) : SR K O W ρ0 σ H :=
  ⟨sr.len.trans hl.symm, fun i c e => by
    rcases h i c e with rfl | e'
    · trivial
    · exact sr.rel i c e', fun i j ds es a n e1 e2 f1 f2 => by
    rcases h i _ e1 with z | e1'
    · cases z
    · rcases h j _ e2 with z | e2'
      · cases z
      · exact sr.apart i j ds es a n e1' e2' f1 f2, sr.live⟩
theorem SR.hide {K : PySem.W.Frag} {O1 O2 : List Addr} {ρ : Env} {σ : L2.St} {H H' : Hp} {L : Addr} (sr : SR K O1 [] ρ σ H) (nl : H L = none) (sm : Same H H') (hl : H' L ≠ none) (h1 : ∀ a ∈ O2, a ∈ O1 ∨ a = L) (h2 : ∀ a ∈ O1, a ∈ O2) : SR K O2 [] ρ σ H' := by
  have up : Same (hid (O1 ++ []) H) (hid (O2 ++ []) H') := fun b o e => by
    obtain ⟨z, e⟩ := hid_some e
    rw [List.append_nil] at z
    rw [hid_out]
    · exact sm b o e
    · rw [List.append_nil]
      intro q
      rcases h1 b q with p | p
      · exact z p
      · rw [p, nl] at e; cases e
  refine ⟨sr.len, fun i c e => ?_, fun i j ds es a n e1 e2 f1 f2 => sr.apart i j ds es a n e1 e2 f1 f2, fun a ha => ?_⟩
  · have q := sr.rel i c e
    cases c with
    | emp => trivial
    | ref _ => exact q
    | val d => obtain ⟨v, e1, r⟩ := q; exact ⟨v, e1, r.mono up⟩
    | own ds => obtain ⟨a, xs, _, w, _⟩ := q; cases w
  · rw [List.append_nil] at ha
    rcases h1 a ha with p | p
    · exact Same.live sm (sr.live a (by simpa using p))
    · rw [p]; exact hl
noncomputable def Tame (cap : List (Option Nat)) (g : Env → D → Option Env) : Prop := ∀ ρ d ρ1, g (selF cap ρ) d = some ρ1 → (selF cap ρ).length = ρ1.length ∧ ∀ (i : Nat) c, (selF cap ρ)[i]? = some c → c = .emp ∨ ρ1[i]? = some c
theorem tame_var {cap : List (Option Nat)} {j : Nat} (h : cap[j]? = some none) : Tame cap (gVar j) := fun ρ d ρ1 e => by
  cases e
  refine ⟨by simp, fun i c ei => ?_⟩
  by_cases z : j = i
  · subst z
    left
    unfold selF at ei
    rw [List.getElem?_map, h] at ei
    cases ei
    rfl
  · right
    rw [List.getElem?_set_ne z]
    exact ei
theorem gVars_tame {ρ0 : Env} : ∀ {is : List Nat} {ρ ρ1 : Env} {ds : List D}, (∀ j ∈ is, ρ0[j]? = some .emp) → ρ0.length = ρ.length → (∀ (i : Nat) c, ρ0[i]? = some c → c = .emp ∨ ρ[i]? = some c) → gVars is ρ ds = some ρ1 →
    ρ0.length = ρ1.length ∧ ∀ (i : Nat) c, ρ0[i]? = some c → c = .emp ∨ ρ1[i]? = some c
  | [], ρ, ρ1, [], _, hl, h, e => by cases e; exact ⟨hl, h⟩
  | [], _, _, _ :: _, _, _, _, e => by cases e
  | _ :: _, _, _, [], _, _, _, e => by cases e
  | j :: is, ρ, ρ1, d :: ds, hj, hl, h, e => by
    refine gVars_tame (is := is) (ρ := ρ.set j (.val d)) (ds := ds) (fun k hk => hj k (List.mem_cons_of_mem _ hk)) (by simpa using hl) (fun i c ei => ?_) e
    by_cases z : j = i
    · subst z
      left
      rw [hj j List.mem_cons_self] at ei
      cases ei
      rfl
    · rw [List.getElem?_set_ne z]
      exact h i c ei
theorem tame_vars {cap : List (Option Nat)} {is : List Nat} (h : ∀ j ∈ is, cap[j]? = some none) : Tame cap (gTupF is) := fun ρ d ρ1 e => by
  cases d with
  | tuple ds =>
    refine gVars_tame (ρ := selF cap ρ) (fun j hj => ?_) rfl (fun i c ei => .inr ei) e
    unfold selF
    rw [List.getElem?_map, h j hj]
    rfl
  | _ => cases e
section
variable {X : Cx} {tg iter elt : Expr} {ifs : List Expr} {scope : Scope} {Nc : List Str} {cap : List (Option Nat)} {pos : Pos} {f : Env → Option (List D)} {g : Env → D → Option Env} {t : Env → Option Bool} {fe : Env → Option D}
theorem comp_core (C : CompOk X scope Nc cap) (tame : Tame cap g) (hc : X.calm = true) (hi : SI X tg iter f)
    (hb : ∀ cl C s₀ H₀ ex, SG (cxComp X Nc scope cl C s₀ H₀ ex) tg g ∧ Tests (cxComp X Nc scope cl C s₀ H₀ ex) ifs t ∧ SE (cxComp X Nc scope cl C s₀ H₀ ex) elt fe)
    (hs : ∀ x, foldedSetIterable iter X.env x = pure x) {pos' : Pos}
    {use : Option (Value → Sem Unit)} {pins : List (Addr × Obj)} {s : Shared} {σ : L2.St} {H : Hp} {Q : Value → Shared → Prop} {O W : List Addr} {ρ : Env} {ds ys : List D} (I : Inv X pins σ H s) (sr : SR X.K O W ρ σ H) (e : f ρ = some ds) (ec : compF g t fe (selF cap ρ) ds = some ys) (z : ys.length ≤ big)
    (fin : ∀ (L Ca : Addr) (xs : List V) (H' : Hp) (s' : Shared) (m : Str → Option Value), Inv X pins σ H' s' → H L = none → Same H H' → H' L = some (.lst xs) → Reps X.K (hid (O ++ (W ++ [L])) H') ys xs → s'.heap.Ns Ca m → FpOk X pins H' Ca →
      compPost (model X.prog X.w) X.A X.xe use Q (.ref L) Ca (.ok .next) s') :
    wpAny (model X.prog X.w) X.A (comprehension (.ListComp elt [⟨tg, iter, ifs, 0⟩] scope pos) scope X.env pos' (newList []) false (eval iter X.env) use) Q X.xe s := by
  have hcl : closureFor scope X.env = pure (clOf X.env scope.names []) := closureFor_of fun y hy hf => I.ok.has y.1 (C.free y hy hf)
  refine wpAny_comprehension_free (use := use) (gs := []) rfl hs hcl C.kind C.loc ?_
  refine thn (hi pins s σ H (fun J H1 => Same H H1 ∧ Yields X.K O W J ds H1) I ⟨O, W, ρ, ds, sr, e, fun J H1 s1 y => ⟨s1, y⟩⟩) fun v s1 h1 => thn h1 fun itv s2 h2 => ?_
  obtain ⟨it, fp, tn, J, H2, rfl, I2, T, st2, f2, sm, y⟩ := h2
  refine wpAny_newObj_type (wpAny_newFunctionEnv C.nocell (by intro y hy; simp at hy) (fun h₁ hns₁ hsb₁ => ?_) C.kind)
  dsimp only at hns₁ hsb₁ ⊢
  generalize eH3 : s2.heap.push { cls := .type "list", dict := none, data := .seq ([] : List Value).toArray } = h3 at hns₁ hsb₁ ⊢
  have I3 : Inv X pins σ (upd H2 s2.heap.objs.size (.lst [])) { s2 with heap := h3 } := by
    rw [← eH3]
    exact I2.laid (t' := s2.toks) (fun b u e => Heap.get?_push_of_some _ e) (Nat.le_refl _) ⟨by simp, [], 0, .nil, Heap.get?_push_size _ rfl⟩
  have nL : H2 s2.heap.objs.size = none := I2.hok.fresh (Nat.le_refl _)
  have nLH : H s2.heap.objs.size = none := by
    cases q : H s2.heap.objs.size with
    | none => rfl
    | some o => rw [sm _ o q] at nL; cases nL
  generalize eL : s2.heap.objs.size = L at I3 nL nLH ⊢
  have hlt3 : ∀ {b : Addr} {o : Obj}, h3.get? b = some o → b < h3.objs.size := fun e => Heap.lt_size e
  have kp : ∀ b u, h3.get? b = some u → h₁.get? b = some u := fun b u e => hsb₁.extBut b u (Nat.ne_of_lt (hlt3 e)) (Heap.get?_push_of_some _ e)
  have objs : ∀ b ∈ fp, b < s2.heap.objs.size := fun b hb => by
    obtain ⟨o, e, _⟩ := T.obj _ _ st2 b hb
    exact Heap.lt_size e
  have sz3 : s2.heap.objs.size < h3.objs.size := by rw [← eH3, Heap.size_push]; exact Nat.lt_succ_self _
  have keep3 : ∀ b u, s2.heap.get? b = some u → h3.get? b = some u := fun b u e => by rw [← eH3]; exact Heap.get?_push_of_some _ e
  have fpL : ∀ b ∈ fp, b ≠ L := fun b hb q => by rw [← eL] at q; exact absurd (objs b hb) (by rw [q]; exact Nat.lt_irrefl _)
  obtain ⟨hg, ht, he⟩ := hb (clOf X.env scope.names []) h3.objs.size { s2 with heap := h3 } (upd H2 L (.lst [])) fp
  have ok : (cxComp X Nc scope (clOf X.env scope.names []) h3.objs.size { s2 with heap := h3 } (upd H2 L (.lst [])) fp).Ok := by
    refine ⟨I3.ok.mod, C.kind, I3.ok.glob, I3.ok.blt, Nat.le_refl _, fun x y c h1 h2 => I3.ok.inj x y c (clOf_some h1) (clOf_some h2), fun x hx => ?_, (fun x c hf => by cases hf), I3.ok.hd, I3.ok.frames, .inl rfl, fun b hb => ⟨?_, fun x c h => ?_⟩, I3.bs, Nat.le_trans I3.ok.bsz I3.sz, fun b o hb hx => ?_, fun b hb hx => ?_, I3.stack, I3.stkFree⟩
    · have hx' : (x, NameKind.free) ∈ scope.names ∨ (x, NameKind.cell) ∈ scope.names := by
        rcases hx with q | q
        · exact relabel_inv (env := X.env) q (.inl rfl)
        · exact relabel_inv (env := X.env) q (.inr rfl)
      rcases hx' with q | q
      · obtain ⟨c, hcc⟩ := I3.ok.has x (C.free _ q rfl)
        exact ⟨c, clOf_lookup q hcc⟩
      · exact absurd rfl (C.nocell _ q)
    · exact Nat.ne_of_lt (Nat.lt_trans (objs b hb) sz3)
    · exact (f2 b hb).2.2.2.2.1 x c (clOf_some h)
    · rcases (f2 b hx).2.2.2.1 with q | q
      · exact I3.ok.noex b o hb q
      · exact absurd (Nat.lt_of_lt_of_le (Heap.lt_size (I3.ok.bs b o hb).1) q) (Nat.lt_irrefl _)
    · rcases List.mem_cons.mp (I3.stkSub b hx) with q | q
      · exact (f2 b hb).2.1 q
      · exact (f2 b hb).2.2.1 q
  have I4 : Inv (cxComp X Nc scope (clOf X.env scope.names []) h3.objs.size { s2 with heap := h3 } (upd H2 L (.lst [])) fp) [] (selV cap σ) (upd H2 L (.lst [])) { s2 with heap := h₁, toks := s2.toks + ([] : List (Str × Value)).length } := by
    refine ⟨ok, rfl, I3.bare, Un.kept kp, ⟨_, hns₁, fun i x v hN hσ hv => ?_⟩, fun x c h => ?_, ?_, fun x c h => I3.freeC x c (clOf_some h), fun p hp => absurd (show p ∈ ([] : List (Addr × Obj)) from hp) (by simp), I3.hok.kept kp, ?_⟩
    · unfold selV at hσ
      rw [List.getElem?_map] at hσ
      cases q : cap[i]? with
      | none => rw [q] at hσ; cases hσ
      | some o =>
        rw [q] at hσ
        cases o with
        | none => cases hσ
        | some j =>
          obtain ⟨hNj, hfree⟩ := C.at_ i j x q hN
          have hσj : σ[j]? = some (some v) := by
            cases r : σ[j]? with
            | none => simp [r] at hσ
            | some o => simp [r] at hσ; rw [hσ]
          obtain ⟨m, hn, hl⟩ := I3.loc
          have mem := PySem.mem_of_lookup hfree
          have hk := C.free _ mem rfl
          have hvx : Vis X.env.scope x := .inr hk
          obtain ⟨u, ru, lk⟩ := hl j x v hNj hσj hvx
          refine ⟨u, ru, ?_⟩
          rcases lk with ⟨k1, _⟩ | ⟨k1, c, e1, e2⟩
          · rcases hk with k2 | k2
            · rw [k1] at k2; cases k2
            · rw [k1] at k2; cases k2
          · have hkY := relabel_free (env := X.env) hfree
            refine .inr ⟨hkY, c, clOf_lookup mem e1, ?_⟩
            obtain ⟨o, eo, ed⟩ := e2
            exact ⟨o, kp c o eo, ed⟩
    · obtain ⟨v, o, eo, ed⟩ := I3.cell x c (clOf_some h)
      exact ⟨v, o, kp c o eo, ed⟩
    · exact I3.hok.fresh (Nat.le_refl _)
    · simp [selV, C.len]
  have srY : ∀ H', Same H2 H' → H' L ≠ none → SR X.K (O ++ (W ++ [L])) [] (selF cap ρ) (selV cap σ) H' := fun H' s' hl => (sel_sr cap sr).hide nLH (sm.trans s') hl (fun a ha => by
    rcases List.mem_append.mp ha with q | q
    · exact .inl (List.mem_append_left _ q)
    · rcases List.mem_append.mp q with q | q
      · exact .inl (List.mem_append_right _ q)
      · exact .inr (by simpa using q)) fun a ha => by
    rcases List.mem_append.mp ha with q | q
    · exact List.mem_append_left _ q
    · exact List.mem_append_right _ (List.mem_append_left _ q)
  have fmW : ∀ H', Same H2 H' → Fm W H2 H' (W ++ [L]) := fun H' s' => ⟨fun b o e _ => s' b o e, fun a ha => by
    rcases List.mem_append.mp ha with q | q
    · exact .inl q
    · have : a = L := by simpa using q
      subst this
      exact .inr nL⟩
  have stat : ∀ {H' : Hp}, (∀ b ∈ fp, H' b = none) → ∀ b ∈ fp, FpOk (cxComp X Nc scope (clOf X.env scope.names []) h3.objs.size { s2 with heap := h3 } (upd H2 L (.lst [])) fp) [] H' b := fun hn b hb =>
    ⟨hn b hb, (ok.exf b hb).1, ok.exfs b hb, .inl hb, fun x c h q => (ok.exf b hb).2 x c h q, fun p hp => absurd (show p ∈ ([] : List (Addr × Obj)) from hp) (by simp)⟩
  have loop : ∀ s4 : Shared, s4 = { s2 with heap := h₁, toks := s2.toks + ([] : List (Str × Value)).length } →
      codeAny (model X.prog X.w) X.A (.compLoop (.ListComp elt [⟨tg, iter, ifs, 0⟩] scope pos) 0 (.ref it) (.ref L) (compEnvC scope (clOf X.env scope.names []) h3.objs.size X.env)) (compPost (model X.prog X.w) X.A X.xe use Q (.ref L) h3.objs.size) s4 := by
    rintro s4 rfl
    refine comp_loop (fun n s' => ∃ i σ' H' xs ys1 ys2, Inv (cxComp X Nc scope (clOf X.env scope.names []) h3.objs.size { s2 with heap := h3 } (upd H2 L (.lst [])) fp) [] σ' H' s' ∧ SR X.K (O ++ (W ++ [L])) [] (selF cap ρ) σ' H' ∧ tn i s'.heap ∧ (∀ b ∈ fp, H' b = none) ∧ i ≤ ds.length ∧ n = ds.length - i ∧
      Same H2 H' ∧ H' L = some (.lst xs) ∧ Reps X.K (hid (O ++ (W ++ [L])) H') ys1 xs ∧ compF g t fe (selF cap ρ) (ds.drop i) = some ys2 ∧ ys = ys1 ++ ys2) ?_ ds.length ?_
    · rintro n s5 ⟨i, σ5, H5, xs, ys1, ys2, I5, sr5, st5, fr5, hi5, rfl, sm5, hL5, r5, ec5, ey5⟩
      obtain ⟨yi, ystop⟩ := y (W ++ [L]) H5 (fmW H5 sm5) fun a ha => sr5.live a (List.mem_append_left _ ha)
      by_cases hlt : i < ds.length
      · have ed : ds.drop i = ds[i] :: ds.drop (i + 1) := List.drop_eq_getElem_cons hlt
        obtain ⟨go, yld⟩ := yi i ds[i] (by simp [hlt])
        rw [ed] at ec5
        refine thn (T.item (cxComp X Nc scope (clOf X.env scope.names []) h3.objs.size { s2 with heap := h3 } (upd H2 L (.lst [])) fp) rfl rfl rfl hc i [] s5 σ5 H5 (fun _ _ => False) I5 (stat fr5) st5 go) fun r s6 h6 => ?_
        obtain ⟨u, rfl, h6⟩ := h6
        refine thn h6 fun _ s7 h7 => ?_
        obtain ⟨x, H7, I7, rx, y7, st7, fr7⟩ := h7
        obtain ⟨s57, rep7⟩ := yld x H7 y7
        have I7' := I7.pinned (stat fr7) (T.obj _ _ st7)
        unfold compF at ec5
        cases eg : g (selF cap ρ) ds[i] with
        | none => rw [eg] at ec5; cases ec5
        | some ρ1 =>
          rw [eg] at ec5
          obtain ⟨tl, tm⟩ := tame ρ ds[i] ρ1 eg
          refine thn (hg _ s7 σ5 H7 x u (fun σ' H' => SR X.K (O ++ (W ++ [L])) [] ρ1 σ' H' ∧ Same H7 H') I7' rx ⟨O ++ (W ++ [L]), [], selF cap ρ, ds[i], ρ1, sr5.mono s57, by rw [List.append_nil]; exact rep7, eg, fun σ' H' a b => ⟨a, b⟩⟩) fun _ s8 h8 => ?_
          obtain ⟨σ8, H8, I8, sr8, s78⟩ := h8
          have again : ∀ {σ9 : L2.St} {H9 : Hp} {s9 : Shared} (xs9 : List V) (ys9 ysr : List D), Inv (cxComp X Nc scope (clOf X.env scope.names []) h3.objs.size { s2 with heap := h3 } (upd H2 L (.lst [])) fp) ([] ++ pinsAt fp s7.heap) σ9 H9 s9 → SR X.K (O ++ (W ++ [L])) [] ρ1 σ9 H9 → Same H2 H9 → H9 L = some (.lst xs9) →
              Reps X.K (hid (O ++ (W ++ [L])) H9) ys9 xs9 → compF g t fe (selF cap ρ) (ds.drop (i + 1)) = some ysr → ys = ys9 ++ ysr → ∃ m, m < ds.length - i ∧ ∃ i' σ' H' xs' ys1' ys2', Inv (cxComp X Nc scope (clOf X.env scope.names []) h3.objs.size { s2 with heap := h3 } (upd H2 L (.lst [])) fp) [] σ' H' s9 ∧ SR X.K (O ++ (W ++ [L])) [] (selF cap ρ) σ' H' ∧ tn i' s9.heap ∧ (∀ b ∈ fp, H' b = none) ∧ i' ≤ ds.length ∧ m = ds.length - i' ∧
              Same H2 H' ∧ H' L = some (.lst xs') ∧ Reps X.K (hid (O ++ (W ++ [L])) H') ys1' xs' ∧ compF g t fe (selF cap ρ) (ds.drop i') = some ys2' ∧ ys = ys1' ++ ys2' := fun {σ9 H9 s9} xs9 ys9 ysr I9 sr9 sm9 hL9 r9 ec9 ey9 => by
            refine ⟨ds.length - (i + 1), by omega, i + 1, σ9, H9, xs9, ys9, ysr, I9.unpinned, sr9.weak tl tm, T.keep _ _ _ st7 fun b hb o e => (I9.pin (b, o) (List.mem_append_right _ (List.mem_append_right _ (mem_pinsAt hb e)))).1, fun b hb => ?_, hlt, rfl, sm9, hL9, r9, ec9, ey9⟩
            obtain ⟨o, e, d⟩ := T.obj _ _ st7 b hb
            exact (I9.pin (b, o) (List.mem_append_right _ (List.mem_append_right _ (mem_pinsAt hb e)))).2.1
          have sm8 : Same H5 H8 := s57.trans s78
          have tests : ∀ (b : Bool), t ρ1 = some b → wpAny (model X.prog X.w) X.A (forIn ifs true fun c r => if r = true then do let ok ← isTrue c (compEnvC scope (clOf X.env scope.names []) h3.objs.size X.env) (eval c (compEnvC scope (clOf X.env scope.names []) h3.objs.size X.env)); pure (ForInStep.yield ok) else pure (ForInStep.yield r))
              (fun b' s' => b' = b ∧ ∃ H', Inv (cxComp X Nc scope (clOf X.env scope.names []) h3.objs.size { s2 with heap := h3 } (upd H2 L (.lst [])) fp) ([] ++ pinsAt fp s7.heap) σ8 H' s' ∧ Same H8 H') (fun _ _ => False) s8 := fun b hbt => by
            cases ht with
            | nil =>
              cases hbt
              exact wpAny_tests_nil ⟨rfl, H8, I8, .refl H8⟩
            | one hT =>
              refine wpAny_tests_one (thn (hT _ s8 σ8 H8 (fun b' H' => b' = b ∧ Same H8 H') I8 ⟨O ++ (W ++ [L]), [], ρ1, b, sr8, hbt, fun H' s' => ⟨rfl, s'⟩⟩) fun b' s' h' => ?_)
              obtain ⟨H', I', e', s''⟩ := h'
              exact ⟨e', H', I', s''⟩
          cases et : t ρ1 with
          | none => simp [et] at ec5
          | some b =>
            simp only [et] at ec5
            refine thn (tests b et) fun b' s9 h9 => ?_
            obtain ⟨rfl, H9, I9, s89⟩ := h9
            have sm9 : Same H5 H9 := sm8.trans s89
            cases b' with
            | false =>
              rw [if_neg Bool.false_ne_true]
              exact again xs ys1 ys2 I9 (sr8.mono s89) (sm5.trans sm9) (sm9 _ _ hL5) (r5.mono (hid_same sm9)) ec5 ey5
            | true =>
              rw [if_pos rfl]
              cases ee : fe ρ1 with
              | none => simp [ee] at ec5
              | some yd =>
                cases er : compF g t fe (selF cap ρ) (ds.drop (i + 1)) with
                | none => simp [ee, er] at ec5
                | some yr =>
                  simp only [ee, er] at ec5
                  have ec5' : yd :: yr = ys2 := Option.some.inj ec5
                  subst ec5'
                  refine thn (he _ s9 σ8 H9 (fun v' H' => Same H9 H' ∧ Rep X.K (hid (O ++ (W ++ [L])) H') yd v') I9 ⟨O ++ (W ++ [L]), [], ρ1, yd, sr8.mono s89, ee, fun v' H' s' r' => ⟨s', by rw [List.append_nil] at r'; exact r'⟩⟩) fun u' s10 h10 => ?_
                  obtain ⟨v', H10, I10, rv', s910, r10⟩ := h10
                  have sm10 : Same H5 H10 := sm9.trans s910
                  have hL10 := sm10 _ _ hL5
                  refine thn (mt_append _ s10 σ8 H10 (.ref L) [v'] (.ref L) [u'] (fun _ H' => H' = upd H10 L (.lst (xs ++ [v']))) I10 rfl (.cons rv' .nil) ⟨L, xs, v', rfl, rfl, hL10, ?_, rfl⟩) fun _ s11 h11 => ?_
                  · rw [← r5.length]
                    have : ys1.length < ys.length := by rw [ey5]; simp
                    exact Nat.lt_of_lt_of_le (Nat.lt_of_lt_of_le this z) (by rw [sizeLine_eq]; decide)
                  · obtain ⟨_, H11, I11, _, rfl⟩ := h11
                    have hideq : hid (O ++ (W ++ [L])) (upd H10 L (.lst (xs ++ [v']))) = hid (O ++ (W ++ [L])) H10 := by
                      funext c
                      by_cases zc : c ∈ O ++ (W ++ [L])
                      · rw [hid_in zc, hid_in zc]
                      · rw [hid_out zc, hid_out zc, upd_ne]
                        rintro rfl
                        exact zc (List.mem_append_right _ (List.mem_append_right _ List.mem_cons_self))
                    have sr10 : SR X.K (O ++ (W ++ [L])) [] ρ1 σ8 H10 := sr8.mono (s89.trans s910)
                    refine again (xs ++ [v']) (ys1 ++ [yd]) yr I11 ⟨sr10.len, fun i' c ei => ?_, fun i' j' ds' es' a' n' => sr10.apart i' j' ds' es' a' n', fun a' ha' => ?_⟩ (fun b o eb => ?_) upd_same ?_ er (by rw [ey5]; simp)
                    · have q := sr10.rel i' c ei
                      cases c with
                      | emp => trivial
                      | ref _ => exact q
                      | val d' =>
                        obtain ⟨v0, e0, r0⟩ := q
                        refine ⟨v0, e0, ?_⟩
                        rw [List.append_nil] at r0 ⊢
                        rw [hideq]
                        exact r0
                      | own ds' => obtain ⟨_, _, _, w', _⟩ := q; cases w'
                    · by_cases za : a' = L
                      · subst za; rw [upd_same]; intro q; cases q
                      · rw [upd_ne za]; exact sr10.live a' ha'
                    · rw [upd_ne]
                      · exact sm10 _ _ (sm5 b o eb)
                      · rintro rfl; rw [nL] at eb; cases eb
                    · rw [hideq]
                      exact Reps.append (r5.mono (hid_same sm10)) (.cons r10 .nil)
      · have ei : i = ds.length := by omega
        subst ei
        rw [List.drop_length] at ec5
        have ec5' : ([] : List D) = ys2 := Option.some.inj ec5
        subst ec5'
        rw [List.append_nil] at ey5
        subst ey5
        refine thn (T.done (cxComp X Nc scope (clOf X.env scope.names []) h3.objs.size { s2 with heap := h3 } (upd H2 L (.lst [])) fp) rfl rfl rfl hc ds.length [] s5 σ5 H5 (fun _ _ => False) I5 (stat fr5) st5 ystop) fun r s6 h6 => ?_
        obtain ⟨rfl, I6⟩ := h6
        obtain ⟨m, hnm, _⟩ := I6.loc
        refine fin L h3.objs.size xs H5 s6 m (I3.call' I6.os I6.base I6.hok I6.bare fun b hb => ⟨(f2 b hb).2.2.2.1, (f2 b hb).2.1, (f2 b hb).2.2.2.2.1, (f2 b hb).2.2.2.2.2⟩) nLH (sm.trans sm5) hL5 r5 hnm (I3.fpOk (Nat.le_refl _) I6.free)
    · refine ⟨0, selV cap σ, upd H2 L (.lst []), [], [], ys, I4, srY _ (same_upd nL _) (by rw [upd_same]; intro q; cases q), T.keep _ _ _ st2 fun b hb o e => kp b o (keep3 b o e), fun b hb => ?_, Nat.zero_le _, rfl, same_upd nL _, upd_same, rfl, ec, rfl⟩
      rw [upd_ne (fpL b hb)]
      exact (f2 b hb).1
  have st4 : tn 0 h₁ := T.keep _ _ _ st2 fun b hb o e => kp b o (keep3 b o e)
  rw [← eL] at loop ⊢
  exact codeAny_compStart_list (loop _ rfl) (T.self _ 0 _ _ _ st4 (loop _ rfl))
end
end Fn
set_option Elab.async false
set_option linter.all false
set_option maxRecDepth 100000
namespace Fn
open PySem L2 PySem.Spec PyProof.Rows
noncomputable def nComp (f : Env → Option (List D)) (cap : List (Option Nat)) (g : Env → D → Option Env) (t : Env → Option Bool) (fe : Env → Option D) : Env → Option (List D) := fun ρ => match f ρ with
  | none => none
  | some ds => match compF g t fe (selF cap ρ) ds with
    | some ys => if ys.length ≤ big then some ys else none
    | none => none
noncomputable def eComp (f : Env → Option (List D)) (cap : List (Option Nat)) (g : Env → D → Option Env) (t : Env → Option Bool) (fe : Env → Option D) : Env → Option D := fun ρ => (nComp f cap g t fe ρ).map PyData.list
theorem nComp_some {f : Env → Option (List D)} {cap : List (Option Nat)} {g : Env → D → Option Env} {t : Env → Option Bool} {fe : Env → Option D} {ρ : Env} {ys : List D} (h : nComp f cap g t fe ρ = some ys) :
    ∃ ds, f ρ = some ds ∧ compF g t fe (selF cap ρ) ds = some ys ∧ ys.length ≤ big := by
  unfold nComp at h
  cases e : f ρ with
  | none => rw [e] at h; cases h
  | some ds =>
    simp only [e] at h
    cases e' : compF g t fe (selF cap ρ) ds with
    | none => rw [e'] at h; cases h
    | some zs =>
      simp only [e'] at h
      by_cases z : zs.length ≤ big
      · rw [if_pos z] at h
        cases h
        exact ⟨ds, rfl, e', z⟩
      · rw [if_neg z] at h
        cases h
section
variable {X : Cx} {tg iter elt : Expr} {ifs : List Expr} {scope : Scope} {Nc : List Str} {cap : List (Option Nat)} {pos : Pos} {f : Env → Option (List D)} {g : Env → D → Option Env} {t : Env → Option Bool} {fe : Env → Option D}
theorem back_x {pins : List (Addr × Obj)} {σ : L2.St} {H : Hp} {s : Shared} {Ca : Addr} {h' : Heap} (I : Inv X pins σ H s) (fp : FpOk X pins H Ca) (sb : Heap.SameBut Ca s.heap h') : Inv X pins σ H { s with heap := h' } :=
  I.turned (t' := s.toks) (fun b o hb e => (sb.2 b hb).trans e) fp.1 fp.2.1 fp.2.2.2.1 fp.2.2.2.2.1 fp.2.2.2.2.2
theorem sn_comp (C : CompOk X scope Nc cap) (tame : Tame cap g) (hc : X.calm = true) (hi : SI X tg iter f)
    (hb : ∀ cl C s₀ H₀ ex, SG (cxComp X Nc scope cl C s₀ H₀ ex) tg g ∧ Tests (cxComp X Nc scope cl C s₀ H₀ ex) ifs t ∧ SE (cxComp X Nc scope cl C s₀ H₀ ex) elt fe)
    (hs : ∀ x, foldedSetIterable iter X.env x = pure x := by intro _; rfl) : SN X (.ListComp elt [⟨tg, iter, ifs, 0⟩] scope pos) (nComp f cap g t fe) := by
  intro pins s σ H Q I ⟨O, W, ρ, ys, sr, e, k⟩
  obtain ⟨ds, e1, e2, z⟩ := nComp_some e
  rw [eval_ListComp]
  refine comp_core (use := none) C tame hc hi hb hs I sr e1 e2 z fun L Ca xs H' s' m I' nL sm hL r hn fp => ⟨m, hn, fun h' sb => ?_⟩
  exact ⟨.ref L, H', back_x I' fp sb, rfl, k L xs H' nL sm hL r⟩
theorem own_rep {K : PySem.W.Frag} {O W : List Addr} {ρ : Env} {σ : L2.St} {H H' : Hp} {L : Addr} {ys : List D} {xs : List V} (sr : SR K O W ρ σ H) (nL : H L = none) (hL : H' L = some (.lst xs)) (r : Reps K (hid (O ++ (W ++ [L])) H') ys xs) : Rep K (hid (O ++ W) H') (.list ys) (.ref L) := by
  refine ⟨L, xs, rfl, .inl (.inl ?_), r.mono (hid_less fun a ha => ?_)⟩
  · rw [hid_out fun q => sr.live L q nL]; exact hL
  · rcases List.mem_append.mp ha with q | q
    · exact List.mem_append_left _ q
    · exact List.mem_append_right _ (List.mem_append_left _ q)
theorem se_of_sn {e : Expr} {n : Env → Option (List D)} (h : SN X e n) : SE X e (fun ρ => (n ρ).map PyData.list) := pe_conv h fun σ H Q h_0 => by
  obtain ⟨O, W, ρ, d, sr, e, k⟩ := h_0
  cases e1 : n ρ with
  | none => simp [e1] at e
  | some ys =>
    simp [e1] at e
    subst e
    exact ⟨O, W, ρ, ys, sr, e1, fun p xs H' np sm hp r => k _ H' sm (own_rep sr np hp r)⟩
theorem se_comp (C : CompOk X scope Nc cap) (tame : Tame cap g) (hc : X.calm = true) (hi : SI X tg iter f)
    (hb : ∀ cl C s₀ H₀ ex, SG (cxComp X Nc scope cl C s₀ H₀ ex) tg g ∧ Tests (cxComp X Nc scope cl C s₀ H₀ ex) ifs t ∧ SE (cxComp X Nc scope cl C s₀ H₀ ex) elt fe)
    (hs : ∀ x, foldedSetIterable iter X.env x = pure x := by intro _; rfl) : SE X (.ListComp elt [⟨tg, iter, ifs, 0⟩] scope pos) (eComp f cap g t fe) := se_of_sn (sn_comp C tame hc hi hb hs)
theorem ss_setC {i : Nat} {x : Str} {py spos : Pos} (hN : X.N.Nodup) (hi' : X.N[i]? = some x) (hx : Loc X.env.scope x) (C : CompOk X scope Nc cap) (tame : Tame cap g) (hc : X.calm = true) (hi : SI X tg iter f)
    (hb : ∀ cl C s₀ H₀ ex, SG (cxComp X Nc scope cl C s₀ H₀ ex) tg g ∧ Tests (cxComp X Nc scope cl C s₀ H₀ ex) ifs t ∧ SE (cxComp X Nc scope cl C s₀ H₀ ex) elt fe)
    (hsw : swapsWith (.ListComp elt [⟨tg, iter, ifs, 0⟩] scope pos) (some (.Name x py)) spos.line X.env = pure true := by rfl)
    (hf : X.fn x = true ∨ X.env.scope.names.lookup x = some .local := by first | exact .inl rfl | exact .inr rfl | assumption)
    (hs : ∀ x, foldedSetIterable iter X.env x = pure x := by intro _; rfl) : SS X (.Assign [.Name x py] (.ListComp elt [⟨tg, iter, ifs, 0⟩] scope pos) spos) (sSet i (eComp f cap g t fe)) := by
  intro pins s σ H D I ⟨O, W, ρ, fl, sr, e, k⟩
  unfold sSet at e
  cases e0 : eComp f cap g t fe ρ with
  | none => rw [e0] at e; cases e
  | some dy =>
    rw [e0] at e
    cases e
    unfold eComp at e0
    cases e00 : nComp f cap g t fe ρ with
    | none => rw [e00] at e0; cases e0
    | some ys =>
      rw [e00] at e0
      cases e0
      obtain ⟨ds, e1, e2, z⟩ := nComp_some e00
      rw [exec_Assign_Name_used _ _ _ _ hsw]
      refine wpAny_bind (wpAny_standAt (wpAny_bind ?_))
      show wpAny _ X.A (do let _ ← comprehension (.ListComp elt [⟨tg, iter, ifs, 0⟩] scope pos) scope X.env _ (newList []) false (eval iter X.env) (some (assign (.Name x py) X.env))) _ _ s
      refine wpAny_bind (thn (comp_core (use := some (assign (.Name x py) X.env)) (Q := fun _ s' => SP X pins D .next s') C tame hc hi hb hs I sr e1 e2 z fun L Ca xs H' s' m I' nL sm hL r hn fp => ?_) fun _ s' hq => wpAny_pure (wpAny_pure hq))
      show wpAny _ X.A (assign (.Name x py) X.env (.ref L)) _ _ _
      refine wpAny_assign_Name (store_ok2 (v := .ref L) I' hN hi' hx rfl (fun s'' I'' h_0 => ?_) hf)
      obtain ⟨a, sb, ha⟩ := h_0
      have neC : Ca ≠ a := by
        rcases ha with rfl | ha
        · exact fp.2.1
        · exact fun q => fp.2.2.2.2.1 x a ha q.symm
      refine ⟨m, hn.sameBut sb neC, fun h' sb' => ⟨σ.set i (some (.ref L)), H', back_x I'' fp sb', ?_⟩⟩
      exact k W _ H' ((sr.mono sm).put (own_rep sr nL hL r)) (.of_same sm)
end
section
variable {X : Cx} {pins : List (Addr × Obj)} {σ : L2.St} {H : Hp} {s : Shared}
mutual
theorem Rep.reads (I : Inv X pins σ H s) : ∀ {d : D} {v : V} {u : Value}, Rep X.K H d v → RelV v u → ∃ as, Reads s.heap u d as
  | .none, _, _, h, r => by cases h; cases r; exact ⟨_, .none⟩
  | .bool b, _, _, h, r => by cases h; cases r; exact ⟨_, .bool b⟩
  | .int i, _, _, h, r => by cases h; obtain ⟨t, rfl⟩ := r; exact ⟨_, .int i t⟩
  | .str x, _, _, h, r => by obtain ⟨rfl, _⟩ := h; obtain ⟨t, rfl⟩ := r; exact ⟨_, .str x t⟩
  | .list ds, _, _, h, r => by
    obtain ⟨a, xs, rfl, q, rr⟩ := h
    cases r
    obtain ⟨its, rv, ⟨o, n, e1, e2, _, e3⟩, _⟩ := I.list q
    obtain ⟨as, ra⟩ := Reps.reads I rr rv
    exact ⟨_, .list e1 e2 e3 (by simpa using ra)⟩
  | .tuple ds, _, _, h, r => by
    obtain ⟨a, xs, rfl, q, rr⟩ := h
    cases r
    obtain ⟨its, rv, ⟨o, e1, e2, n, e3⟩, _⟩ := I.tuple q
    obtain ⟨as, ra⟩ := Reps.reads I rr rv
    exact ⟨_, .tuple e1 e2 e3 (by simpa using ra)⟩
  | .dict _, _, _, h, _ => h.elim
theorem Reps.reads (I : Inv X pins σ H s) : ∀ {ds : List D} {vs : List V} {us : List Value}, Reps X.K H ds vs → Vals vs us → ∃ as, ReadsAll s.heap us ds as
  | [], _, _, h, r => by cases h; cases r; exact ⟨_, .nil⟩
  | d :: ds, _, _, h, r => by
    obtain ⟨v, t, rfl, h1, h2⟩ := h
    cases r with
    | cons r1 r2 =>
      obtain ⟨as, a1⟩ := Rep.reads I h1 r1
      obtain ⟨bs, a2⟩ := Reps.reads I h2 r2
      exact ⟨_, .cons a1 a2⟩
end
end
mutual
theorem Rep.lay {K : PySem.W.Frag} {H : Hp} : ∀ {d : D} {v : V}, Rep K H d v → d.canLay0 = true
  | .none, _, _ => rfl
  | .bool _, _, _ => rfl
  | .int _, _, _ => rfl
  | .str _, _, h => h.2
  | .list _, _, h => by obtain ⟨_, _, _, _, r⟩ := h; exact Reps.lay r
  | .tuple _, _, h => by obtain ⟨_, _, _, _, r⟩ := h; exact Reps.lay r
  | .dict _, _, h => h.elim
theorem Reps.lay {K : PySem.W.Frag} {H : Hp} : ∀ {ds : List D} {vs : List V}, Reps K H ds vs → PyData.canLayAll0 ds = true
  | [], _, _ => rfl
  | d :: ds, _, h => by
    obtain ⟨v, t, rfl, h1, h2⟩ := h
    show (d.canLay0 && PyData.canLayAll0 ds) = true
    rw [Rep.lay h1, Reps.lay h2]; rfl
end
noncomputable def deep : Nat := 100
noncomputable def eqD (a b : D) : Option D := if min a.depth b.depth ≤ deep then some (.bool (PyData.eqv a b)) else none
noncomputable def neD (a b : D) : Option D := if min a.depth b.depth ≤ deep then some (.bool (!PyData.eqv a b)) else none
noncomputable def inD (x c : D) : Option D := match c with
  | .list xs => if min (PyData.depthAll xs) x.depth ≤ deep then some (.bool (xs.any fun y => PyData.eqv y x)) else none
  | .tuple xs => if min (PyData.depthAll xs) x.depth ≤ deep then some (.bool (xs.any fun y => PyData.eqv y x)) else none
  | _ => none
noncomputable def notInD (x c : D) : Option D := match c with
  | .list xs => if min (PyData.depthAll xs) x.depth ≤ deep then some (.bool (!xs.any fun y => PyData.eqv y x)) else none
  | .tuple xs => if min (PyData.depthAll xs) x.depth ≤ deep then some (.bool (!xs.any fun y => PyData.eqv y x)) else none
  | _ => none
noncomputable def rD (K : PySem.W.Frag) (g : D → D → Option D) : R2 := fun x y H Q => ∃ dx dy b, Rep K H dx x ∧ Rep K H dy y ∧ g dx dy = some (.bool b) ∧ Q (.bl b) H
theorem opD_rD {K : PySem.W.Frag} {g : D → D → Option D} (hg : ∀ a b d, g a b = some d → ∃ c, d = .bool c) : OpD K (rD K g) g := fun O W H x y dx dy d Q lv rx ry e k => by
  obtain ⟨c, rfl⟩ := hg _ _ _ e
  exact ⟨dx, dy, c, rx.whole, ry.whole, e, k _ H (.refl H) rfl⟩
theorem ite_bool {p : Prop} [Decidable p] {b : Bool} {d : D} (h : (if p then some (PyData.bool b) else none) = some d) : ∃ c, d = .bool c := by
  by_cases z : p
  · rw [if_pos z] at h; cases h; exact ⟨b, rfl⟩
  · rw [if_neg z] at h; cases h
theorem ite_bool' {p : Prop} [Decidable p] {b c : Bool} (h : (if p then some (PyData.bool b) else none) = some (.bool c)) : p ∧ b = c := by
  by_cases z : p
  · rw [if_pos z] at h; cases h; exact ⟨z, rfl⟩
  · rw [if_neg z] at h; cases h
theorem eqD_bool : ∀ a b d, eqD a b = some d → ∃ c, d = .bool c := fun _ _ _ h => ite_bool h
theorem neD_bool : ∀ a b d, neD a b = some d → ∃ c, d = .bool c := fun _ _ _ h => ite_bool h
theorem inD_bool : ∀ a b d, inD a b = some d → ∃ c, d = .bool c := fun a b d h => by
  cases b <;> first | exact ite_bool h | cases h
section
variable {X : Cx}
theorem op_eqD {k : Nat} (hr : Room k X.A) : OpR X (compareOp .Eq) (rD X.K eqD) := fun pins s σ H x y v u Q I rx ry h_0 => by
  obtain ⟨dx, dy, b, r1, r2, e, q⟩ := h_0
  obtain ⟨as, a1⟩ := Rep.reads I r1 rx
  obtain ⟨bs, a2⟩ := Rep.reads I r2 ry
  obtain ⟨z, rfl⟩ := ite_bool' e
  have hu := hr.un
  exact SeqAt.compareEq_reads a1 a2 r1.lay r2.lay (by unfold deep at z; omega) ⟨.bl _, H, I, rfl, q⟩
theorem op_neD {k : Nat} (hr : Room k X.A) : OpR X (compareOp .NotEq) (rD X.K neD) := fun pins s σ H x y v u Q I rx ry h_0 => by
  obtain ⟨dx, dy, b, r1, r2, e, q⟩ := h_0
  obtain ⟨as, a1⟩ := Rep.reads I r1 rx
  obtain ⟨bs, a2⟩ := Rep.reads I r2 ry
  obtain ⟨z, rfl⟩ := ite_bool' e
  have hu := hr.un
  exact SeqAt.compareNe_reads a1 a2 r1.lay r2.lay (by unfold deep at z; omega) ⟨.bl _, H, I, rfl, q⟩
theorem op_inD {k : Nat} (hr : Room k X.A) : OpR X (compareOp .In) (rD X.K inD) := fun pins s σ H x y v u Q I rx ry h_0 => by
  obtain ⟨dx, dy, b, r1, r2, e, q⟩ := h_0
  obtain ⟨as, a1⟩ := Rep.reads I r1 rx
  obtain ⟨bs, a2⟩ := Rep.reads I r2 ry
  have hu := hr.un
  have l2 := r2.lay
  cases dy with
  | list xs =>
    obtain ⟨z, rfl⟩ := ite_bool' (show (if min (PyData.depthAll xs) dx.depth ≤ deep then some (PyData.bool (xs.any fun y => PyData.eqv y dx)) else none) = some (.bool b) from e)
    exact SeqAt.in_list_reads a2 a1 l2 r1.lay (by unfold deep at z; omega) ⟨.bl _, H, I, rfl, q⟩
  | tuple xs =>
    obtain ⟨z, rfl⟩ := ite_bool' (show (if min (PyData.depthAll xs) dx.depth ≤ deep then some (PyData.bool (xs.any fun y => PyData.eqv y dx)) else none) = some (.bool b) from e)
    exact SeqAt.in_tuple_reads a2 a1 l2 r1.lay (by unfold deep at z; omega) ⟨.bl _, H, I, rfl, q⟩
  | _ => cases e
end
noncomputable def iI (f : Int → Int → Int) : D → D → Option D
  | .int i, .int j => some (.int (f i j))
  | _, _ => none
noncomputable def cI (f : Int → Int → Bool) : D → D → Option D
  | .int i, .int j => some (.bool (f i j))
  | _, _ => none
theorem iI_some {f : Int → Int → Int} {a b d : D} (h : iI f a b = some d) : ∃ i j, a = .int i ∧ b = .int j ∧ d = .int (f i j) := by
  cases a <;> cases b <;> first | (cases h; exact ⟨_, _, rfl, rfl, rfl⟩) | cases h
theorem cI_some {f : Int → Int → Bool} {a b d : D} (h : cI f a b = some d) : ∃ i j, a = .int i ∧ b = .int j ∧ d = .bool (f i j) := by
  cases a <;> cases b <;> first | (cases h; exact ⟨_, _, rfl, rfl, rfl⟩) | cases h
theorem opD_cI {K : PySem.W.Frag} {f : Int → Int → Bool} : OpD K (rI0 fun i j => .bl (f i j)) (cI f) := fun O W H x y dx dy d Q lv rx ry e k => by
  obtain ⟨i, j, rfl, rfl, rfl⟩ := cI_some e
  exact ⟨i, j, rx.int, ry.int, k _ H (.refl H) rfl⟩
theorem opD_iI {K : PySem.W.Frag} {f : Int → Int → Int} : OpD K (rI0 fun i j => .int (f i j)) (iI f) := fun O W H x y dx dy d Q lv rx ry e k => by
  obtain ⟨i, j, rfl, rfl, rfl⟩ := iI_some e
  exact ⟨i, j, rx.int, ry.int, k _ H (.refl H) rfl⟩
noncomputable def iIC (C : Int → Int → Bool) (f : Int → Int → Int) : D → D → Option D
  | .int i, .int j => if C i j = true then some (.int (f i j)) else none
  | _, _ => none
theorem iIC_some {C : Int → Int → Bool} {f : Int → Int → Int} {a b d : D} (h : iIC C f a b = some d) : ∃ i j, a = .int i ∧ b = .int j ∧ C i j = true ∧ d = .int (f i j) := by
  cases a <;> cases b <;> first | cases h; done | skip
  rename_i i j
  by_cases z : C i j = true
  · have : some (PyData.int (f i j)) = some d := by rw [← h]; exact (if_pos z).symm
    cases this
    exact ⟨i, j, rfl, rfl, z, rfl⟩
  · have : none = some d := by rw [← h]; exact (if_neg z).symm
    cases this
theorem opD_iIC {K : PySem.W.Frag} {C : Int → Int → Bool} {P : Int → Int → Prop} {f : Int → Int → Int} (hC : ∀ i j, C i j = true → P i j) : OpD K (rI P fun i j => .int (f i j)) (iIC C f) := fun O W H x y dx dy d Q lv rx ry e k => by
  obtain ⟨i, j, rfl, rfl, c, rfl⟩ := iIC_some e
  exact ⟨i, j, rx.int, ry.int, hC i j c, k _ H (.refl H) rfl⟩
noncomputable def fitsI (i : Int) : Bool := decide (-18446744073709551616 < i) && decide (i < 18446744073709551616)
noncomputable def mulD : D → D → Option D := iIC (fun i j => fitsI i || fitsI j) fun i j => i * j
noncomputable def modD : D → D → Option D := iIC (fun _ j => decide (0 < j)) fun i j => i % j
noncomputable def fdivD : D → D → Option D := iIC (fun _ j => decide (0 < j) && decide (j < 1073741824)) fun i j => i / j
theorem fits_mul (i j : Int) (h : (fitsI i || fitsI j) = true) : CMul i j := by
  unfold fitsI at h
  simp at h
  unfold CMul
  rcases h with h | h
  · left; omega
  · right; omega
section
variable {X : Cx}
theorem opD_mod : OpD X.K (rI (fun _ j => 0 < j) fun i j => .int (i % j)) modD := opD_iIC fun i j h => by simpa using h
theorem opD_fdiv : OpD X.K (rI CDiv fun i j => .int (i / j)) fdivD := opD_iIC fun i j h => by
  simp at h
  exact h
noncomputable def addD : D → D → Option D
  | .int i, .int j => some (.int (i + j))
  | .tuple a, .tuple b => if a.length + b.length ≤ big then some (.tuple (a ++ b)) else none
  | .list a, .list b => if a.length + b.length ≤ big then some (.list (a ++ b)) else none
  | _, _ => none
end
end Fn
set_option Elab.async false
set_option linter.all false
set_option maxRecDepth 100000
namespace Fn
open PySem L2 PySem.Spec PyProof.Rows
section
variable {X : Cx}
noncomputable def rCatL (K : PySem.W.Frag) : R2 := fun x y H Q => ∃ l b xs zs, x = .ref l ∧ y = .ref b ∧ SqL K H l xs ∧ SqL K H b zs ∧ xs.length + zs.length ≤ sizeLine ∧ ∀ p, H p = none → Q (.ref p) (upd H p (.lst (xs ++ zs)))
theorem op_catL : OpR X (binaryOp .Add) (rCatL X.K) := by
  intro pins s σ H x y v u Q I rx ry h
  obtain ⟨l, b, xs, zs, rfl, rfl, hH, hB, hz, q⟩ := h
  cases rx
  cases ry
  obtain ⟨its, r, p1, _⟩ := I.list hH
  obtain ⟨its2, r2, p2, _⟩ := I.list hB
  have hl := r.length
  have hl2 := r2.length
  obtain ⟨⟨cls, dd, data, sl⟩, ho, hc, n, hd⟩ := id p1.isList
  obtain ⟨⟨cls2, dd2, data2, sl2⟩, ho2, hc2, n2, hd2⟩ := id p2.isList
  simp only at hc hd hc2 hd2
  subst hc hd hc2 hd2
  have ea : its.toArray ++ its2.toArray = (its ++ its2).toArray := by simp
  refine concat_meets ⟨_, ho, rfl⟩ ⟨_, ho2, rfl⟩ noFill_list_add seq_list_add PySem.F.slot_list_add PySem.F.entry_list_add (PySem.F.args_list_add_2 _ _) (list_addW l b its.toArray its2.toArray n n2 dd dd2 sl sl2 (by simp only [List.size_toArray]; omega)) ⟨ho, ho2, ?_⟩
  rw [ea]
  exact ⟨.ref _, _, I.lnew (t' := s.toks) (r.append r2) (by rw [List.length_append]; omega), rfl, q _ I.fresh⟩
noncomputable def rCatU (K : PySem.W.Frag) : R2 := fun x y H Q => ∃ a b xs ys, x = .ref a ∧ y = .ref b ∧ SqT K H a xs ∧ SqT K H b ys ∧ xs = [] ∧ Q (.ref b) H
theorem op_catU : OpR X (binaryOp .Add) (rCatU X.K) := by
  intro pins s σ H x y v u Q I rx ry h
  obtain ⟨a, b, xs, ys, rfl, rfl, ha, hb, hx, q⟩ := h
  cases rx
  cases ry
  obtain ⟨its, r1, p1, _⟩ := I.tuple ha
  obtain ⟨its2, r2, p2, _⟩ := I.tuple hb
  have hi : its = [] := r1.nil_iff.mpr hx
  obtain ⟨⟨cls, dd, data, sl⟩, ho, hc, n, hd⟩ := id p1
  obtain ⟨⟨cls2, dd2, data2, sl2⟩, ho2, hc2, n2, hd2⟩ := id p2
  simp only at hc hd hc2 hd2
  subst hc hd hc2 hd2
  exact concat_meets ⟨_, ho, rfl⟩ ⟨_, ho2, rfl⟩ noFill_tuple_add seq_tuple_add PySem.F.slot_tuple_add PySem.F.entry_tuple_add (PySem.F.args_tuple_add_2 _ _)
    (tuple_addW0 a b its.toArray its2.toArray n n2 dd dd2 sl sl2 (by simp [hi])) ⟨ho, ho2, ⟨.ref b, H, I, rfl, q⟩⟩
noncomputable def rAddD (K : PySem.W.Frag) : R2 := fun x y H Q => rI0 (fun i j => .int (i + j)) x y H Q ∨ rCatT K x y H Q ∨ rCatU K x y H Q ∨ rCatL K x y H Q
theorem op_addD : OpR X (binaryOp .Add) (rAddD X.K) := op_add.or (op_catT.or (op_catU.or op_catL))
theorem opD_addD {K : PySem.W.Frag} : OpD K (rAddD K) addD := fun O W H x y dx dy d Q lv rx ry e k => by
  cases dx with
  | int i =>
    cases dy with
    | int j => cases e; exact .inl ⟨i, j, rx.int, ry.int, k _ H (.refl H) rfl⟩
    | _ => cases e
  | tuple a =>
    cases dy with
    | tuple b =>
      by_cases z : a.length + b.length ≤ big
      · have e' : some (PyData.tuple (a ++ b)) = some d := by rw [← e]; exact (if_pos z).symm
        cases e'
        obtain ⟨p, xs, rfl, q1, r1⟩ := rx.tup
        obtain ⟨p2, ys, rfl, q2, r2⟩ := ry.tup
        have l1 := r1.length
        have l2 := r2.length
        by_cases hx : xs = []
        · refine .inr (.inr (.inl ⟨p, p2, xs, ys, rfl, rfl, q1, q2, hx, k _ H (.refl H) ?_⟩))
          have ha : a = [] := by rw [hx] at l1; exact List.eq_nil_of_length_eq_zero l1
          subst ha
          rcases ry with ry | ⟨_, _, _, q, _⟩
          · exact ry
          · cases q
        · refine .inr (.inl ⟨p, p2, xs, ys, rfl, rfl, q1, q2, hx, ?_, fun hy => ?_, fun hy p3 np => ?_⟩)
          · rw [← l1, ← l2]; exact big_ok z
          · refine k _ H (.refl H) ?_
            have hb : b = [] := by rw [hy] at l2; exact List.eq_nil_of_length_eq_zero l2
            subst hb
            rw [List.append_nil]
            rcases rx with rx | ⟨_, _, _, q, _⟩
            · exact rx
            · cases q
          · obtain ⟨s2, r3⟩ := new_tup np lv (Reps.append r1 r2)
            exact k _ _ s2 r3
      · have e' : none = some d := by rw [← e]; exact (if_neg z).symm
        cases e'
    | _ => cases e
  | list a =>
    cases dy with
    | list b =>
      by_cases z : a.length + b.length ≤ big
      · have e' : some (PyData.list (a ++ b)) = some d := by rw [← e]; exact (if_pos z).symm
        cases e'
        obtain ⟨p, xs, rfl, q1, r1⟩ := rx.lst
        obtain ⟨p2, ys, rfl, q2, r2⟩ := ry.lst
        refine .inr (.inr (.inr ⟨p, p2, xs, ys, rfl, rfl, q1, q2, ?_, fun p3 np => ?_⟩))
        · rw [← r1.length, ← r2.length]; exact big_ok z
        · obtain ⟨s2, r3⟩ := new_lst np lv (Reps.append r1 r2)
          exact k _ _ s2 r3
      · have e' : none = some d := by rw [← e]; exact (if_neg z).symm
        cases e'
    | _ => cases e
  | none => cases dy <;> cases e
  | bool b => cases dy <;> cases e
  | str x => cases dy <;> cases e
  | dict x => cases dy <;> cases e
noncomputable def ixD : D → D → Option D
  | .list ds, .int i => atI ds i
  | .tuple ds, .int i => atI ds i
  | _, _ => none
theorem atI_reps {K : PySem.W.Frag} {H : Hp} {ds : List D} {xs : List V} {i : Int} {d : D} (r : Reps K H ds xs) (e : atI ds i = some d) : ∃ v, atI xs i = some v ∧ Rep K H d v := by
  unfold atI at e ⊢
  rw [← r.length]
  cases q : ixN ds.length i with
  | none => rw [q] at e; cases e
  | some j => rw [q] at e; exact r.get e
theorem opD_ix {K : PySem.W.Frag} : OpD K (fun x y H Q => rIxL K x y H Q ∨ rIxT K x y H Q) ixD := fun O W H x y dx dy d Q lv rx ry e k => by
  cases dx with
  | list ds =>
    cases dy with
    | int i =>
      obtain ⟨p, xs, rfl, q1, r1⟩ := rx.lst
      obtain ⟨v, ev, rv⟩ := atI_reps r1 e
      exact .inl ⟨p, xs, i, v, rfl, ry.int, q1, ev, k _ H (.refl H) rv⟩
    | _ => cases e
  | tuple ds =>
    cases dy with
    | int i =>
      obtain ⟨p, xs, rfl, q1, r1⟩ := rx.tup
      obtain ⟨v, ev, rv⟩ := atI_reps r1 e
      exact .inr ⟨p, xs, i, v, rfl, ry.int, q1, ev, k _ H (.refl H) rv⟩
    | _ => cases e
  | none => cases dy <;> cases e
  | bool b => cases dy <;> cases e
  | str x => cases dy <;> cases e
  | dict x => cases dy <;> cases e
  | int x => cases dy <;> cases e
theorem ix_D : IxR X (fun x y H Q => rIxL X.K x y H Q ∨ rIxT X.K x y H Q) := ix_list.or ix_tup
noncomputable def len1 : List D → Option D
  | [.list ds] => some (.int ds.length)
  | [.tuple ds] => some (.int ds.length)
  | _ => none
theorem callD_len {K : PySem.W.Frag} : CallD K (fun xs H Q => ∃ p ys, xs = [.ref p] ∧ (SqL K H p ys ∨ SqT K H p ys) ∧ Q (.int ys.length) H) len1 := fun O W H vs ds d Q lv r e k => by
  match ds, e with
  | [.list ds], e =>
    cases e
    obtain ⟨v, t, rfl, r1, rfl⟩ := r
    obtain ⟨p, xs, rfl, q1, r1⟩ := r1.lst
    exact ⟨p, xs, rfl, .inl q1, k _ H (.refl H) (by show V.int _ = V.int _; rw [r1.length])⟩
  | [.tuple ds], e =>
    cases e
    obtain ⟨v, t, rfl, r1, rfl⟩ := r
    obtain ⟨p, xs, rfl, q1, r1⟩ := r1.tup
    exact ⟨p, xs, rfl, .inr q1, k _ H (.refl H) (by show V.int _ = V.int _; rw [r1.length])⟩
noncomputable def tuple1 : List D → Option D
  | [.list ds] => some (.tuple ds)
  | [.tuple ds] => some (.tuple ds)
  | _ => none
theorem callD_tuple {K : PySem.W.Frag} : CallD K (fun xs H Q => ∃ p ys, xs = [.ref p] ∧ ((SqL K H p ys ∧ ∀ l, H l = none → Q (.ref l) (upd H l (.tup ys))) ∨ (SqT K H p ys ∧ Q (.ref p) H))) tuple1 := fun O W H vs ds d Q lv r e k => by
  match ds, e with
  | [.list ds], e =>
    cases e
    obtain ⟨v, t, rfl, r1, rfl⟩ := r
    obtain ⟨p, xs, rfl, q1, r1⟩ := r1.lst
    refine ⟨p, xs, rfl, .inl ⟨q1, fun l nl => ?_⟩⟩
    obtain ⟨s2, r3⟩ := new_tup nl lv r1
    exact k _ _ s2 r3
  | [.tuple ds], e =>
    cases e
    obtain ⟨v, t, rfl, r1, rfl⟩ := r
    obtain ⟨p, xs, rfl, q1, r2⟩ := r1.tup
    refine ⟨p, xs, rfl, .inr ⟨q1, k _ H (.refl H) ?_⟩⟩
    rcases r1 with r1 | ⟨_, _, _, q, _⟩
    · exact r1
    · cases q
noncomputable def int1 : List D → Option D
  | [.int i] => some (.int i)
  | [.bool b] => some (.int (if b then 1 else 0))
  | _ => none
theorem callD_int {K : PySem.W.Frag} : CallD K (fun xs H Q => (∃ i, xs = [.int i] ∧ Q (.int i) H) ∨ ∃ k, xs = [.bl k] ∧ Q (.int (if k then 1 else 0)) H) int1 := fun O W H vs ds d Q lv r e k => by
  match ds, e with
  | [.int i], e =>
    cases e
    obtain ⟨v, t, rfl, r1, rfl⟩ := r
    exact .inl ⟨i, by rw [r1.int], k _ H (.refl H) rfl⟩
  | [.bool b], e =>
    cases e
    obtain ⟨v, t, rfl, r1, rfl⟩ := r
    exact .inr ⟨b, by rw [r1.bl], k _ H (.refl H) rfl⟩
noncomputable def allB : List D → Option Bool
  | [] => some true
  | .bool b :: r => match allB r with
    | some c => some (b && c)
    | none => none
  | _ => none
noncomputable def all1 : List D → Option D
  | [.list ds] => (allB ds).map PyData.bool
  | _ => none
theorem allB_bools : ∀ {ds : List D} {c : Bool}, allB ds = some c → ∃ bs : List Bool, ds = bs.map PyData.bool ∧ c = bs.all id
  | [], c, h => by cases h; exact ⟨[], rfl, rfl⟩
  | .bool b :: r, c, h => by
    unfold allB at h
    cases e : allB r with
    | none => rw [e] at h; cases h
    | some c' =>
      rw [e] at h
      cases h
      obtain ⟨bs, rfl, rfl⟩ := allB_bools e
      exact ⟨b :: bs, rfl, rfl⟩
  | .none :: _, _, h => by cases h
  | .int _ :: _, _, h => by cases h
  | .str _ :: _, _, h => by cases h
  | .list _ :: _, _, h => by cases h
  | .tuple _ :: _, _, h => by cases h
  | .dict _ :: _, _, h => by cases h
theorem bools_vals {K : PySem.W.Frag} {H : Hp} : ∀ {bs : List Bool} {xs : List V}, Reps K H (bs.map PyData.bool) xs → xs = bs.map V.bl
  | [], _, h => h
  | b :: bs, _, h => by
    obtain ⟨v, t, rfl, h1, h2⟩ := h
    rw [bools_vals h2, show v = V.bl b from h1]
    rfl
theorem vals_bools : ∀ {bs : List Bool} {us : List Value}, Vals (bs.map V.bl) us → us = bs.map Value.bool
  | [], _, h => by cases h; rfl
  | b :: bs, _, h => by
    cases h with
    | cons h1 h2 =>
      rw [vals_bools h2, show _ = Value.bool b from h1]
      rfl
theorem range_all (bs : List Bool) : (List.range bs.length).all (fun i => bs.getD i false) = bs.all id := by
  rw [Bool.eq_iff_iff, List.all_eq_true, List.all_eq_true]
  constructor
  · intro h b hb
    obtain ⟨i, hi, e⟩ := List.mem_iff_getElem.mp hb
    have := h i (List.mem_range.mpr hi)
    simp [hi] at this
    rw [← e]; exact this
  · intro h i hi
    have hi' := List.mem_range.mp hi
    simp [hi']
    exact h _ (List.getElem_mem hi')
noncomputable def rAll (K : PySem.W.Frag) : List V → Hp → VK → Prop := fun xs H Q => ∃ (p : Addr) (bs : List Bool), xs = [.ref p] ∧ SqL K H p (bs.map V.bl) ∧ Q (.bl (bs.all id)) H
theorem call_all (hc : X.calm = true) : CallR X (.builtin "all") (rAll X.K) := by
  intro pins s σ H xs us Q I r h
  obtain ⟨p, bs, rfl, hq, q⟩ := h
  obtain ⟨u, rfl, rx⟩ := vals1 r
  cases rx
  obtain ⟨its, rv, pl, hz⟩ := I.list hq
  have ei := vals_bools rv
  subst ei
  have plt : p < s.heap.objs.size := by
    obtain ⟨o, n, e1, _⟩ := pl
    exact Heap.lt_size e1
  refine call_all_walk (wpAny_pyIter_list pl.isList ?_)
  have WW := Walks.list (prog := X.prog) (w := X.w) (A := X.A.in1) (I.ok.hd hc) s.heap.objs.size p (Nat.ne_of_lt plt) (bs.map Value.bool).toArray
  refine ⟨s.heap.objs.size, _, _, _, _, _, fun i => bs.getD i false, rfl, WW, ⟨⟨_, Heap.get?_push_size _ rfl, rfl, rfl⟩, ?_⟩, ?_, ?_⟩
  · exact pl.isList.at fun o e => Heap.get?_push_of_some _ e
  · intro i v s' Q' E' hi hq'
    have : v = Value.bool (bs.getD i false) := by
      have hi' : (bs.map Value.bool)[i]? = some v := by simpa using hi
      rw [List.getElem?_map] at hi'
      cases e : bs[i]? with
      | none => rw [e] at hi'; cases hi'
      | some b =>
        rw [e] at hi'
        cases hi'
        simp [List.getD, e]
    subst this
    exact wpAny_truthy_bool hq'
  · intro h' tk hk
    refine ⟨.bl _, H, ?_, rfl, ?_⟩
    · refine I.kept (t' := tk) fun b o e => hk b o ?_ (Heap.get?_push_of_some _ e)
      intro hb
      have : b = s.heap.objs.size := by simpa using hb
      exact absurd (Heap.lt_size e) (by rw [this]; exact Nat.lt_irrefl _)
    · have e : (List.range (List.map Value.bool bs).toArray.size).all (fun i => bs.getD i false) = bs.all id := by
        rw [List.size_toArray, List.length_map]; exact range_all bs
      rw [e]
      exact q
theorem callD_all {K : PySem.W.Frag} : CallD K (rAll K) all1 := fun O W H vs ds d Q lv r e k => by
  match ds, e with
  | [.list ds], e =>
    obtain ⟨v, t, rfl, r1, rfl⟩ := r
    obtain ⟨p, xs, rfl, q1, r1⟩ := r1.lst
    cases e1 : allB ds with
    | none => simp [all1, e1] at e
    | some c =>
      simp [all1, e1] at e
      subst e
      obtain ⟨bs, rfl, rfl⟩ := allB_bools e1
      rw [bools_vals r1] at q1
      exact ⟨p, bs, rfl, q1, k _ H (.refl H) rfl⟩
end
end Fn
set_option Elab.async false
set_option linter.all false
set_option maxRecDepth 100000
namespace Fn
open PySem L2 PySem.Spec PyProof.Rows
theorem bo_len : bootBuiltins "len" = some (.builtin "len") := by decide +kernel
theorem bo_isinstance : bootBuiltins "isinstance" = some (.builtin "isinstance") := by decide +kernel
theorem bo_all : bootBuiltins "all" = some (.builtin "all") := by decide +kernel
theorem bo_int : bootBuiltins "int" = some (.type "int") := by decide +kernel
theorem bo_bool : bootBuiltins "bool" = some (.type "bool") := by decide +kernel
theorem bo_tuple : bootBuiltins "tuple" = some (.type "tuple") := by decide +kernel
structure DefIn (K : PySem.W.Frag) (mg : Str → Option Value) (x : Str) (st : Stmt) (ps : List Str) (f : Addr) (fd : FuncData) : Prop where
  mg : mg x = some (.ref f)
  fn : Fun K x x st f fd
  bd : Binds K fd ps []
noncomputable def Has (P : Program) (w : World) (K : PySem.W.Frag) (mg : Str → Option Value) (base : Heap) (x : Str) (k : Nat) (G : List D → Option D) : Prop :=
  ∃ f fd ps, mg x = some (.ref f) ∧ PySem.W.keepIn K (.ref f) = true ∧ Binds K fd ps [] ∧ FnOk P w K mg base CX0 k f fd ps (spF K G)
theorem has_of {P : Program} {w : World} {K : PySem.W.Frag} {mg : Str → Option Value} {base : Heap} {x : Str} {st : Stmt} {f : Addr} {fd : FuncData} {N ps : List Str} {k n m : Nat} {b : Env → Option Fl} (F : DefIn K mg x st ps f fd) (S : FnScope N ps (defScope st))
    (hbody : ∀ (cdv : Value) (A : Around) (outer : List PySem.Env) (s : Shared) (H : Hp) (E : XK), Room k (A.deeper (envOfC x (defScope st) s.heap.objs.size f cdv)) → SSs (cxOf CX0 P w K mg base N x (defScope st) f cdv A outer s H E).nox (defBody st) b)
    (hn : ps.length = n := by rfl) (hm : N.length = m := by rfl) : Has P w K mg base x (k + 1) (runF n m b) := by
  subst hn hm
  exact ⟨f, fd, ps, F.mg, F.fn.kp, F.bd, fn_def F.fn S hbody⟩
section
variable {X : Cx} {k : Nat} {x : Str} {p pos : Pos} {e : Expr} {es : List Expr} {g : Env → Option (List D)} {G : List D → Option D}
theorem se_callH (h : Has X.prog X.w X.K X.mg X.base x k G) (hr : Room k X.A) (hg : Gl X x) (ha : SA X (e :: es) g) (hdb : (x == ("__debug__" : Str)) = false := by decide) (he : starEach (e :: es) X.env = (false, eval e X.env) :: starEach es X.env := by rfl) (hpl : (backTo pos (starEach es X.env)).any (·.1) = false := by rfl) :
    SE X (.Call (.Name x p) (e :: es) [] pos) (eCall G g) := by
  obtain ⟨f, fd, ps, h1, h2, h3, h4⟩ := h
  exact se_call h4 hr hg h1 h2 h3 ha hdb he hpl
end
noncomputable def compOkB (N : List Str) (sc scope : Scope) (Nc : List Str) (cap : List (Option Nat)) : Bool :=
  decide (scope.kind = .function) && scope.names.all (fun y => decide (y.2 ≠ .cell)) && scope.names.all (fun y => decide (y.2 ≠ .local) || decide (scope.names.lookup y.1 = some .local)) &&
  scope.names.all (fun y => decide (y.2 ≠ .free) || decide (sc.names.lookup y.1 = some .cell) || decide (sc.names.lookup y.1 = some .free)) && decide (cap.length = Nc.length) &&
  (List.range Nc.length).all (fun i => match cap[i]?, Nc[i]? with | some (some j), some x => decide (N[j]? = some x) && decide (scope.names.lookup x = some .free) | _, _ => true)
theorem comp_ok {X : Cx} {N : List Str} {sc scope : Scope} {Nc : List Str} {cap : List (Option Nat)} (hN : X.N = N) (hsc : X.env.scope = sc) (h : compOkB N sc scope Nc cap = true) : CompOk X scope Nc cap := by
  subst hN hsc
  unfold compOkB at h
  simp only [Bool.and_eq_true, List.all_eq_true, Bool.or_eq_true, decide_eq_true_eq] at h
  obtain ⟨⟨⟨⟨⟨h1, h2⟩, h3⟩, h4⟩, h5⟩, h6⟩ := h
  refine ⟨h1, h2, fun y hy hl => ?_, fun y hy hf => ?_, h5, fun i j x e1 e2 => ?_⟩
  · rcases h3 y hy with q | q
    · exact absurd hl q
    · exact q
  · rcases h4 y hy with (q | q) | q
    · exact absurd hf q
    · exact .inl q
    · exact .inr q
  · have hi : i < Nc.length := (List.getElem?_eq_some_iff.mp e2).1
    have q := h6 i (List.mem_range.mpr hi)
    rw [e1, e2] at q
    simpa using q
noncomputable def eAny (f : Env → Option D) : Env → Option (List D) := fun ρ => match f ρ with
  | some (.list ds) => some ds
  | some (.tuple ds) => some ds
  | _ => none
section
variable {X : Cx} {tg l a b : Expr} {f : Env → Option D} {pos p p1 p2 : Pos}
theorem si_any (h : SE X l f) : SI X tg l (eAny f) := fun pins s σ H R I h_0 => by
  obtain ⟨O, W, ρ, ds, sr, e, k⟩ := h_0
  unfold eAny at e
  cases e1 : f ρ with
  | none => rw [e1] at e; cases e
  | some d =>
    rw [e1] at e
    cases d with
    | list ds' =>
      cases e
      exact si_list h pins s σ H R I ⟨O, W, ρ, ds, sr, by unfold eItems; rw [e1], k⟩
    | tuple ds' =>
      cases e
      exact si_tup h pins s σ H R I ⟨O, W, ρ, ds, sr, by unfold eItemsT; rw [e1], k⟩
    | _ => cases e
noncomputable def sExpr (f : Env → Option D) : Env → Option Fl := fun ρ => match f ρ with
  | some _ => some (.nx ρ)
  | none => none
theorem se_neg {i : Int} {j : Nat} {pc : Pos} : SE X (.UnaryOp .USub (.Constant (.int i) j pc) pos) (eC (.int (-i))) := pe_conv (pe_un un_neg pe_int) fun σ H Q h_0 => by
  obtain ⟨O, W, ρ, d, sr, e, k⟩ := h_0
  have e' : some (PyData.int (-i)) = some d := e
  cases e'
  exact ⟨i, rfl, k _ H (.refl H) rfl⟩
noncomputable def kindD : D → String
  | .none => "NoneType"
  | .bool _ => "bool"
  | .int _ => "int"
  | .str _ => "str"
  | .list _ => "list"
  | .tuple _ => "tuple"
  | .dict _ => "dict"
noncomputable def eInst (q : D → Bool) (f : Env → Option D) : Env → Option D := fun ρ => match f ρ with
  | some d => some (.bool (q d))
  | none => none
noncomputable def rInst (K : PySem.W.Frag) (T : String) (q : D → Bool) : List V → Hp → VK → Prop := fun xs H Q => ∃ x d, xs = [x, .ty T] ∧ Rep K H d x ∧ Q (.bl (q d)) H
theorem call_inst {T : String} {q : D → Bool} (kit : ∀ d, PySem.W.kitOne X.K (.type (kindD d)) (.type T) = some (q d)) : CallR X (.builtin "isinstance") (rInst X.K T q) := by
  intro pins s σ H xs us Q I r h
  obtain ⟨x, d, rfl, rd, qq⟩ := h
  obtain ⟨u, t, rfl, rx, rt⟩ := vals2 r
  cases rt
  have fin : ∀ tk, EP X pins σ Q (.bool (q d)) { s with toks := tk } := fun tk => ⟨.bl (q d), H, I.tok tk, rfl, qq⟩
  cases d with
  | none => cases rd; cases (show u = Value.none from rx); exact PySem.W.kia_one PySem.W.kitx_none I.kIn True.intro (kit .none) (fun z => nomatch z) fin
  | bool b => cases rd; cases (show u = Value.bool b from rx); exact PySem.W.kia_one PySem.W.kitx_bool I.kIn True.intro (kit (.bool b)) (fun z => nomatch z) fin
  | int i => cases rd; obtain ⟨t, rfl⟩ := (show ∃ t, u = Value.int i t from rx); exact PySem.W.kia_one PySem.W.kitx_int I.kIn True.intro (kit (.int i)) (fun z => nomatch z) fin
  | str y => obtain ⟨rfl, _⟩ := rd; obtain ⟨t, rfl⟩ := (show ∃ t, u = Value.str y t from rx); exact PySem.W.kia_one PySem.W.kitx_str I.kIn True.intro (kit (.str y)) (fun z => nomatch z) fin
  | list ds =>
    obtain ⟨a, xs, rfl, sq, _⟩ := rd
    cases (show u = Value.ref a from rx)
    obtain ⟨its, _, ⟨o, n, h1, h2, _⟩, _⟩ := I.list sq
    exact PySem.W.kia_one PySem.W.kitx_list I.kIn ⟨o, h1, h2⟩ (kit (.list ds)) (fun z => nomatch z) fin
  | tuple ds =>
    obtain ⟨a, xs, rfl, sq, _⟩ := rd
    cases (show u = Value.ref a from rx)
    obtain ⟨its, _, ⟨o, h1, h2, _⟩, _⟩ := I.tuple sq
    exact PySem.W.kia_one PySem.W.kitx_tuple I.kIn ⟨o, h1, h2⟩ (kit (.tuple ds)) (fun z => nomatch z) fin
  | dict kvs => exact rd.elim
theorem se_isinst {T : String} {y : Str} {q : D → Bool} (hm : X.mg "isinstance" = none) (hmT : X.mg y = none) (hg : Gl X "isinstance") (hgT : Gl X y) (hv : bootBuiltins y = some (.type T)) (kit : ∀ d, PySem.W.kitOne X.K (.type (kindD d)) (.type T) = some (q d)) (ha : SB X a f)
    (hn : y ≠ "__name__" := by decide) (hdb : (y == ("__debug__" : Str)) = false := by decide)
    (hs : starEach [a, .Name y p2] X.env = [(false, eval a X.env), (false, eval (.Name y p2) X.env)] := by rfl) (hs2 : starEach [.Name y p2] X.env = [(false, eval (.Name y p2) X.env)] := by rfl)
    (hpl : (backTo pos (starEach [.Name y p2] X.env)).any (·.1) = false := by rfl) : SE X (.Call (.Name "isinstance" p1) [a, .Name y p2] [] pos) (eInst q f) := by
  have hb : bootBuiltins "isinstance" = some (.builtin "isinstance") := bo_isinstance
  refine pe_conv (pe_callB (call_inst kit) hg hm hb (pa_cons ha (pa_cons (pe_bltn (v := .ty T) hgT hmT hv rfl hn hdb) pa_nil hs2) (by rw [hs, hs2])) (by decide) (by decide) (by rw [hs, hs2]) hpl) fun σ H Q h_0 => ?_
  obtain ⟨O, W, ρ, d, sr, e, kk⟩ := h_0
  unfold eInst at e
  cases e1 : f ρ with
  | none => rw [e1] at e; cases e
  | some x =>
    rw [e1] at e
    cases e
    exact ⟨O, W, ρ, x, sr, e1, fun v H1 s1 r1 => ⟨v, x, rfl, r1.whole, kk _ H1 s1 rfl⟩⟩
noncomputable def isi_int : D → Bool
  | .int _ => true
  | .bool _ => true
  | _ => false
noncomputable def isi_bool : D → Bool
  | .bool _ => true
  | _ => false
noncomputable def isi_tuple : D → Bool
  | .tuple _ => true
  | _ => false
theorem kit_int (K : PySem.W.Frag) : ∀ d, PySem.W.kitOne K (.type (kindD d)) (.type "int") = some (isi_int d) := fun d => by cases d <;> rfl
theorem kit_bool (K : PySem.W.Frag) : ∀ d, PySem.W.kitOne K (.type (kindD d)) (.type "bool") = some (isi_bool d) := fun d => by cases d <;> rfl
theorem kit_tuple (K : PySem.W.Frag) : ∀ d, PySem.W.kitOne K (.type (kindD d)) (.type "tuple") = some (isi_tuple d) := fun d => by cases d <;> rfl
theorem se_constI {x : Str} {i : Int} (h : ∃ t, X.mg x = some (.int i t)) (hg : Gl X x) (hd : (x == ("__debug__" : Str)) = false := by decide) : SE X (.Name x pos) (eC (.int i)) := by
  obtain ⟨t, h⟩ := h
  exact se_globI hg h hd
theorem se_constT {x : Str} {d : D} (h : ∃ a, X.mg x = some (.ref a) ∧ ∀ H, Rep X.K H d (.ref a)) (hg : Gl X x) (hd : (x == ("__debug__" : Str)) = false := by decide) : SE X (.Name x pos) (eC d) := by
  obtain ⟨a, h1, h2⟩ := h
  exact se_c (pe_glob hg h1 (v := .ref a) rfl hd) h2
end
end Fn
set_option Elab.async false
set_option linter.all false
set_option maxRecDepth 100000
namespace Fn
open PySem L2 PySem.Spec PyProof.Rows
noncomputable def tFO (K : PySem.W.Frag) (f : Env → Option (Option Int)) : TO := fun σ H Q => ∃ O W ρ o, SR K O W ρ σ H ∧ f ρ = some o ∧ ∀ H', Same H H' → Q o H'
noncomputable abbrev SO (X : Cx) (e : Option Expr) (f : Env → Option (Option Int)) : Prop := PO X e (tFO X.K f)
noncomputable def oNone : Env → Option (Option Int) := fun _ => some none
noncomputable def oSome (f : Env → Option D) : Env → Option (Option Int) := fun ρ => match f ρ with
  | some (.int i) => some (some i)
  | _ => none
noncomputable def cutD (ds : List D) (lo hi : Option Int) : List D := (ds.drop (HT.sIx ds.length 0 lo)).take (HT.sIx ds.length ds.length hi - HT.sIx ds.length 0 lo)
noncomputable def slD (d : D) (lo hi : Option Int) : Option D := match d with
  | .tuple ds => some (.tuple (cutD ds lo hi))
  | .list ds => some (.list (cutD ds lo hi))
  | _ => none
noncomputable def eSlice (f : Env → Option D) (l u : Env → Option (Option Int)) : Env → Option D := fun ρ => match f ρ, l ρ, u ρ with
  | some d, some lo, some hi => slD d lo hi
  | _, _, _ => none
theorem eSlice_some {f : Env → Option D} {l u : Env → Option (Option Int)} {ρ : Env} {r : D} (h : eSlice f l u ρ = some r) : ∃ d lo hi, f ρ = some d ∧ l ρ = some lo ∧ u ρ = some hi ∧ slD d lo hi = some r := by
  unfold eSlice at h
  cases e : f ρ with
  | none => rw [e] at h; cases h
  | some d =>
    cases e1 : l ρ with
    | none => rw [e, e1] at h; cases h
    | some lo =>
      cases e2 : u ρ with
      | none => rw [e, e1, e2] at h; cases h
      | some hi => rw [e, e1, e2] at h; exact ⟨d, lo, hi, rfl, rfl, rfl, h⟩
section
variable {prog : Program} {w : World} {A : Around} {E : Value → Shared → Prop} {s : Shared}
theorem getItem_tuple_whole {t sl : Addr} {items : Array Value} {vl vu : Value} {lo hi : Option Int} {Q : Value → Shared → Prop} (ht : IsTup s.heap t items) (hs : s.heap.IsSliceOf sl vl vu .none) (pl : IsPart vl lo) (pu : IsPart vu hi)
    (hw : HT.sIx items.size 0 lo = 0 ∧ HT.sIx items.size items.size hi = items.size) (h : Q (.ref t) s) : wpAny (model prog w) A (getItem (.ref t) (.ref sl)) Q E s := by
  obtain ⟨os, hos, hcs, hds⟩ := id hs
  have hTs : s.TypeIs (.ref sl) "slice" := ⟨os, hos, hcs⟩
  unfold getItem
  try with_reducible refine wpAny_holding ?_
  first | refine wpAny_bind (wpAny_pure ?_) | skip
  refine wpAny_bind (wpAny_sequenceKey ht.typeIs (by decide) ?_)
  refine wpAny_bind (wpAny_callSpecial?_slot (name := Str.ofString "__getitem__") ht.typeIs PyProof.Rows.slot_tuple_getitem
    (wpAny_call_entry PyProof.Rows.slot_tuple_getitem ht.typeIs entry_tuple_getitem ?_ (args_tuple_getitem _ _)))
  show wpAny _ _ (Builtin.Tuple.tupleItemsOf (.ref t) >>= _) _ _ s
  refine wpAny_bind (tupleItemsOf_ ht ?_)
  refine wpAny_bind (wpAny_typeOf hTs ?_)
  rw [if_pos (by decide)]
  refine wpAny_bind (HT.sliceApplied_gen hs pl pu ?_)
  rw [hw.1, hw.2]
  show wpAny _ _ (if (((0 : Nat) : Int) == 0 && (1 : Int) == 1 && (items.size - 0) == items.size) = true then _ else _) _ _ s
  rw [if_pos (by simp)]
  obtain ⟨o, ho, hc, n, hd⟩ := id ht
  unfold Builtin.Tuple.tupleIsExact
  refine wpAny_bind (wpAny_bind (wpAny_typeOf ht.typeIs (wpAny_pure ?_)))
  rw [if_pos (by decide)]
  first
    | exact wpAny_bind (wpAny_rule (wpAny_bind (wpAny_pure ⟨_, rfl, wpAny_pure h⟩)))
    | exact wpAny_bind (wpAny_rule (wpAny_pure ⟨_, rfl, wpAny_pure h⟩))
end
section
variable {X : Cx} {a : Expr} {f : Env → Option D} {pos p2 : Pos} {lo hi : Option Expr} {l u : Env → Option (Option Int)}
theorem so_none : SO X none oNone := fun pins s σ H Q I h_0 => by
  obtain ⟨O, W, ρ, o, sr, e, k⟩ := h_0
  cases e
  exact po_none pins s σ H Q I (k H (.refl H))
theorem so_some {e : Expr} (h : SE X e f) : SO X (some e) (oSome f) := fun pins s σ H Q I h_0 => by
  obtain ⟨O, W, ρ, o, sr, e, k⟩ := h_0
  unfold oSome at e
  cases e1 : f ρ with
  | none => rw [e1] at e; cases e
  | some d =>
    rw [e1] at e
    cases d with
    | int i =>
      cases e
      exact po_some h pins s σ H Q I ⟨O, W, ρ, .int i, sr, e1, fun v H' s' r => ⟨i, r, k H' s'⟩⟩
    | _ => cases e
noncomputable def rSlW (K : PySem.W.Frag) : V → Option Int → Option Int → Hp → VK → Prop := fun x lo hi H Q => ∃ a xs, x = .ref a ∧ SqT K H a xs ∧ (HT.sIx xs.length 0 lo = 0 ∧ HT.sIx xs.length xs.length hi = xs.length) ∧ Q (.ref a) H
theorem sl_whole : SlR X (rSlW X.K) := by
  intro pins s σ H x v vl vu lo hi sl Q I rx hs pl pu h
  obtain ⟨a, xs, rfl, hx, hw, q⟩ := h
  cases rx
  obtain ⟨its, r, ht, hz⟩ := I.tuple hx
  have hlen : its.toArray.size = xs.length := by rw [List.size_toArray]; exact r.length.symm
  refine ⟨"tuple", _, PyProof.Rows.slot_tuple_getitem.lookup, ht.typeIs, ?_⟩
  exact getItem_tuple_whole ht hs pl pu (by rw [hlen]; exact hw) ⟨.ref a, H, I, rfl, q⟩
theorem cut_reps {K : PySem.W.Frag} {H : Hp} {ds : List D} {xs : List V} (r : Reps K H ds xs) (lo hi : Option Int) : Reps K H (cutD ds lo hi) (cutV xs lo hi) := by
  unfold cutD cutV
  rw [r.length]
  exact (r.drop _).take _
theorem cut_whole {ds : List D} {lo hi : Option Int} (h : HT.sIx ds.length 0 lo = 0 ∧ HT.sIx ds.length ds.length hi = ds.length) : cutD ds lo hi = ds := by
  unfold cutD
  rw [h.1, h.2]
  simp
theorem se_slice (ha : SB X a f) (hl : SO X lo l) (hu : SO X hi u) : SE X (.Subscript a (.Slice lo hi none p2) pos) (eSlice f l u) := pe_conv (pe_slice (sl_whole.or (sl_tup.or sl_list)) ha hl hu) fun σ H Q h_0 => by
  obtain ⟨O, W, ρ, d, sr, e, k⟩ := h_0
  obtain ⟨x, lo', hi', e1, e2, e3, e4⟩ := eSlice_some e
  refine ⟨O, W, ρ, x, sr, e1, fun v H1 s1 r1 => ⟨O, W, ρ, lo', sr.mono s1, e2, fun H2 s2 => ⟨O, W, ρ, hi', sr.mono (s1.trans s2), e3, fun H3 s3 => ?_⟩⟩⟩
  have r3 := r1.mono (s2.trans s3)
  have sm := (s1.trans s2).trans s3
  have lv := (sr.mono sm).live
  cases x with
  | tuple ds =>
    cases e4
    obtain ⟨p, xs, rfl, q1, rr⟩ := r3.tup
    by_cases hw : HT.sIx xs.length 0 lo' = 0 ∧ HT.sIx xs.length xs.length hi' = xs.length
    · refine .inl ⟨p, xs, rfl, q1, hw, k _ H3 sm ?_⟩
      rw [cut_whole (by rw [rr.length]; exact hw)]
      rcases r3 with r3 | ⟨_, _, _, q, _⟩
      · exact r3
      · cases q
    · refine .inr (.inl ⟨p, xs, rfl, q1, hw, fun p3 np => ?_⟩)
      obtain ⟨s4, r4⟩ := new_tup np lv (cut_reps rr lo' hi')
      exact k _ _ (sm.trans s4) r4
  | list ds =>
    cases e4
    obtain ⟨p, xs, rfl, q1, rr⟩ := r3.lst
    refine .inr (.inr ⟨p, xs, rfl, q1, fun p3 np => ?_⟩)
    obtain ⟨s4, r4⟩ := new_lst np lv (cut_reps rr lo' hi')
    exact k _ _ (sm.trans s4) r4
  | _ => cases e4
end
section
variable {prog : Program} {w : World} {A : Around} {E : Value → Shared → Prop} {s : Shared}
end
section
variable {X : Cx} {a : Expr} {f : Env → Option D} {pos p2 pu pc : Pos} {j : Nat}
end
end Fn
set_option Elab.async false
set_option linter.all false
set_option maxRecDepth 100000
namespace Fn
open PySem L2 PySem.Spec PyProof.Rows
noncomputable def intsL : List D → Option (List Int)
  | [] => some []
  | .int i :: r => match intsL r with
    | some ns => some (i :: ns)
    | none => none
  | _ => none
noncomputable def intsD : D → Option (List Int)
  | .tuple ds => intsL ds
  | _ => none
noncomputable def keysD : List D → Option (List (List Int))
  | [] => some []
  | d :: r => match intsD d, keysD r with
    | some k, some ks => some (k :: ks)
    | _, _ => none
noncomputable def insK (k : List Int) : List (List Int) → List (List Int)
  | [] => [k]
  | x :: r => if HT.lexLt k x = true then k :: x :: r else if k = x then x :: r else x :: insK k r
noncomputable def sortK (ks : List (List Int)) : List (List Int) := ks.foldr insK []
noncomputable def tupK (k : List Int) : D := .tuple (k.map PyData.int)
theorem ss_exprX {X : Cx} {e : Expr} {f : Env → Option D} {pos : Pos} (he : SE X e f) (hs : swapsWith e none pos.line X.env = pure false := by rfl) : SS X (.Expr e pos) (sExpr f) := ss_expr he hs
end Fn
set_option Elab.async false
set_option linter.all false
set_option maxRecDepth 100000
namespace Fn
open PySem L2 PySem.Spec PyProof.Rows
theorem def_ex {K : PySem.W.Frag} {h : Heap} {mg : Str → Option Value} {x : Str} {st : Stmt} {ps : List Str} {f : Addr} {oc : Value} {od an : Option Addr} {osl : Array (Option Value)} {kV doc pm cdv ct : Value} (X : K.In h) (G : h.Ns mainGlobals mg)
    (a : PySem.W.nsIn K mainGlobals x = some (some (.ref f)))
    (l : K.lookup f = some ⟨oc, od, .func (PySem.W.fnOf x x (defArgs st) (defBody st) (defScope st) .none kV doc pm an cdv ct), osl⟩) (c : PySem.W.codeIn K cdv x = true) (k : PySem.W.keepIn K (.ref f) = true)
    (hb : ∀ (kV doc pm : Value) (an : Option Addr) (cdv ct : Value) (us : List Value), us.length = ps.length → bindArgs (PySem.W.fnOf x x (defArgs st) (defBody st) (defScope st) .none kV doc pm an cdv ct) ⟨us, []⟩ = pure (ps.zip us)) :
    ∃ f fd, DefIn K mg x st ps f fd :=
  ⟨f, _, PySem.W.mg_of X G a, fun_mk l c k, (fun_mk l c k).binds hb⟩
theorem constI_ex {K : PySem.W.Frag} {h : Heap} {mg : Str → Option Value} {x : Str} {i : Int} {t : Tok} (X : K.In h) (G : h.Ns mainGlobals mg) (a : PySem.W.nsIn K mainGlobals x = some (some (.int i t))) : ∃ t, mg x = some (.int i t) := ⟨t, PySem.W.mg_of X G a⟩
theorem constT_ex {K : PySem.W.Frag} {h : Heap} {mg : Str → Option Value} {x : Str} {ds : List D} {xs : List V} {a : Addr} {its : Array Value} {n : Nat} {od : Option Addr} {sl : Array (Option Value)} (X : K.In h) (G : h.Ns mainGlobals mg)
    (e : PySem.W.nsIn K mainGlobals x = some (some (.ref a))) (l : K.lookup a = some ⟨.type "tuple", od, .seq its n, sl⟩) (hv : Vals xs its.toList) (hr : ∀ H, Reps K H ds xs) (hz : its.size ≤ sizeLine) : ∃ a, mg x = some (.ref a) ∧ ∀ H, Rep K H (.tuple ds) (.ref a) :=
  ⟨a, PySem.W.mg_of X G e, fun H => ⟨a, xs, rfl, .inr ⟨_, its, n, l, rfl, rfl, hz, hv⟩, hr H⟩⟩
theorem ints_reps {K : PySem.W.Frag} {H : Hp} : ∀ ns : List Int, Reps K H (ns.map PyData.int) (ns.map V.int)
  | [] => rfl
  | n :: ns => ⟨_, _, rfl, rfl, ints_reps ns⟩
theorem law_sp {K : PySem.W.Frag} {G : List D → Option D} {H : Hp} {a : Addr} {ns : List Int} {E : XK} (hS : SqL K H a (ns.map V.int)) (h : G [.list (ns.map PyData.int)] = some (.bool true)) : spF K G [.ref a] H (fun v _ => v = .bl true) E :=
  ⟨[], [.list (ns.map PyData.int)], .bool true, by simp, ⟨.ref a, [], rfl, ⟨a, ns.map V.int, rfl, by rw [hid_nil]; exact hS, ints_reps ns⟩, rfl⟩, h, fun v H' _ r => r⟩
end Fn
set_option Elab.async false
set_option linter.all false
set_option maxRecDepth 100000
namespace Fn
open PySem L2 PySem.Spec PyProof.Rows
section
variable {X : Cx} {a b c e l tg : Expr} {es : List Expr} {f f' f'' : Env → Option D} {g : Env → Option (List D)} {G : List D → Option D} {pos p p1 p2 q1 q2 : Pos} {k : Nat} {x : Str}
theorem se_add (ha : SB X a f) (hb : SB X b f') : SE X (.BinOp a .Add b pos) (e2 addD f f') := se_op op_addD opD_addD ha hb
theorem se_sub (ha : SB X a f) (hb : SB X b f') : SE X (.BinOp a .Sub b pos) (e2 (iI fun i j => i - j) f f') := se_op op_sub opD_iI ha hb
theorem se_mul (ha : SB X a f) (hb : SB X b f') : SE X (.BinOp a .Mult b pos) (e2 mulD f f') := se_op op_mul (opD_iIC fits_mul) ha hb
theorem se_mod (ha : SB X a f) (hb : SB X b f') : SE X (.BinOp a .Mod b pos) (e2 modD f f') := se_op op_mod opD_mod ha hb
theorem se_fdiv (ha : SB X a f) (hb : SB X b f') : SE X (.BinOp a .FloorDiv b pos) (e2 fdivD f f') := se_op op_fdiv opD_fdiv ha hb
noncomputable def ltI : D → D → Option D := cI fun i j => decide (i < j)
noncomputable def leI : D → D → Option D := cI fun i j => decide (i ≤ j)
noncomputable def gtI : D → D → Option D := cI fun i j => decide (j < i)
noncomputable def geI : D → D → Option D := cI fun i j => decide (j ≤ i)
theorem se_le (ha : SB X a f) (hb : SB X b f') : SE X (.Compare a [.LtE] [b] pos) (e2 leI f f') := se_cmp op_le opD_cI ha hb (nomark _)
theorem se_gt (ha : SB X a f) (hb : SB X b f') : SE X (.Compare a [.Gt] [b] pos) (e2 gtI f f') := se_cmp op_gt opD_cI ha hb (nomark _)
theorem st_gt (ha : SB X a f) (hb : SB X b f') : ST X (.Compare a [.Gt] [b] pos) (eT (e2 gtI f f')) := st_cmp op_gt opD_cI ha hb (nomark _)
theorem se_eq (hr : Room k X.A) (ha : SB X a f) (hb : SB X b f') : SE X (.Compare a [.Eq] [b] pos) (e2 eqD f f') := se_cmp (op_eqD hr) (opD_rD eqD_bool) ha hb (nomark _)
theorem st_eq (hr : Room k X.A) (ha : SB X a f) (hb : SB X b f') : ST X (.Compare a [.Eq] [b] pos) (eT (e2 eqD f f')) := st_cmp (op_eqD hr) (opD_rD eqD_bool) ha hb (nomark _)
theorem se_ne (hr : Room k X.A) (ha : SB X a f) (hb : SB X b f') : SE X (.Compare a [.NotEq] [b] pos) (e2 neD f f') := se_cmp (op_neD hr) (opD_rD neD_bool) ha hb (nomark _)
theorem st_ne (hr : Room k X.A) (ha : SB X a f) (hb : SB X b f') : ST X (.Compare a [.NotEq] [b] pos) (eT (e2 neD f f')) := st_cmp (op_neD hr) (opD_rD neD_bool) ha hb (nomark _)
theorem se_in (hr : Room k X.A) (ha : SB X a f) (hb : SB X b f') (hm : behindInMarks .In b = false := by with_unfolding_all rfl) : SE X (.Compare a [.In] [b] pos) (e2 inD f f') := se_cmp (op_inD hr) (opD_rD inD_bool) ha hb hm
theorem st_in (hr : Room k X.A) (ha : SB X a f) (hb : SB X b f') (hm : behindInMarks .In b = false := by with_unfolding_all rfl) : ST X (.Compare a [.In] [b] pos) (eT (e2 inD f f')) := st_cmp (op_inD hr) (opD_rD inD_bool) ha hb hm
theorem se_le_le (ha : SB X a f) (hb : SB X b f') (hc : SB X c f'') (hm : lastMarks [.LtE, .LtE] [b, c] = false := by with_unfolding_all rfl) : SE X (.Compare a [.LtE, .LtE] [b, c] pos) (e3 leI leI f f' f'') := se_chain op_le opD_cI op_le opD_cI ha hb hc hm
theorem se_at (ha : SB X a f) (hb : SB X b f') (hs : PlainIx b := by intro _ _; rfl) : SE X (.Subscript a b pos) (e2 ixD f f') := se_ix ix_D opD_ix ha hb hs
theorem se_isi_int (hm : X.mg "isinstance" = none) (hmT : X.mg "int" = none) (ha : SB X a f) (hg : Gl X "isinstance" := by rfl) (hgT : Gl X "int" := by rfl)
    (hs : starEach [a, .Name "int" p2] X.env = [(false, eval a X.env), (false, eval (.Name "int" p2) X.env)] := by rfl) (hs2 : starEach [.Name "int" p2] X.env = [(false, eval (.Name "int" p2) X.env)] := by rfl)
    (hpl : (backTo pos (starEach [.Name "int" p2] X.env)).any (·.1) = false := by rfl) : SE X (.Call (.Name "isinstance" p1) [a, .Name "int" p2] [] pos) (eInst isi_int f) := se_isinst hm hmT hg hgT bo_int (kit_int _) ha (by decide) (by decide) hs hs2 hpl
theorem se_isi_bool (hm : X.mg "isinstance" = none) (hmT : X.mg "bool" = none) (ha : SB X a f) (hg : Gl X "isinstance" := by rfl) (hgT : Gl X "bool" := by rfl)
    (hs : starEach [a, .Name "bool" p2] X.env = [(false, eval a X.env), (false, eval (.Name "bool" p2) X.env)] := by rfl) (hs2 : starEach [.Name "bool" p2] X.env = [(false, eval (.Name "bool" p2) X.env)] := by rfl)
    (hpl : (backTo pos (starEach [.Name "bool" p2] X.env)).any (·.1) = false := by rfl) : SE X (.Call (.Name "isinstance" p1) [a, .Name "bool" p2] [] pos) (eInst isi_bool f) := se_isinst hm hmT hg hgT bo_bool (kit_bool _) ha (by decide) (by decide) hs hs2 hpl
theorem se_isi_tuple (hm : X.mg "isinstance" = none) (hmT : X.mg "tuple" = none) (ha : SB X a f) (hg : Gl X "isinstance" := by rfl) (hgT : Gl X "tuple" := by rfl)
    (hs : starEach [a, .Name "tuple" p2] X.env = [(false, eval a X.env), (false, eval (.Name "tuple" p2) X.env)] := by rfl) (hs2 : starEach [.Name "tuple" p2] X.env = [(false, eval (.Name "tuple" p2) X.env)] := by rfl)
    (hpl : (backTo pos (starEach [.Name "tuple" p2] X.env)).any (·.1) = false := by rfl) : SE X (.Call (.Name "isinstance" p1) [a, .Name "tuple" p2] [] pos) (eInst isi_tuple f) := se_isinst hm hmT hg hgT bo_tuple (kit_tuple _) ha (by decide) (by decide) hs hs2 hpl
theorem se_len (hm : X.mg "len" = none) (ha : SAB X (e :: es) g) (hg : Gl X "len" := by rfl) (he : starEach (e :: es) X.env = (false, eval e X.env) :: starEach es X.env := by rfl) (hpl : (backTo pos (starEach es X.env)).any (·.1) = false := by rfl) : SE X (.Call (.Name "len" p) (e :: es) [] pos) (eCall len1 g) := se_callB call_len_seq callD_len hg hm bo_len ha (by decide) (by decide) he hpl
theorem se_all (hm : X.mg "all" = none) (hc : X.calm = true) (ha : SAB X (e :: es) g) (hg : Gl X "all" := by rfl) (he : starEach (e :: es) X.env = (false, eval e X.env) :: starEach es X.env := by rfl) (hpl : (backTo pos (starEach es X.env)).any (·.1) = false := by rfl) : SE X (.Call (.Name "all" p) (e :: es) [] pos) (eCall all1 g) := se_callB (call_all hc) callD_all hg hm bo_all ha (by decide) (by decide) he hpl
theorem se_tuple (hm : X.mg "tuple" = none) (ha : SAB X (e :: es) g) (hg : Gl X "tuple" := by rfl) (he : starEach (e :: es) X.env = (false, eval e X.env) :: starEach es X.env := by rfl) (hpl : (backTo pos (starEach es X.env)).any (·.1) = false := by rfl) : SE X (.Call (.Name "tuple" p) (e :: es) [] pos) (eCall tuple1 g) := se_callTy call_tuple_of callD_tuple hg hm bo_tuple ha (by decide) (by decide) he hpl
theorem se_intc (hm : X.mg "int" = none) (ha : SAB X (e :: es) g) (hg : Gl X "int" := by rfl) (he : starEach (e :: es) X.env = (false, eval e X.env) :: starEach es X.env := by rfl) (hpl : (backTo pos (starEach es X.env)).any (·.1) = false := by rfl) : SE X (.Call (.Name "int" p) (e :: es) [] pos) (eCall int1 g) := se_callTy call_int1 callD_int hg hm bo_int ha (by decide) (by decide) he hpl
theorem se_callG (h : Has X.prog X.w X.K X.mg X.base x k G) (hr : Room k X.A) (ha : SA X (e :: es) g) (hg : Gl X x := by rfl) (hdb : (x == ("__debug__" : Str)) = false := by decide) (he : starEach (e :: es) X.env = (false, eval e X.env) :: starEach es X.env := by rfl) (hpl : (backTo pos (starEach es X.env)).any (·.1) = false := by rfl) :
    SE X (.Call (.Name x p) (e :: es) [] pos) (eCall G g) := se_callH h hr hg ha hdb he hpl
theorem se_kI {i : Int} (h : ∃ t, X.mg x = some (.int i t)) (hg : Gl X x := by rfl) (hd : (x == ("__debug__" : Str)) = false := by decide) : SE X (.Name x pos) (eC (.int i)) := se_constI h hg hd
theorem se_kT {d : D} (h : ∃ a, X.mg x = some (.ref a) ∧ ∀ H, Rep X.K H d (.ref a)) (hg : Gl X x := by rfl) (hd : (x == ("__debug__" : Str)) = false := by decide) : SE X (.Name x pos) (eC d) := se_constT h hg hd
theorem si_rng1 (hm : X.mg "range" = none) (ha : SE X a f) (hg : Gl X "range" := by rfl) (hs : starEach [a] X.env = [(false, eval a X.env)] := by rfl) : SI X tg (.Call (.Name "range" p) [a] [] pos) (eRng1 f) := si_range1 hg hm ha hs
theorem si_rng2 (hm : X.mg "range" = none) (ha : SE X a f) (hb : SE X b f') (hg : Gl X "range" := by rfl) (hs : starEach [a, b] X.env = [(false, eval a X.env), (false, eval b X.env)] := by rfl) (hs2 : starEach [b] X.env = [(false, eval b X.env)] := by rfl) : SI X tg (.Call (.Name "range" p) [a, b] [] pos) (eRng2 f f') := si_range2 hg hm ha hb hs hs2
theorem sg_var {i : Nat} (hN : X.N.Nodup) (hi : X.N[i]? = some x := by rfl) (hx : Loc X.env.scope x := by first | exact Or.inl rfl | exact Or.inr rfl) (hf : X.fn x = true ∨ X.env.scope.names.lookup x = some .local := by first | exact .inl rfl | exact .inr rfl | assumption) : SG X (.Name x pos) (gVar i) := sg_name hN hi hx hf
theorem sgs_var {i : Nat} {is : List Nat} (hN : X.N.Nodup) (h2 : PGs X es (tFGs X.K is)) (hi : X.N[i]? = some x := by rfl) (hx : Loc X.env.scope x := by first | exact Or.inl rfl | exact Or.inr rfl) (hf : X.fn x = true ∨ X.env.scope.names.lookup x = some .local := by first | exact .inl rfl | exact .inr rfl | assumption)
    (hs : (assignEach (.Name x p :: es) X.env).map (·.2) = assign (.Name x p) X.env :: (assignEach es X.env).map (·.2) := by rfl) : PGs X (.Name x p :: es) (tFGs X.K (i :: is)) := sgs_cons hN hi hx h2 hf hs
theorem ss_asg {i : Nat} {pos' : Pos} (hN : X.N.Nodup) (he : SE X e f) (hi : X.N[i]? = some x := by rfl) (hx : Loc X.env.scope x := by first | exact Or.inl rfl | exact Or.inr rfl) (hs : swapsWith e (some (.Name x pos')) pos.line X.env = pure false := by rfl) (hf : X.fn x = true ∨ X.env.scope.names.lookup x = some .local := by first | exact .inl rfl | exact .inr rfl | assumption) :
    SS X (.Assign [.Name x pos'] e pos) (sSet i f) := ss_set hN hi hx he hs hf
theorem ss_asgN {i : Nat} {pos' : Pos} {n : Env → Option (List D)} (hN : X.N.Nodup) (he : SN X e n) (hi : X.N[i]? = some x := by rfl) (hx : Loc X.env.scope x := by first | exact Or.inl rfl | exact Or.inr rfl) (hs : swapsWith e (some (.Name x pos')) pos.line X.env = pure false := by rfl) (hf : X.fn x = true ∨ X.env.scope.names.lookup x = some .local := by first | exact .inl rfl | exact .inr rfl | assumption) :
    SS X (.Assign [.Name x pos'] e pos) (sSetN i n) := ss_setN hN hi hx he hs hf
theorem ss_push {i : Nat} {apos cpos : Pos} (he : SE X e f) (hN : X.N[i]? = some x := by rfl) (hv : Vis X.env.scope x := by first | exact Or.inl rfl | exact Or.inr (Or.inl rfl)) (hs : starEach [e] X.env = [(false, eval e X.env)] := by rfl)
    (hsw : swapsWith (.Call (.Attribute (.Name x p) "append" apos) [e] [] cpos) none pos.line X.env = pure false := by rfl)
    (hbase : attributeBase (.Name x p) "append" X.env (eval (.Name x p) X.env) = eval (.Name x p) X.env := by rfl)
    (hfew : ((backTo cpos (starEach [e] X.env)).all (fun x => !x.1) && (backToKw cpos (keywordEach [] X.env)).all (fun x => x.1.isSome)
      && decide ([e].length + ([] : List Keyword).length + (if ([] : List Keyword).isEmpty then 0 else 1) < 30)) = true := by rfl)
    (hline : (apos.endLine == cpos.line) = true := by rfl) (hplain : (backTo cpos (starEach [] X.env)).any (·.1) = false := by rfl)
    (hd : (x == ("__debug__" : Str)) = false := by decide) (hcd : (x == ("__classdict__" : Str)) = false := by decide) :
    SS X (.Expr (.Call (.Attribute (.Name x p) "append" apos) [e] [] cpos) pos) (sApp i f) := ss_app hN hv he hs hsw hbase hfew hline hplain hd hcd
end
section
variable {X : Cx} {tg iter elt : Expr} {ifs : List Expr} {scope : Scope} {Nc : List Str} {cap : List (Option Nat)} {pos py spos : Pos} {f : Env → Option (List D)} {g : Env → D → Option Env} {t : Env → Option Bool} {fe : Env → Option D} {x : Str} {i : Nat}
theorem ss_asgC (hN : X.N.Nodup) (C : CompOk X scope Nc cap) (tame : Tame cap g) (hc : X.calm = true) (hi : SI X tg iter f)
    (hb : ∀ cl C s₀ H₀ ex, SG (cxComp X Nc scope cl C s₀ H₀ ex) tg g ∧ Tests (cxComp X Nc scope cl C s₀ H₀ ex) ifs t ∧ SE (cxComp X Nc scope cl C s₀ H₀ ex) elt fe)
    (hi' : X.N[i]? = some x := by rfl) (hx : Loc X.env.scope x := by first | exact Or.inl rfl | exact Or.inr rfl)
    (hsw : swapsWith (.ListComp elt [⟨tg, iter, ifs, 0⟩] scope pos) (some (.Name x py)) spos.line X.env = pure true := by rfl)
    (hf : X.fn x = true ∨ X.env.scope.names.lookup x = some .local := by first | exact .inl rfl | exact .inr rfl | assumption)
    (hs : ∀ x, foldedSetIterable iter X.env x = pure x := by intro _; rfl) : SS X (.Assign [.Name x py] (.ListComp elt [⟨tg, iter, ifs, 0⟩] scope pos) spos) (sSet i (eComp f cap g t fe)) := ss_setC hN hi' hx C tame hc hi hb hsw hf hs
end
end Fn
set_option Elab.async false
set_option linter.all false
set_option maxRecDepth 100000
namespace Fn
open PySem L2 PySem.Spec PyProof.Rows
open AutoSeq1 (wpAny_loadPart')
theorem noFill_tuple_mul : fillsNumberSlot (.type "tuple") "mul" = pure false :=
  PySem.fillsNumberSlot_seq (id := "tuple.__mul__") (r := some (.builtin "tuple.__rmul__")) F.slot_tuple_mul.lookup (by decide +kernel) F.slot_tuple_rmul.lookup (by decide +kernel)
theorem repeat_tuple : seqRepeat? (.type "tuple") = pure (some (.builtin "tuple.__mul__")) := by
  unfold seqRepeat?
  rw [PySem.seqSlot_of (T := "tuple") (name := "__mul__") (id := "tuple.__mul__") F.slot_tuple_mul.lookup (by decide +kernel), PySem.seqSlot_of (T := "tuple") (name := "__rmul__") (id := "tuple.__rmul__") F.slot_tuple_rmul.lookup (by decide +kernel)]
  rfl
theorem int_rmul_tuple (a : Int) (t : Tok) (l : Addr) (items : Array Value) (n : Nat) (dd : Option Addr) (sl : Array (Option Value)) :
    Meets (Builtin.«int.__rmul__» ⟨[.int a t, .ref l], []⟩) (fun _ R s => s.heap.get? l = some { cls := .type "tuple", dict := dd, data := .seq items n, slots := sl } ∧ R (.ok (.ret Value.notImplemented)) s) :=
  .of_wp fun prog w A R s h => by obtain ⟨hp, g, d, tk, os⟩ := s; obtain ⟨hl, h⟩ := h; wp_walk; exact ⟨_, rfl, h⟩
theorem tuple_mulW (l : Addr) (items : Array Value) (n : Nat) (dd : Option Addr) (sl : Array (Option Value)) (k : Int) (u : Tok) (hc0 : ¬(decide (k < -(2 ^ 63)) || decide (k ≥ 2 ^ 63)) = true) (hc1 : ¬(items.isEmpty || k == 1) = true) (hc2 : ¬(decide (k ≤ 0) || items.isEmpty) = true)
    (hc3 : ¬((items.size : Int) * k > (2 ^ 63 - 1) / 8)) (hc4 : ¬Builtin.Tuple.tupleTooMany ((items.size : Int) * k) = true) (hz : (List.foldl (fun x1 x2 => x1 ++ x2) #[] (List.replicate k.toNat items)).size ≤ sizeLine) :
    Meets (Builtin.«tuple.__mul__» ⟨[.ref l, .int k u], []⟩) (fun _ R s => s.heap.get? l = some { cls := .type "tuple", dict := dd, data := .seq items n, slots := sl } ∧ R (.ok (.ret (Value.ref s.heap.objs.size))) { s with heap := s.heap.push { cls := Value.type "tuple", data := Data.seq (List.foldl (fun x1 x2 => x1 ++ x2) #[] (List.replicate k.toNat items)) }, toks := s.toks }) :=
  .of_wp fun prog w A R s h => by
    obtain ⟨hp, g, d, tk, os⟩ := s; obtain ⟨hl, h⟩ := h
    have f1 := AutoSeq1.idx_int; have f2 := AutoSeq1.sub_tuple_tuple
    wp_walk using wpAny_loadPart' hl
    rw [if_neg hc0]
    wp_walk using wpAny_loadPart' hl
    rw [if_neg hc3]
    wp_walk using wpAny_loadPart' hl
    all_goals first
      | exact ⟨_, rfl, h⟩
      | (refine wpAny_ite_false (decide_eq_false (Nat.not_lt.mpr hz)) ?_; wp_walk; exact ⟨_, rfl, h⟩)
section
variable {X : Cx}
noncomputable def rMulT (K : PySem.W.Frag) : R2 := fun x y H Q => ∃ a xs k, x = .ref a ∧ y = .int k ∧ SqT K H a xs ∧ 2 ≤ k ∧ k ≤ 100 ∧ 1 ≤ xs.length ∧ xs.length ≤ 100 ∧ ∀ p, H p = none → Q (.ref p) (upd H p (.tup (List.replicate k.toNat xs).flatten))
theorem op_mulT : OpR X (binaryOp .Mult) (rMulT X.K) := by
  intro pins s σ H x y v u Q I rx ry h
  obtain ⟨a, xs, k, rfl, rfl, hH, h1, h2, h3, h4, q⟩ := h
  cases rx
  obtain ⟨t, rfl⟩ := ry
  obtain ⟨its, r, p1, _⟩ := I.tuple hH
  have hl := r.length
  obtain ⟨⟨cls, dd, data, sl⟩, ho, hc, n, hd⟩ := id p1
  simp only at hc hd
  subst hc hd
  have hnew : List.foldl (fun x1 x2 => x1 ++ x2) #[] (List.replicate k.toNat its.toArray) = (List.replicate k.toNat its).flatten.toArray := by
    have := foldl_rep its k.toNat []
    rw [List.nil_append] at this
    exact this
  have hlen : (List.replicate k.toNat its).flatten.length ≤ 10000 := by
    rw [len_rep]
    have : k.toNat ≤ 100 := by omega
    exact Nat.le_trans (Nat.mul_le_mul this (by omega : its.length ≤ 100)) (by decide)
  have hne : its.toArray.isEmpty = false := by
    cases its with
    | nil => exfalso; have hz : xs.length = 0 := hl; omega
    | cons _ _ => rfl
  have hprod : ((its.toArray.size : Nat) : Int) * k ≤ 10000 := by
    have e1 : ((its.toArray.size : Nat) : Int) ≤ 100 := by rw [List.size_toArray]; omega
    have e0 : (0 : Int) ≤ ((its.toArray.size : Nat) : Int) := Int.natCast_nonneg _
    calc ((its.toArray.size : Nat) : Int) * k ≤ 100 * k := Int.mul_le_mul_of_nonneg_right e1 (by omega)
      _ ≤ 100 * 100 := Int.mul_le_mul_of_nonneg_left h2 (by decide)
      _ = 10000 := by decide
  refine wpAny_binaryOp_repeat_ref (T := "tuple") (U := "int") (by decide) ⟨_, ho, rfl⟩ (fun s' => typeIs_int s' k t) noFill_tuple_mul F.fills_int_mul F.slot_int_rmul repeat_tuple F.slot_int_index.lookup
    (call_meets F.slot_int_rmul (typeIs_int s k t) F.entry_int_rmul (F.args_int_rmul_2 _ _) (int_rmul_tuple k t a its.toArray n dd sl)
      ⟨ho, rfl, ⟨_, ho, rfl⟩, call_meets F.slot_tuple_mul ⟨_, ho, rfl⟩ F.entry_tuple_mul (F.args_tuple_mul_2 _ _) (tuple_mulW a its.toArray n dd sl k t ?_ ?_ ?_ ?_ ?_ ?_) ⟨ho, ?_⟩⟩)
  · intro z
    simp at z
    omega
  · rw [hne]
    intro z
    simp at z
    omega
  · rw [hne]
    intro z
    simp at z
    omega
  · intro z
    have : (10000 : Int) < (2 ^ 63 - 1) / 8 := by decide
    omega
  · intro z
    unfold Builtin.Tuple.tupleTooMany at z
    rw [sizeLine_eq] at z
    simp at z
    rw [List.size_toArray] at hprod
    omega
  · rw [hnew, List.size_toArray, sizeLine_eq]
    omega
  · rw [hnew]
    refine ⟨.ref s.heap.objs.size, _, I.laid (t' := s.toks) (o := .tup (List.replicate k.toNat xs).flatten) (fun b ob q => Heap.get?_push_of_some _ q) (Nat.le_refl _) ?_, rfl, q _ (I.hok.fresh (Nat.le_refl _))⟩
    refine ⟨?_, _, r.rep k.toNat, IsTup.new _ _⟩
    rw [len_rep, hl, ← len_rep, sizeLine_eq]
    omega
end
end Fn
set_option Elab.async false
set_option linter.all false
set_option maxRecDepth 100000
namespace Fn
open PySem L2 PySem.Spec PyProof.Rows
noncomputable abbrev Cell := Option (Int × Value)
noncomputable def rankB (bs : List Bool) (j : Nat) : Nat := (bs.take j).countP id
noncomputable def placeB (bs : List Bool) : Array Nat := ((List.range 8).filter fun j => bs.getD j false).toArray
theorem below_all : ∀ b0 b1 b2 b3 b4 b5 b6 b7 : Bool, ∀ j : Fin 8,
    SetTable.below (placeB [b0, b1, b2, b3, b4, b5, b6, b7]) j.1 = rankB [b0, b1, b2, b3, b4, b5, b6, b7] j.1
    ∧ ((placeB [b0, b1, b2, b3, b4, b5, b6, b7])[rankB [b0, b1, b2, b3, b4, b5, b6, b7] j.1]? == some j.1) = [b0, b1, b2, b3, b4, b5, b6, b7].getD j.1 false
    ∧ ([b0, b1, b2, b3, b4, b5, b6, b7].getD j.1 false = false → SetTable.insertAt (placeB [b0, b1, b2, b3, b4, b5, b6, b7]) (rankB [b0, b1, b2, b3, b4, b5, b6, b7] j.1) j.1 = placeB ([b0, b1, b2, b3, b4, b5, b6, b7].set j.1 true))
    ∧ (placeB [b0, b1, b2, b3, b4, b5, b6, b7]).size = [b0, b1, b2, b3, b4, b5, b6, b7].countP id := by decide +kernel
theorem eight {α : Type} : ∀ l : List α, l.length = 8 → ∃ a b c d e f g h, l = [a, b, c, d, e, f, g, h]
  := by
  intro l hl
  have nx : ∀ {n : Nat} {r : List α}, r.length = n + 1 → ∃ a t, r = a :: t ∧ t.length = n := by
    intro n r h
    cases r with
    | nil => cases h
    | cons a t => exact ⟨a, t, rfl, Nat.succ.inj h⟩
  obtain ⟨a, t, rfl, h1⟩ := nx hl
  obtain ⟨b, t, rfl, h2⟩ := nx h1
  obtain ⟨c, t, rfl, h3⟩ := nx h2
  obtain ⟨d, t, rfl, h4⟩ := nx h3
  obtain ⟨e, t, rfl, h5⟩ := nx h4
  obtain ⟨f, t, rfl, h6⟩ := nx h5
  obtain ⟨g, t, rfl, h7⟩ := nx h6
  obtain ⟨h, t, rfl, h8⟩ := nx h7
  cases t with
  | nil => exact ⟨a, b, c, d, e, f, g, h, rfl⟩
  | cons _ _ => cases h8
structure Bits (bs : List Bool) (j : Nat) : Prop where
  below : SetTable.below (placeB bs) j = rankB bs j
  at_ : ((placeB bs)[rankB bs j]? == some j) = bs.getD j false
  ins : bs.getD j false = false → SetTable.insertAt (placeB bs) (rankB bs j) j = placeB (bs.set j true)
  size : (placeB bs).size = bs.countP id
theorem bits_of {bs : List Bool} (h : bs.length = 8) {j : Nat} (hj : j < 8) : Bits bs j := by
  obtain ⟨a, b, c, d, e, f, g, i, rfl⟩ := eight bs h
  obtain ⟨x1, x2, x3, x4⟩ := below_all a b c d e f g i ⟨j, hj⟩
  exact ⟨x1, x2, x3, x4⟩
noncomputable def bitsT (T : List Cell) : List Bool := T.map Option.isSome
noncomputable def esT (T : List Cell) : List (Int × Value) := T.filterMap id
theorem es_at : ∀ (T : List Cell) (j : Nat) (e : Int × Value), T[j]? = some (some e) → (esT T)[rankB (bitsT T) j]? = some e
  | [], j, e, h => by simp at h
  | none :: T, 0, e, h => by simp at h
  | some x :: T, 0, e, h => by simp at h; subst h; rfl
  | none :: T, j + 1, e, h => by
    have := es_at T j e h
    show (esT T)[((false :: bitsT T).take (j + 1)).countP id]? = some e
    rw [List.take_succ_cons, List.countP_cons]; exact this
  | some x :: T, j + 1, e, h => by
    have := es_at T j e h
    show (x :: esT T)[((true :: bitsT T).take (j + 1)).countP id]? = some e
    rw [List.take_succ_cons, List.countP_cons]
    simp only [id, if_true, List.getElem?_cons_succ]; exact this
theorem es_len : ∀ (T : List Cell), (esT T).length = (bitsT T).countP id
  | [] => rfl
  | none :: T => by
    have := es_len T
    show (esT T).length = (false :: bitsT T).countP id
    rw [List.countP_cons]; exact this
  | some x :: T => by
    have := es_len T
    show (x :: esT T).length = (true :: bitsT T).countP id
    rw [List.countP_cons, List.length_cons, this]; rfl
theorem es_ins : ∀ (T : List Cell) (j : Nat) (e : Int × Value), T[j]? = some none → (esT T).take (rankB (bitsT T) j) ++ e :: (esT T).drop (rankB (bitsT T) j) = esT (T.set j (some e))
  | [], j, e, h => by simp at h
  | some x :: T, 0, e, h => by simp at h
  | none :: T, 0, e, h => rfl
  | none :: T, j + 1, e, h => by
    have := es_ins T j e h
    show (esT T).take (((false :: bitsT T).take (j + 1)).countP id) ++ e :: (esT T).drop (((false :: bitsT T).take (j + 1)).countP id) = esT (T.set j (some e))
    rw [List.take_succ_cons, List.countP_cons]; exact this
  | some x :: T, j + 1, e, h => by
    have := es_ins T j e h
    show (x :: esT T).take (((true :: bitsT T).take (j + 1)).countP id) ++ e :: (x :: esT T).drop (((true :: bitsT T).take (j + 1)).countP id) = x :: esT (T.set j (some e))
    rw [List.take_succ_cons, List.countP_cons]
    simp only [id, if_true, List.take_succ_cons, List.drop_succ_cons, List.cons_append]
    rw [← this]; rfl
theorem bits_get (T : List Cell) (j : Nat) : (bitsT T).getD j false = ((T[j]?).getD none).isSome := by
  unfold bitsT
  rw [List.getD_eq_getElem?_getD, List.getElem?_map]
  cases T[j]? <;> rfl
theorem bits_set (T : List Cell) (j : Nat) (e : Int × Value) : bitsT (T.set j (some e)) = (bitsT T).set j true := by
  unfold bitsT; rw [List.map_set]; rfl
theorem mem_es {T : List Cell} {e : Int × Value} : e ∈ esT T ↔ some e ∈ T := by
  unfold esT; simp
noncomputable def way (h : Int) : Nat → Nat × Nat
  | 0 => (SetTable.bits h % 8, SetTable.bits h)
  | n + 1 => SetTable.leap 7 (way h n).1 (way h n).2
theorem way_lt (h : Int) : ∀ n, (way h n).1 < 8
  | 0 => Nat.mod_lt _ (by decide)
  | n + 1 => Nat.mod_lt _ (by decide)
theorem way_div (h : Int) : ∀ n, (way h n).2 = SetTable.bits h / 32 ^ n
  | 0 => by rw [Nat.pow_zero, Nat.div_one]; rfl
  | n + 1 => by
    show (way h n).2 / 32 = _
    rw [way_div h n, Nat.div_div_eq_div_mul, Nat.pow_succ]
theorem way_late (h : Int) (n : Nat) : (way h (13 + n)).2 = 0 := by
  rw [way_div]
  apply Nat.div_eq_of_lt
  have e1 : SetTable.bits h < 2 ^ 64 := by
    unfold SetTable.bits
    have := Int.emod_lt_of_pos h (by decide : (0 : Int) < 2 ^ 64)
    have := Int.emod_nonneg h (by decide : (2 ^ 64 : Int) ≠ 0)
    omega
  have e2 : (32 : Nat) ^ 13 ≤ 32 ^ (13 + n) := Nat.pow_le_pow_right (by decide) (by omega)
  have e3 : (2 : Nat) ^ 64 < 32 ^ 13 := by decide
  omega
noncomputable def turn8 (i : Nat) : Nat → Nat
  | 0 => i
  | n + 1 => (turn8 i n * 5 + 1) % 8
theorem way_turn (h : Int) : ∀ n, (way h (13 + n)).1 = turn8 (way h 13).1 n
  | 0 => rfl
  | n + 1 => by
    show ((way h (13 + n)).1 * 5 + 1 + (way h (13 + n)).2 / 32) % 8 = _
    rw [way_late, way_turn h n]; rfl
theorem turn_all : ∀ i j : Fin 8, ∃ n : Fin 8, turn8 i.1 n.1 = j.1 := by decide +kernel
theorem way_all (h : Int) {j : Nat} (hj : j < 8) : ∃ n, n ≤ 20 ∧ (way h n).1 = j := by
  obtain ⟨n, e⟩ := turn_all ⟨_, way_lt h 13⟩ ⟨j, hj⟩
  exact ⟨13 + n.1, by have := n.2; omega, by rw [way_turn]; exact e⟩
end Fn
set_option Elab.async false
set_option linter.all false
set_option maxRecDepth 100000
namespace Fn
open PySem L2 PySem.Spec PyProof.Rows
structure TabOf (t : SetTable) (T : List Cell) : Prop where
  len : T.length = 8
  mask : t.mask = 7
  place : t.place = placeB (bitsT T)
  dummies : t.dummies = #[]
noncomputable def cellAt (T : List Cell) (j : Nat) : Cell := (T[j]?).getD none
theorem TabOf.bits_len {t : SetTable} {T : List Cell} (X : TabOf t T) : (bitsT T).length = 8 := by unfold bitsT; rw [List.length_map]; exact X.len
theorem cell_some {T : List Cell} {j : Nat} {e : Int × Value} (h : cellAt T j = some e) : T[j]? = some (some e) := by
  unfold cellAt at h
  cases q : T[j]? with
  | none => rw [q] at h; cases h
  | some c => rw [q] at h; exact congrArg some h
theorem cell_none {T : List Cell} {j : Nat} (hl : T.length = 8) (hj : j < 8) (h : cellAt T j = none) : T[j]? = some none := by
  unfold cellAt at h
  cases q : T[j]? with
  | none => rw [List.getElem?_eq_none_iff] at q; omega
  | some c => rw [q] at h; exact congrArg some h
theorem has_empty (j : Nat) : SetTable.has #[] j = false := by
  unfold SetTable.has; simp
theorem TabOf.slot_live {t : SetTable} {T : List Cell} (X : TabOf t T) {j : Nat} (hj : j < 8) {e : Int × Value} (h : cellAt T j = some e) : t.slot j = .live (rankB (bitsT T) j) := by
  have B := bits_of X.bits_len hj
  unfold SetTable.slot
  rw [X.place, B.below]
  dsimp only
  rw [B.at_, bits_get]
  rw [show (T[j]?).getD none = some e from h]
  rfl
theorem TabOf.slot_empty {t : SetTable} {T : List Cell} (X : TabOf t T) {j : Nat} (hj : j < 8) (h : cellAt T j = none) : t.slot j = .empty := by
  have B := bits_of X.bits_len hj
  unfold SetTable.slot
  rw [X.place, B.below]
  dsimp only
  rw [B.at_, bits_get, X.dummies, has_empty]
  rw [show (T[j]?).getD none = none from h]
  rfl
theorem TabOf.size {t : SetTable} {T : List Cell} (X : TabOf t T) : t.place.size = (esT T).length := by
  rw [X.place, (bits_of X.bits_len (j := 0) (by decide)).size, es_len]
theorem TabOf.put {t : SetTable} {T : List Cell} (X : TabOf t T) {j : Nat} (hj : j < 8) (h : cellAt T j = none) (e : Int × Value) :
    TabOf (t.put j).1 (T.set j (some e)) ∧ SetTable.insertAt (esT T).toArray (t.put j).2 e = (esT (T.set j (some e))).toArray
      ∧ (t.put j).1.led = t.led ∧ (t.put j).1.plain = t.plain ∧ (t.put j).1.moves = t.moves := by
  have B := bits_of X.bits_len hj
  have hn := cell_none X.len hj h
  have hb : (bitsT T).getD j false = false := by rw [bits_get]; rw [show (T[j]?).getD none = none from h]; rfl
  unfold SetTable.put
  dsimp only
  rw [X.place, B.below, X.dummies, has_empty]
  refine ⟨⟨by rw [List.length_set]; exact X.len, X.mask, ?_, rfl⟩, ?_, rfl, rfl, rfl⟩
  · show SetTable.insertAt (placeB (bitsT T)) (rankB (bitsT T) j) j = _
    rw [B.ins hb, bits_set]
  · apply Array.toList_inj.mp
    rw [SetTable.toList_insertAt]
    exact es_ins T j e hn
noncomputable def pr (h : Int) (n : Nat) : SetTable.Probe := { j := (way h n).1, more := 0, i := (way h n).1, perturb := (way h n).2, dummy := none }
theorem runEnd7 (i : Nat) : SetTable.runEnd 7 i = i := by unfold SetTable.runEnd; rw [if_neg (by omega)]
theorem TabOf.start {t : SetTable} {T : List Cell} (X : TabOf t T) (h : Int) : t.probeStart h = pr h 0 := by
  unfold SetTable.probeStart pr
  rw [X.mask]
  dsimp only
  rw [runEnd7, Nat.sub_self]
  rfl
theorem TabOf.advance {t : SetTable} {T : List Cell} (X : TabOf t T) (h : Int) (n : Nat) : t.advance (pr h n) = pr h (n + 1) := by
  unfold SetTable.advance
  rw [if_neg (by show ¬ (0 > 0); decide), X.mask]
  show ({ pr h n with j := (way h (n+1)).1, more := SetTable.runEnd 7 (way h (n+1)).1 - (way h (n+1)).1, i := (way h (n+1)).1, perturb := (way h (n+1)).2 } : SetTable.Probe) = _
  rw [runEnd7, Nat.sub_self]
  rfl
theorem TabOf.go {t : SetTable} {T : List Cell} (X : TabOf t T) (hashAt : Nat → Int) (hh : ∀ j e, j < 8 → cellAt T j = some e → hashAt (rankB (bitsT T) j) = e.1) (h : Int) (e0 : Nat) (he : cellAt T (way h e0).1 = none) :
    ∀ (fuel n : Nat), n ≤ e0 → e0 < n + fuel →
      ∃ m, n ≤ m ∧ m ≤ e0 ∧ (∀ l, n ≤ l → l < m → ∃ e, cellAt T (way h l).1 = some e ∧ e.1 ≠ h) ∧
        ((cellAt T (way h m).1 = none ∧ SetTable.probe.go t hashAt h fuel (pr h n) = some (.empty (way h m).1 none))
        ∨ (∃ v, cellAt T (way h m).1 = some (h, v) ∧ SetTable.probe.go t hashAt h fuel (pr h n) = some (.candidate (way h m).1 (rankB (bitsT T) (way h m).1) (pr h (m + 1)))))
  | 0, n, h1, h2 => by omega
  | fuel + 1, n, h1, h2 => by
    cases q : cellAt T (way h n).1 with
    | none =>
      refine ⟨n, Nat.le_refl _, h1, fun l a b => absurd b (by omega), .inl ⟨q, ?_⟩⟩
      unfold SetTable.probe.go
      rw [show (pr h n).j = (way h n).1 from rfl, X.slot_empty (way_lt h n) q]
      rfl
    | some e =>
      by_cases z : e.1 = h
      · refine ⟨n, Nat.le_refl _, h1, fun l a b => absurd b (by omega), .inr ⟨e.2, by rw [q, ← z], ?_⟩⟩
        unfold SetTable.probe.go
        rw [show (pr h n).j = (way h n).1 from rfl, X.slot_live (way_lt h n) q]
        dsimp only
        rw [hh _ _ (way_lt h n) q, if_pos (by rw [z]; exact beq_self_eq_true h), X.advance]
      · have hne : n ≠ e0 := fun x => by subst x; rw [he] at q; cases q
        obtain ⟨m, a1, a2, a3, a4⟩ := X.go hashAt hh h e0 he fuel (n + 1) (by omega) (by omega)
        have hstep : SetTable.probe.go t hashAt h (fuel + 1) (pr h n) = SetTable.probe.go t hashAt h fuel (pr h (n + 1)) := by
          conv => lhs; unfold SetTable.probe.go
          rw [show (pr h n).j = (way h n).1 from rfl, X.slot_live (way_lt h n) q]
          dsimp only
          rw [hh _ _ (way_lt h n) q, if_neg (by rw [beq_iff_eq]; exact z), X.advance]
        refine ⟨m, by omega, a2, fun l b1 b2 => ?_, by rw [hstep]; exact a4⟩
        by_cases c : l = n
        · subst c; exact ⟨e, q, z⟩
        · exact a3 l (by omega) b2
theorem first_free (T : List Cell) (h : Int) (hf : ∃ j, j < 8 ∧ cellAt T j = none) : ∃ e0, e0 ≤ 20 ∧ cellAt T (way h e0).1 = none ∧ ∀ l, l < e0 → ∃ e, cellAt T (way h l).1 = some e := by
  obtain ⟨j, hj, hn⟩ := hf
  obtain ⟨n, a, b⟩ := way_all h hj
  have : ∀ k, cellAt T (way h k).1 = none → ∃ e0, e0 ≤ k ∧ cellAt T (way h e0).1 = none ∧ ∀ l, l < e0 → ∃ e, cellAt T (way h l).1 = some e := by
    intro k
    induction k using Nat.strongRecOn with
    | _ k ih =>
      intro hk
      by_cases z : ∃ l, l < k ∧ cellAt T (way h l).1 = none
      · obtain ⟨l, l1, l2⟩ := z
        obtain ⟨e0, c1, c2, c3⟩ := ih l l1 l2
        exact ⟨e0, by omega, c2, c3⟩
      · refine ⟨k, Nat.le_refl _, hk, fun l hl => ?_⟩
        cases q : cellAt T (way h l).1 with
        | none => exact absurd ⟨l, hl, q⟩ z
        | some e => exact ⟨e, rfl⟩
  obtain ⟨e0, c1, c2, c3⟩ := this n (by rw [b]; exact hn)
  exact ⟨e0, by omega, c2, c3⟩
end Fn
set_option Elab.async false
set_option linter.all false
set_option maxRecDepth 100000
namespace Fn
open PySem L2 PySem.Spec PyProof.Rows
section
variable {prog : Program} {w : World} {A : Around} {E : Value → Shared → Prop} {s : Shared}
theorem of_int_class (n : Nat) {k : Int} {v : Value} (h : (intKind prog w).is k v = true) : ofAClassStatement n v = pure false := by
  obtain ⟨t, rfl⟩ := Value.isInt_shape h
  cases n <;> rfl
theorem items_int {ks : List Int} {vs : List Value} (h : ItemsAre (intKind prog w) ks vs) : ∀ v ∈ vs, ∃ k, (intKind prog w).is k v = true := by
  induction h with
  | nil => intro v hv; simp at hv
  | cons h1 _ ih =>
    intro v hv
    rcases List.mem_cons.mp hv with rfl | hv
    · exact ⟨_, h1⟩
    · exact ih v hv
theorem wp_ofAClass {ks : List Int} {a : Addr} {Q : Bool → Shared → Prop} (hk : IsTupleKey (intKind prog w) s.heap ks a) (h : Q false s) : wpAny (model prog w) A (ofAClassStatement 8 (.ref a)) Q E s := by
  have hT := hk.typeIs
  obtain ⟨o, items, n, ho, _, hd, hi⟩ := hk
  unfold ofAClassStatement
  refine wpAny_bind (wpAny_typeOf hT ?_)
  show wpAny _ _ ((if ("tuple" == "tuple") = true then pure true else isSubtype (.type "tuple") (.type "tuple")) >>= _) _ _ s
  rw [if_pos (beq_self_eq_true _)]
  refine wpAny_bind (wpAny_pure ?_)
  simp only [Bool.not_true, Bool.false_eq_true, if_false]
  refine wpAny_bind (wpAny_seqItems ho hd ?_)
  refine wpAny_bind ?_
  show wpAny _ _ (forIn items _ _) _ _ s
  rw [← Array.forIn_toList]
  refine wpAny_forIn_list _ (fun rest r s' => r.1 = none ∧ s' = s ∧ ∀ v ∈ rest, ∃ k, (intKind prog w).is k v = true) _ ?_ ?_ _ _ ⟨rfl, rfl, items_int hi⟩
  · rintro v rest r s' ⟨hr, rfl, hall⟩
    obtain ⟨k, hk⟩ := hall v List.mem_cons_self
    rw [of_int_class _ hk]
    refine wpAny_bind (wpAny_pure ?_)
    simp only [Bool.false_eq_true, if_false]
    exact wpAny_pure ⟨rfl, rfl, fun u hu' => hall u (List.mem_cons_of_mem _ hu')⟩
  · rintro ⟨r1, r2⟩ s' ⟨hr, rfl, _⟩
    simp only at hr
    subst hr
    exact wpAny_pure h
theorem hash_int_value (n : Nat) {k : Int} {v : Value} (h : (intKind prog w).is k v = true) : hashByValue n v = pure true := by
  obtain ⟨t, rfl⟩ := Value.isInt_shape h
  cases n <;> rfl
theorem wp_hashByValue {ks : List Int} {a : Addr} {Q : Bool → Shared → Prop} (hk : IsTupleKey (intKind prog w) s.heap ks a) (h : Q true s) : wpAny (model prog w) A (hashByValue 8 (.ref a)) Q E s := by
  have hT := hk.typeIs
  obtain ⟨o, items, n, ho, _, hd, hi⟩ := hk
  unfold hashByValue
  refine wpAny_bind (wpAny_specialOf hT F.slot_tuple_hash.lookup ?_)
  show wpAny _ _ (seqItems? (.ref a) >>= _) _ _ s
  refine wpAny_bind (wpAny_seqItems ho hd ?_)
  refine wpAny_bind ?_
  show wpAny _ _ (forIn items _ _) _ _ s
  rw [← Array.forIn_toList]
  refine wpAny_forIn_list _ (fun rest r s' => r.1 = none ∧ s' = s ∧ ∀ v ∈ rest, ∃ k, (intKind prog w).is k v = true) _ ?_ ?_ _ _ ⟨rfl, rfl, items_int hi⟩
  · rintro v rest r s' ⟨hr, rfl, hall⟩
    obtain ⟨k, hk⟩ := hall v List.mem_cons_self
    rw [hash_int_value _ hk]
    refine wpAny_bind (wpAny_pure ?_)
    simp only [Bool.not_true, Bool.false_eq_true, if_false]
    exact wpAny_pure ⟨rfl, rfl, fun u hu' => hall u (List.mem_cons_of_mem _ hu')⟩
  · rintro ⟨r1, r2⟩ s' ⟨hr, rfl, _⟩
    simp only at hr
    subst hr
    exact wpAny_pure h
theorem wp_seen {ks : List Int} {a : Addr} {ys : List Value} {Q : Bool → Shared → Prop} (hk : IsTupleKey (intKind prog w) s.heap ks a) (hy : ∀ y ∈ ys, ∃ k b, y = .ref b ∧ IsTupleKey (intKind prog w) s.heap k b) (h : Q false s) : wpAny (model prog w) A (searchCouldBeSeen (.ref a) ys) Q E s := by
  unfold searchCouldBeSeen
  refine wpAny_bind ?_
  show wpAny _ _ (forIn ys _ _) _ _ s
  refine wpAny_forIn_list _ (fun rest r s' => r.1 = none ∧ s' = s ∧ ∀ y ∈ rest, ∃ k b, y = .ref b ∧ IsTupleKey (intKind prog w) s.heap k b) _ ?_ ?_ _ _ ⟨rfl, rfl, hy⟩
  · rintro v rest r s' ⟨hr, rfl, hall⟩
    obtain ⟨k, b, rfl, hb⟩ := hall v List.mem_cons_self
    have hz : ∀ u ∈ rest, ∃ k b, u = .ref b ∧ IsTupleKey (intKind prog w) s'.heap k b := fun u hu' => hall u (List.mem_cons_of_mem _ hu')
    dsimp only
    by_cases q : (a == b || carriedByValue (.ref a) && carriedByValue (.ref b)) = true
    · rw [if_pos q]
      exact wpAny_pure ⟨rfl, rfl, hz⟩
    · rw [if_neg q]
      refine wpAny_bind (wpAny_eqIsQuiet_tuple hk ?_)
      simp only [Bool.not_true, Bool.false_eq_true, if_false]
      refine wpAny_bind (wpAny_eqIsQuiet_tuple hb ?_)
      simp only [Bool.not_true, Bool.false_eq_true, if_false]
      refine wpAny_bind (wp_ofAClass hk ?_)
      simp only [Bool.false_eq_true, if_false]
      refine wpAny_bind (wp_ofAClass hb ?_)
      simp only [Bool.false_eq_true, if_false]
      exact wpAny_pure ⟨rfl, rfl, hz⟩
  · rintro ⟨r1, r2⟩ s' ⟨hr, rfl, _⟩
    simp only at hr
    subst hr
    exact wpAny_pure h
end
end Fn
set_option Elab.async false
set_option linter.all false
set_option maxRecDepth 100000
namespace Fn
open PySem L2 PySem.Spec PyProof.Rows
section
variable {prog : Program} {w : World} {A : Around} {E : Value → Shared → Prop} {s : Shared}
noncomputable def KeyCell (prog : Program) (w : World) (h : Heap) (e : Int × Value) (k : List Int) : Prop := ∃ b, e.2 = .ref b ∧ IsTupleKey (intKind prog w) h k b ∧ e.1 = tupleKeyHash (intKind prog w) k
theorem wp_same_ref {M : Model} {b : Addr} {Q : Bool → Shared → Prop} (h : Q true s) : wpAny M A (isSame (.ref b) (.ref b)) Q E s := by
  unfold isSame
  dsimp only
  rw [if_pos (beq_self_eq_true b)]
  exact wpAny_pure h
theorem wp_search {a : Addr} {o : Obj} {T : List Cell} {ep : Nat} {t : SetTable} {b : Addr} {k : List Int} {e0 : Nat} {Q : SetFound → Shared → Prop}
    (hu : A.units < cLine)
    (ho : s.heap.get? a = some o) (hd : o.data = .set (esT T).toArray ep t) (X : TabOf t T) (hf : t.fits (esT T).toArray.size = true)
    (hK : ∀ e ∈ esT T, ∃ k, KeyCell prog w s.heap e k) (hk : IsTupleKey (intKind prog w) s.heap k b)
    (he0 : e0 ≤ 20) (he : cellAt T (way (tupleKeyHash (intKind prog w) k) e0).1 = none)
    (hfirst : ∀ l, l < e0 → ∃ e, cellAt T (way (tupleKeyHash (intKind prog w) k) l).1 = some e)
    (hno : (∀ l, l < e0 → ∀ e, cellAt T (way (tupleKeyHash (intKind prog w) k) l).1 = some e → ¬ KeyCell prog w s.heap e k) → Q (.free (way (tupleKeyHash (intKind prog w) k) e0).1 false) s)
    (hyes : (∃ e ∈ esT T, KeyCell prog w s.heap e k) → Q (.there none) s) :
    ∀ (fuel n : Nat) (st : Option SetTable.Probe), n ≤ e0 → e0 < n + fuel → st.getD (t.probeStart (tupleKeyHash (intKind prog w) k)) = pr (tupleKeyHash (intKind prog w) k) n →
      (∀ l, l < n → ∀ e, cellAt T (way (tupleKeyHash (intKind prog w) k) l).1 = some e → ¬ KeyCell prog w s.heap e k) →
      wpAny (model prog w) A (setSearchFrom a (.ref b) (tupleKeyHash (intKind prog w) k) true fuel st) Q E s := by
  generalize hh : tupleKeyHash (intKind prog w) k = h at *
  intro fuel
  induction fuel with
  | zero => intro n st h1 h2; omega
  | succ fuel ih =>
    intro n st h1 h2 hst hpast
    unfold setSearchFrom
    refine wpAny_bind (wpAny_setState_of ho hd hf ?_)
    dsimp only
    have hg : t.gaveWay = false := by unfold SetTable.gaveWay; rw [X.mask]; rfl
    rw [hg, hst]
    simp only [Bool.false_eq_true, if_false]
    generalize hq : SetTable.probe t _ h (pr h n) = r
    obtain ⟨m, a1, a2, a3, a4⟩ := X.go (fun i => ((esT T).toArray[i]?.map (·.1)).getD 0) (fun j e hj hc => by
      have := es_at T j e (cell_some hc)
      show (((esT T).toArray[rankB (bitsT T) j]?).map (·.1)).getD 0 = e.1
      rw [List.getElem?_toArray, this]; rfl) h e0 he (10 * SetTable.turns t.mask) n h1 (by
        rw [X.mask]; unfold SetTable.turns; omega)
    have hpast' : ∀ l, l < m → ∀ e, cellAt T (way h l).1 = some e → ¬ KeyCell prog w s.heap e k := by
      intro l hl e hc hkc
      by_cases z : l < n
      · exact hpast l z e hc hkc
      · obtain ⟨e', c1, c2⟩ := a3 l (by omega) hl
        rw [hc] at c1
        cases c1
        obtain ⟨_, _, _, q⟩ := hkc
        exact c2 (by rw [q, hh])
    rcases a4 with ⟨c1, c2⟩ | ⟨v, c1, c2⟩
    · have hr : r = some (.empty (way h m).1 none) := hq.symm.trans c2
      subst hr
      dsimp only
      have hm : m = e0 := by
        by_cases z : m = e0
        · exact z
        · obtain ⟨e, q⟩ := hfirst m (by omega)
          rw [c1] at q; cases q
      subst hm
      exact wpAny_pure (hno hpast')
    · have hr : r = some (.candidate (way h m).1 (rankB (bitsT T) (way h m).1) (pr h (m + 1))) := hq.symm.trans c2
      subst hr
      dsimp only
      have hes : (esT T).toArray[rankB (bitsT T) (way h m).1]? = some (h, v) := by
        rw [List.getElem?_toArray]; exact es_at T _ _ (cell_some c1)
      have hmem : (h, v) ∈ esT T := mem_es.mpr (List.mem_of_getElem? (cell_some c1))
      obtain ⟨k', b', hv, hk', hh'⟩ := hK _ hmem
      simp only at hv hh'
      subst hv
      have hne : m ≠ e0 := fun z => by subst z; rw [he] at c1; cases c1
      rw [hes]
      dsimp only
      cases hled : t.led with
      | true =>
        simp only [Bool.not_true]
        simp only [Bool.false_eq_true, if_false]
        refine wpAny_bind (wpAny_holding (wpAny_eqBool_tuple hu hk' hk ?_))
        refine wpAny_bind (wpAny_setState_of ho hd hf ?_)
        by_cases z : k' = k
        · rw [decide_eq_true z]
          simp only [Bool.and_self, if_true]
          subst z
          exact wpAny_pure (hyes ⟨_, hmem, b', rfl, hk', hh'⟩)
        · rw [decide_eq_false z]
          simp only [Bool.and_false, Bool.false_eq_true, if_false]
          have hsm : t.sameMemory t.moves t.mask = some true := by unfold SetTable.sameMemory; rw [if_pos (beq_self_eq_true _)]
          rw [hsm]
          dsimp only
          rw [if_pos rfl, X.slot_live (way_lt h m) c1]
          dsimp only
          rw [hes]
          dsimp only
          refine wpAny_bind (wp_same_ref ?_)
          refine wpAny_bind (wpAny_pure ?_)
          simp only [if_true]
          refine ih (m + 1) _ (by omega) (by omega) rfl ?_
          intro l hl e hc hkc
          by_cases y : l = m
          · subst y
            rw [c1] at hc
            cases hc
            obtain ⟨b2, q1, q2, q3⟩ := hkc
            simp only at q1
            cases q1
            exact z (hk'.inj q2)
          · exact hpast' l (by omega) e hc hkc
      | false =>
        simp only [Bool.not_false, if_true]
        refine wpAny_bind (wp_seen hk ?_ ?_)
        · intro y hy
          obtain ⟨e, e1, rfl⟩ := List.mem_map.mp hy
          obtain ⟨k2, b2, q1, q2, q3⟩ := hK e (List.mem_toArray.mp (Array.mem_filter.mp (Array.mem_def.mpr e1)).1)
          exact ⟨k2, b2, q1, q2⟩
        simp only [Bool.false_eq_true, if_false]
        refine wpAny_bind (wpAny_holding (wpAny_eqBool_tuple hu hk' hk ?_))
        refine wpAny_bind (wpAny_setState_of ho hd hf ?_)
        by_cases z : k' = k
        · rw [decide_eq_true z]
          simp only [Bool.and_self, if_true]
          subst z
          exact wpAny_pure (hyes ⟨_, hmem, b', rfl, hk', hh'⟩)
        · rw [decide_eq_false z]
          simp only [Bool.and_false, Bool.false_eq_true, if_false]
          have hsm : t.sameMemory t.moves t.mask = some true := by unfold SetTable.sameMemory; rw [if_pos (beq_self_eq_true _)]
          rw [hsm]
          dsimp only
          rw [if_pos rfl, X.slot_live (way_lt h m) c1]
          dsimp only
          rw [hes]
          dsimp only
          refine wpAny_bind (wp_same_ref ?_)
          refine wpAny_bind (wpAny_pure ?_)
          simp only [if_true]
          refine ih (m + 1) _ (by omega) (by omega) rfl ?_
          intro l hl e hc hkc
          by_cases y : l = m
          · subst y
            rw [c1] at hc
            cases hc
            obtain ⟨b2, q1, q2, q3⟩ := hkc
            simp only at q1
            cases q1
            exact z (hk'.inj q2)
          · exact hpast' l (by omega) e hc hkc
end
end Fn
set_option Elab.async false
set_option linter.all false
set_option maxRecDepth 100000
namespace Fn
open PySem L2 PySem.Spec PyProof.Rows
section
variable {prog : Program} {w : World} {A : Around} {E : Value → Shared → Prop} {s : Shared}
noncomputable abbrev KC := Option (List Int × Addr)
noncomputable def khash (prog : Program) (w : World) (k : List Int) : Int := tupleKeyHash (intKind prog w) k
noncomputable def cellOf (prog : Program) (w : World) (c : KC) : Cell := c.map fun p => (khash prog w p.1, .ref p.2)
noncomputable def tabK (prog : Program) (w : World) (KT : List KC) : List Cell := KT.map (cellOf prog w)
noncomputable def entK (KT : List KC) : List (List Int × Addr) := KT.filterMap id
noncomputable def keysK (KT : List KC) : List (List Int) := (entK KT).map (·.1)
theorem es_tab (KT : List KC) : esT (tabK prog w KT) = (entK KT).map fun p => (khash prog w p.1, Value.ref p.2) := by
  induction KT with
  | nil => rfl
  | cons c KT ih =>
    cases c with
    | none => exact ih
    | some p =>
      show (khash prog w p.1, Value.ref p.2) :: esT (tabK prog w KT) = _
      rw [ih]; rfl
theorem perm_set : ∀ (KT : List KC) (j : Nat) (p : List Int × Addr), KT[j]? = some none → List.Perm (entK (KT.set j (some p))) (p :: entK KT)
  | [], j, p, h => by simp at h
  | some x :: KT, 0, p, h => by simp at h
  | none :: KT, 0, p, h => List.Perm.refl _
  | none :: KT, j + 1, p, h => perm_set KT j p h
  | some x :: KT, j + 1, p, h => by
    have := perm_set KT j p h
    exact (List.Perm.cons x this).trans (List.Perm.swap _ _ _)
theorem cell_tab {KT : List KC} {j : Nat} : cellAt (tabK prog w KT) j = cellOf prog w ((KT[j]?).getD none) := by
  unfold cellAt tabK
  rw [List.getElem?_map]
  cases KT[j]? <;> rfl
theorem cell_tab_none {KT : List KC} {j : Nat} (hl : KT.length = 8) (hj : j < 8) (h : cellAt (tabK prog w KT) j = none) : KT[j]? = some none := by
  rw [cell_tab] at h
  cases q : KT[j]? with
  | none => rw [List.getElem?_eq_none_iff] at q; omega
  | some c =>
    rw [q] at h
    cases c with
    | none => rfl
    | some p => cases h
theorem cell_tab_some {KT : List KC} {j : Nat} {p : List Int × Addr} (h : KT[j]? = some (some p)) : cellAt (tabK prog w KT) j = some (khash prog w p.1, .ref p.2) := by
  rw [cell_tab, h]; rfl
structure TupSet (prog : Program) (w : World) (h : Heap) (a : Addr) (KT : List KC) : Prop where
  len : KT.length = 8
  obj : ∃ o ep t, h.get? a = some o ∧ o.ExactSet ∧ o.data = .set (esT (tabK prog w KT)).toArray ep t ∧ TabOf t (tabK prog w KT) ∧ t.led = !(w.params.followText "set-order") ∧ t.plain = true
  keys : ∀ p ∈ entK KT, IsTupleKey (intKind prog w) h p.1 p.2
  nodup : (keysK KT).Nodup
  small : (keysK KT).length ≤ 4
  reach : ∀ j p, KT[j]? = some (some p) → ∃ n, (way (khash prog w p.1) n).1 = j ∧ ∀ l, l < n → ∃ e, cellAt (tabK prog w KT) (way (khash prog w p.1) l).1 = some e
theorem keys_len {KT : List KC} : (keysK KT).length = (entK KT).length := by unfold keysK; rw [List.length_map]
theorem ent_mem {KT : List KC} {p : List Int × Addr} : p ∈ entK KT ↔ some p ∈ KT := by unfold entK; simp
theorem free_cell (KT : List KC) (hl : KT.length = 8) (hs : (entK KT).length ≤ 4) : ∃ j, j < 8 ∧ cellAt (tabK prog w KT) j = none := by
  obtain ⟨a, b, c, d, e, f, g, h, rfl⟩ := eight KT hl
  cases a with
  | none => exact ⟨0, by decide, rfl⟩
  | some _ =>
  cases b with
  | none => exact ⟨1, by decide, rfl⟩
  | some _ =>
  cases c with
  | none => exact ⟨2, by decide, rfl⟩
  | some _ =>
  cases d with
  | none => exact ⟨3, by decide, rfl⟩
  | some _ =>
  cases e with
  | none => exact ⟨4, by decide, rfl⟩
  | some _ => 
    have : 5 ≤ (entK [some ‹_›, some ‹_›, some ‹_›, some ‹_›, some ‹_›, f, g, h]).length := by
      show 5 ≤ (_ :: _ :: _ :: _ :: _ :: entK [f, g, h]).length
      simp only [List.length_cons]; omega
    exfalso
    have h2 : (entK [some ‹_›, some ‹_›, some ‹_›, some ‹_›, some ‹_›, f, g, h]).length ≤ 4 := hs
    simp only [entK, List.filterMap_cons, id, List.length_cons] at hs
    omega
theorem TupSet.fits {h : Heap} {KT : List KC} {t : SetTable} (X : TabOf t (tabK prog w KT)) (hs : (keysK KT).length ≤ 4) : t.fits (esT (tabK prog w KT)).toArray.size = true := by
  unfold SetTable.fits SetTable.fill
  rw [X.size, X.dummies, X.mask, List.size_toArray]
  rw [keys_len] at hs
  have : (esT (tabK prog w KT)).length = (entK KT).length := by rw [es_tab, List.length_map]
  simp
  omega
theorem key_moves {h h' : Heap} {a : Addr} {o : Obj} {k : List Int} {b : Addr} {es ep t} (ho : h.get? a = some o) (hd : o.data = .set es ep t) (hs : ∀ b, b ≠ a → h'.get? b = h.get? b) (x : IsTupleKey (intKind prog w) h k b) : IsTupleKey (intKind prog w) h' k b := by
  obtain ⟨o', items, n, ho', hc, hd', hi⟩ := x
  have hne : b ≠ a := by
    rintro rfl
    obtain rfl : o' = o := Option.some.inj (ho'.symm.trans ho)
    rw [hd] at hd'; exact nomatch hd'
  exact ⟨o', items, n, (hs b hne).trans ho', hc, hd', hi⟩
theorem ref_not_scannable (b : Addr) (es : Array (Int × Value)) : byScan (.ref b) es = false := rfl
theorem wp_addHashed {a : Addr} {KT : List KC} {b : Addr} {k : List Int} {Q : Bool → Shared → Prop} (hu : A.units < cLine)
    (S : TupSet prog w s.heap a KT) (hk : IsTupleKey (intKind prog w) s.heap k b) (hroom : k ∉ keysK KT → (keysK KT).length < 4)
    (h : ∀ r h' KT', (∀ b, b ≠ a → h'.get? b = s.heap.get? b) → h'.objs.size = s.heap.objs.size → TupSet prog w h' a KT' → (∀ x, x ∈ keysK KT' ↔ x = k ∨ x ∈ keysK KT) → (∀ p ∈ entK KT', p = (k, b) ∨ p ∈ entK KT) → (keysK KT').length = (if k ∈ keysK KT then (keysK KT).length else (keysK KT).length + 1) → Q r { s with heap := h' }) :
    wpAny (model prog w) A (setAddHashed a (.ref b) (khash prog w k)) Q E s := by
  have S0 := S
  obtain ⟨len, ⟨o, ep, t, ho, hex, hd, X, hled, hpl⟩, keys, nodup, small, reach⟩ := S
  have hf := TupSet.fits (h := s.heap) X small
  obtain ⟨e0, q1, q2, q3⟩ := first_free (tabK prog w KT) (khash prog w k) (free_cell KT len (by rw [← keys_len]; exact small))
  unfold setAddHashed setAddHashedIn
  refine wpAny_holding (wpAny_bind (wpAny_setState_of ho hd hf ?_))
  dsimp only
  rw [ref_not_scannable]
  simp only [Bool.false_eq_true, if_false]
  refine wpAny_bind ?_
  unfold setSearch
  have hsame : s = { s with heap := s.heap } := by cases s; rfl
  refine wp_search (e0 := e0) hu ho hd X hf ?_ hk q1 q2 q3 ?_ ?_ 100000 0 none (Nat.zero_le _) (by omega) (X.start _) (fun l hl => absurd hl (Nat.not_lt_zero _))
  · intro e he
    rw [es_tab] at he
    obtain ⟨p, hp, rfl⟩ := List.mem_map.mp he
    exact ⟨p.1, p.2, rfl, keys p hp, rfl⟩
  · intro hno
    dsimp only
    rw [show tupleKeyHash (intKind prog w) k = khash prog w k from rfl]
    have hnot : k ∉ keysK KT := by
      intro hin
      obtain ⟨p, hp, rfl⟩ := List.mem_map.mp hin
      obtain ⟨j, hj⟩ := List.mem_iff_getElem?.mp (ent_mem.mp hp)
      obtain ⟨n, c1, c2⟩ := reach j p hj
      have hcell := cell_tab_some (prog := prog) (w := w) hj
      have hlt : n < e0 := by
        by_cases z : n < e0
        · exact z
        · by_cases y : n = e0
          · subst y
            rw [← c1] at hcell
            have q2' : cellAt (tabK prog w KT) (way (khash prog w p.1) n).1 = none := q2
            rw [q2'] at hcell; cases hcell
          · obtain ⟨e, c3⟩ := c2 e0 (by omega)
            have q2' : cellAt (tabK prog w KT) (way (khash prog w p.1) e0).1 = none := q2
            rw [q2'] at c3; cases c3
      rw [← c1] at hcell
      exact hno n hlt _ hcell ⟨p.2, rfl, keys p hp, rfl⟩
    have hlt4 := hroom hnot
    refine wpAny_bind (wpAny_setState_of ho hd hf ?_)
    dsimp only
    obtain ⟨X', i1, i2, i3, i4⟩ := X.put (way_lt (khash prog w k) e0) q2 (khash prog w k, .ref b)
    have hTK : (tabK prog w KT).set (way (khash prog w k) e0).1 (some (khash prog w k, .ref b)) = tabK prog w (KT.set (way (khash prog w k) e0).1 (some (k, b))) := by
      unfold tabK; rw [List.map_set]; rfl
    have hperm := perm_set KT _ (k, b) (cell_tab_none len (way_lt (khash prog w k) e0) q2)
    rw [hTK] at X' i1
    have hkl : List.Perm (keysK (KT.set (way (khash prog w k) e0).1 (some (k, b)))) (k :: keysK KT) := hperm.map Prod.fst
    have hlen' : (keysK (KT.set (way (khash prog w k) e0).1 (some (k, b)))).length = (keysK KT).length + 1 := by rw [hkl.length_eq]; rfl
    have hpl' : (t.put (way (khash prog w k) e0).1).1.plain = true := by rw [i3]; exact hpl
    rw [if_pos hpl']
    refine wpAny_bind (wp_hashByValue hk ?_)
    simp only [if_true]
    rw [i1]
    have hz : (esT (tabK prog w (KT.set (way (khash prog w k) e0).1 (some (k, b))))).toArray.size ≤ 4 := by
      rw [List.size_toArray, es_tab, List.length_map, ← keys_len, hlen']; omega
    refine wpAny_bind (wpAny_storeSet_of ho hd ?_ (by have := sizeLine_eq; omega))
    have hnf : (t.put (way (khash prog w k) e0).1).1.tooFull = false := by
      unfold SetTable.tooFull SetTable.fill
      rw [X'.size, X'.dummies, X'.mask]
      rw [List.size_toArray] at hz
      simp
      omega
    rw [hnf]
    simp only [Bool.and_false, Bool.false_eq_true, if_false]
    refine wpAny_pure ?_
    have hsb := Heap.SameBut.update s.heap a (Obj.putSet (esT (tabK prog w (KT.set (way (khash prog w k) e0).1 (some (k, b))))).toArray (t.put (way (khash prog w k) e0).1).1)
    have hg : (s.heap.update a (Obj.putSet (esT (tabK prog w (KT.set (way (khash prog w k) e0).1 (some (k, b))))).toArray (t.put (way (khash prog w k) e0).1).1)).get? a = some { o with data := .set (esT (tabK prog w (KT.set (way (khash prog w k) e0).1 (some (k, b))))).toArray (ep + 1) (t.put (way (khash prog w k) e0).1).1 } := by
      have := Heap.get?_update_self (Obj.putSet (esT (tabK prog w (KT.set (way (khash prog w k) e0).1 (some (k, b))))).toArray (t.put (way (khash prog w k) e0).1).1) ho (by rw [putSet_of _ _ hd]; rfl)
      rw [putSet_of _ _ hd] at this; exact this
    refine h _ _ (KT.set (way (khash prog w k) e0).1 (some (k, b))) hsb.2 hsb.1 ⟨by rw [List.length_set]; exact len, ⟨_, _, _, hg, hex, rfl, X', by rw [i2]; exact hled, hpl'⟩, ?_, ?_, ?_, ?_⟩ ?_ (fun p hp => List.mem_cons.mp (hperm.mem_iff.mp hp)) ?_
    · intro p hp
      have := hperm.mem_iff.mp hp
      rcases List.mem_cons.mp this with rfl | hp'
      · exact key_moves ho hd hsb.2 hk
      · exact key_moves ho hd hsb.2 (keys p hp')
    · rw [hkl.nodup_iff]
      exact List.nodup_cons.mpr ⟨hnot, nodup⟩
    · omega
    · have hgrow : ∀ j e, cellAt (tabK prog w KT) j = some e → ∃ e', cellAt (tabK prog w (KT.set (way (khash prog w k) e0).1 (some (k, b)))) j = some e' := by
        intro j e hc
        by_cases z : (way (khash prog w k) e0).1 = j
        · subst z; have q2' : cellAt (tabK prog w KT) (way (khash prog w k) e0).1 = none := q2
          rw [q2'] at hc; cases hc
        · refine ⟨e, ?_⟩
          rw [cell_tab] at hc ⊢
          rw [List.getElem?_set_ne z]; exact hc
      intro j p hj
      by_cases z : (way (khash prog w k) e0).1 = j
      · subst z
        rw [List.getElem?_set_self (by rw [len]; exact way_lt _ _)] at hj
        cases hj
        exact ⟨e0, rfl, fun l hl => let ⟨e, he⟩ := q3 l hl; hgrow _ e he⟩
      · rw [List.getElem?_set_ne z] at hj
        obtain ⟨n, c1, c2⟩ := reach j p hj
        exact ⟨n, c1, fun l hl => let ⟨e, he⟩ := c2 l hl; hgrow _ e he⟩
    · intro x
      rw [hkl.mem_iff, List.mem_cons]
    · rw [if_neg hnot]; exact hlen'
  · rintro ⟨e, he, hkc⟩
    dsimp only
    have hin : k ∈ keysK KT := by
      rw [es_tab] at he
      obtain ⟨p, hp, rfl⟩ := List.mem_map.mp he
      obtain ⟨b', z1, z2, z3⟩ := hkc
      simp only at z1
      cases z1
      have := (keys p hp).inj z2
      exact List.mem_map.mpr ⟨p, hp, this⟩
    refine wpAny_pure ?_
    rw [hsame]
    exact h _ _ KT (fun _ _ => rfl) rfl S0 (fun x => ⟨.inr, fun z => z.elim (fun e => e ▸ hin) id⟩) (fun p hp => .inr hp) (by rw [if_pos hin])
end
end Fn
set_option Elab.async false
set_option linter.all false
set_option maxRecDepth 100000
namespace Fn
open PySem L2 PySem.Spec PyProof.Rows
section
variable {prog : Program} {w : World} {A : Around} {R : Result → Shared → Prop} {I : Addr} {fp wr : List Addr} {G : Array GenState → Array GenState → Prop} {n : Nat} {P : Nat → Value → Prop} {St : Nat → Shared → Prop}
theorem TupSet.moved {h h' : Heap} {a : Addr} {KT : List KC} (S : TupSet prog w h a KT) (ha : ∀ o, h.get? a = some o → h'.get? a = some o) (hp : ∀ p ∈ entK KT, ∀ o, h.get? p.2 = some o → h'.get? p.2 = some o) : TupSet prog w h' a KT := by
  obtain ⟨len, ⟨o, ep, t, ho, rest⟩, keys, nodup, small, reach⟩ := S
  refine ⟨len, ⟨o, ep, t, ha o ho, rest⟩, fun p hm => ?_, nodup, small, reach⟩
  obtain ⟨o', items, n, ho', r⟩ := keys p hm
  exact ⟨o', items, n, hp p hm o' ho', r⟩
theorem loop_tup (W : WalksS prog w A.in1 I fp wr G n P St) (S : Addr) (hSf : S ∉ fp) (hu : A.in1.units < cLine)
    (key : Nat → List Int) (h0 : Heap) (V : List Int × Addr → Prop) (hval : ∀ i v, P i v → i < n → ∃ b, v = .ref b ∧ b ∉ S :: wr ∧ IsTupleKey (intKind prog w) h0 (key i) b ∧ V (key i, b))
    (hcap : ∀ l : List (List Int), l.Nodup → (∀ x ∈ l, ∃ i, i < n ∧ key i = x) → l.length ≤ 4) :
    ∀ (k i : Nat) (s : Shared) (KT : List KC), n - i = k → i ≤ n → St i s →
      (∀ b o, b ∉ S :: wr → h0.get? b = some o → s.heap.get? b = some o) →
      TupSet prog w s.heap S KT → (∀ p ∈ entK KT, p.2 ∉ S :: wr ∧ V p) → (∀ x, x ∈ keysK KT ↔ ∃ j, j < i ∧ key j = x) →
      (∀ s' KT', Moved (S :: wr) G s s' → TupSet prog w s'.heap S KT' → (∀ p ∈ entK KT', p.2 ∉ S :: wr ∧ V p) → (∀ x, x ∈ keysK KT' ↔ ∃ j, j < n ∧ key j = x) → R (.ok (.ret .none)) s') →
      codeAny (model prog w) A (.builtin "set.update.loop" ⟨[.ref S, .ref I], []⟩) R s := by
  have hSw : S ∉ wr := fun h => hSf (W.sub _ h)
  have hsub : ∀ b ∈ wr, b ∈ S :: wr := fun b hb => List.mem_cons_of_mem _ hb
  intro k
  induction k with
  | zero =>
    intro i s KT hk hi hst hkeep hS hout hmem hR
    have hin : i = n := by omega
    subst hin
    refine codeAny_builtin F.entry_set_update_loop ?_
    rw [Around.under_plainId F.plain_set_update_loop _]
    show wpAny _ A.in1 (pyNext (.ref I) >>= _) _ _ s
    refine wpAny_bind (W.done s _ _ hst fun s' hm => ?_)
    show wpAny _ A.in1 (ret Value.none) _ _ s'
    exact wpAny_pure (hR s' KT (hm.mono hsub) (hS.moved (fun o e => hm.heap S o hSw e) (fun p hp o e => hm.heap _ o (fun z => (hout p hp).1 (hsub _ z)) e)) hout hmem)
  | succ k ih =>
    intro i s KT hk hi hst hkeep hS hout hmem hR
    have hlt : i < n := by omega
    refine codeAny_builtin F.entry_set_update_loop ?_
    rw [Around.under_plainId F.plain_set_update_loop _]
    show wpAny _ A.in1 (pyNext (.ref I) >>= _) _ _ s
    refine wpAny_bind (W.item i s _ _ hlt hst fun v s' hP hst' hm => ?_)
    obtain ⟨b, rfl, hb, hkb, hV⟩ := hval i v hP hlt
    have hS' : TupSet prog w s'.heap S KT := hS.moved (fun o e => hm.heap S o hSw e) (fun p hp o e => hm.heap _ o (fun z => (hout p hp).1 (hsub _ z)) e)
    have hkeep' : ∀ b o, b ∉ S :: wr → h0.get? b = some o → s'.heap.get? b = some o := fun b o hb e => hm.heap b o (fun z => hb (hsub _ z)) (hkeep b o hb e)
    have hkb' : IsTupleKey (intKind prog w) s'.heap (key i) b := by
      obtain ⟨o, it, nn, ho, r⟩ := hkb
      exact ⟨o, it, nn, hkeep' b o hb ho, r⟩
    show wpAny _ A.in1 (holding [Value.ref b] (setAdd S (.ref b)) >>= _) _ _ s'
    refine wpAny_bind (wpAny_holding ?_)
    unfold setAdd
    refine wpAny_holding ?_
    refine wpAny_bind (wpAny_pyHash_tuple hu hkb' ?_)
    have hroom : key i ∉ keysK KT → (keysK KT).length < 4 := by
      intro hno
      have := hcap (key i :: keysK KT) (List.nodup_cons.mpr ⟨hno, hS.nodup⟩) (fun x hx => by
        rcases List.mem_cons.mp hx with rfl | hx
        · exact ⟨i, hlt, rfl⟩
        · obtain ⟨j, j1, j2⟩ := (hmem x).mp hx
          exact ⟨j, by omega, j2⟩)
      simp only [List.length_cons] at this
      omega
    refine wp_addHashed (s := { s' with toks := s'.toks + ((key i).length + 1) }) hu hS' hkb' hroom fun r h' KT' hsb hsz hT hx hpp hl => ?_
    refine wpAny_pure ⟨plainId_quiet F.plain_set_update_loop _, ih (i + 1) _ KT' (by omega) hlt (W.frame _ s' _ _ hst' (Nat.le_add_right _ _) fun b hb o e => ?_) ?_ hT ?_ ?_ fun s'' KT'' hm'' hS'' ho'' hm3 => ?_⟩
    · rw [hsb b (fun h : b = S => hSf (by rw [← h]; exact hb))]; exact e
    · intro b o hb e
      show h'.get? b = some o
      rw [hsb b (fun z => hb (by rw [z]; exact List.mem_cons_self))]; exact hkeep' b o hb e
    · intro p hp
      rcases hpp p hp with rfl | hp'
      · exact ⟨hb, hV⟩
      · exact hout p hp'
    · intro x
      rw [hx x, hmem x]
      constructor
      · rintro (rfl | ⟨j, j1, j2⟩)
        · exact ⟨i, by omega, rfl⟩
        · exact ⟨j, by omega, j2⟩
      · rintro ⟨j, j1, j2⟩
        by_cases z : j = i
        · subst z; exact .inl j2.symm
        · exact .inr ⟨j, by omega, j2⟩
    · refine hR s'' KT'' (Moved.trans W.gtrans ((hm.mono hsub).then_heap (Nat.le_add_right _ _) fun b o hb e => ?_) hm'') hS'' ho'' hm3
      rw [hsb b (fun h : b = S => hb (by rw [h]; exact List.mem_cons_self))]; exact e
end
section
variable {prog : Program} {w : World} {A : Around} {E : Value → Shared → Prop} {s : Shared}
theorem new_set_led {s : Shared} (a : Value) {Q₁ : Value → Shared → Prop}
    (h : Q₁ (.ref s.heap.objs.size) { s with heap := s.heap.push { cls := .type "set", dict := none, data := .set #[] 0 (.fresh 0 0 (!(w.params.followText "set-order"))) } }) :
    codeAny (model prog w) A (.call (.builtin "set.__new__") ⟨[.type "set", a], []⟩) (wants Q₁ E) s := by
  refine codeAny_of_tree ?_
  show wpAny _ A.in1 (do checkBuiltinCall "set.__new__" ⟨[.type "set", a], []⟩; again (.builtin "set.__new__" ⟨[.type "set", a], []⟩)) _ _ s
  refine wpAny_bind (wpAny_of_eq (F.newCall_set_1 a) (wpAny_pure ⟨plainId_quiet F.plain_set_new _, codeAny_builtin F.entry_set_new ?_⟩))
  rw [Around.under_plainId F.plain_set_new _]
  unfold Builtin.«set.__new__» Builtin.Frozenset.newClass
  have hsub := sub_set_self
  obtain ⟨hp, g, d, tk, os⟩ := s
  dsimp only
  wp_walk
  refine wpAny_askSetting (wpAny_pure ?_)
  dsimp only
  simp only [newObj]
  refine wpAny_bind (wpAny_alloc (wpAny_pure ?_))
  exact wpAny_pure h
noncomputable def noKT : List KC := [none, none, none, none, none, none, none, none]
theorem fresh_tup {h : Heap} {a : Addr} (hg : h.get? a = some { cls := .type "set", dict := none, data := .set #[] 0 (.fresh 0 0 (!(w.params.followText "set-order"))) }) : TupSet prog w h a noKT :=
  ⟨rfl, ⟨_, 0, _, hg, ⟨rfl, rfl, rfl⟩, rfl, ⟨rfl, rfl, rfl, rfl⟩, rfl, rfl⟩, (fun p hp => by cases hp), List.nodup_nil, by decide, fun j p hj => by
    have : some p ∈ noKT := List.mem_of_getElem? hj
    simp [noKT] at this⟩
end
end Fn
set_option Elab.async false
set_option linter.all false
set_option maxRecDepth 100000
namespace Fn
open PySem L2 PySem.Spec PyProof.Rows
section
variable {prog : Program} {w : World} {A : Around} {E : Value → Shared → Prop} {s : Shared}
noncomputable abbrev bareSet (w : World) : Obj := { cls := .type "set", dict := none, data := .set #[] 0 (.fresh 0 0 (!(w.params.followText "set-order"))) }
noncomputable def KeyList (prog : Program) (w : World) (h : Heap) (vs : Array Value) (ks : List (List Int)) : Prop :=
  vs.size = ks.length ∧ ∀ i v, vs[i]? = some v → ∃ b, v = .ref b ∧ IsTupleKey (intKind prog w) h (ks.getD i []) b
theorem tup_lt {h : Heap} {k : List Int} {b : Addr} (x : IsTupleKey (intKind prog w) h k b) : b < h.objs.size := let ⟨_, _, _, ho, _⟩ := x; Heap.lt_size ho
theorem nth_mem {ks : List (List Int)} {x : List Int} : (∃ j, j < ks.length ∧ ks.getD j [] = x) ↔ x ∈ ks := by
  constructor
  · rintro ⟨j, hj, rfl⟩
    rw [List.getD_eq_getElem?_getD, List.getElem?_eq_getElem hj]
    exact List.getElem_mem hj
  · intro hx
    obtain ⟨j, hj, e⟩ := List.mem_iff_getElem.mp hx
    exact ⟨j, hj, by rw [List.getD_eq_getElem?_getD, List.getElem?_eq_getElem hj]; exact e⟩
set_option maxHeartbeats 3200000 in
theorem call_set_tups {l : Addr} {vs : Array Value} {ks : List (List Int)} {Q : Value → Shared → Prop}
    (hh : A.handled = none) (hu : A.units + 64 < cLine) (hl : s.heap.IsList l vs) (hK : KeyList prog w s.heap vs ks)
    (hcap : ∀ z : List (List Int), z.Nodup → (∀ x ∈ z, x ∈ ks) → z.length ≤ 4)
    (h : ∀ h' tk KT, TupSet prog w h' s.heap.objs.size KT → (∀ x, x ∈ keysK KT ↔ x ∈ ks) → (∀ b o, s.heap.get? b = some o → h'.get? b = some o) → s.toks ≤ tk → (∀ p ∈ entK KT, Value.ref p.2 ∈ vs.toList) → Q (.ref s.heap.objs.size) { s with heap := h', toks := tk }) :
    wpAny (model prog w) A (call (.type "set") [.ref l]) Q E s := by
  have C := F.called_set
  obtain ⟨c, tl, m0⟩ := C.mro
  have m1 := C.made
  have m2 := C.sub
  have m3 := C.notType
  have m4 := C.canCreate
  have m5 := F.typeCall_set_1 (.ref l)
  refine wpAny_call (codeAny_of_tree ?_)
  show wpAny _ _ (callAny (.type "set") _) _ _ _
  refine wpAny_pure ⟨Code.quiet_builtin _ (by decide +kernel), codeAny_builtin F.entry_type_call ?_⟩
  rw [Around.under_plain (weight_type_call_type "set" [.ref l] []) rfl]
  repeat (any_goals (first | assumption | wp_step))
  refine codeAny_mono (new_set_led (w := w) (.ref l) (E := E) (Q₁ := fun v s1 => v = .ref s.heap.objs.size ∧ s1 = { s with heap := s.heap.push (bareSet w) }) ⟨rfl, rfl⟩) fun r s1 hr => ?_
  cases r with
  | error e => exact hr
  | ok fl =>
    cases fl with
    | ret v =>
      obtain ⟨rfl, rfl⟩ := hr
      have g0 : (s.heap.push (bareSet w)).get? s.heap.objs.size = some (bareSet w) := Heap.get?_push_size _ rfl
      have ty : Shared.TypeIs { s with heap := s.heap.push (bareSet w) } (.ref s.heap.objs.size) "set" := ⟨_, g0, rfl⟩
      have i0 := C.init.lookup
      have i1 := C.init.bind (.ref s.heap.objs.size)
      repeat (any_goals (first | assumption | wp_step))
      refine codeAny_mono (codeAny_call_builtin (R := wants (fun r s2 => r = .none ∧ ∃ h' tk KT, s2 = { s with heap := h', toks := tk } ∧ TupSet prog w h' s.heap.objs.size KT ∧ (∀ x, x ∈ keysK KT ↔ x ∈ ks) ∧ (∀ b o, s.heap.get? b = some o → h'.get? b = some o) ∧ s.toks ≤ tk ∧ (∀ p ∈ entK KT, Value.ref p.2 ∈ vs.toList)) E) C.init.plain F.entry_set_init (check_set_init_1 ty ?_)) fun r2 s2 hr2 => ?_
      · have hlt : l < s.heap.objs.size := let ⟨_, q, _⟩ := hl; Heap.lt_size q
        have hl1 : (s.heap.push (bareSet w)).IsList l vs := hl.push _
        obtain ⟨ol, hol, hcl, nl, hdl⟩ := id hl1
        obtain ⟨ocls, odict, odata, oslots⟩ := ol
        simp only at hcl hdl
        subst hcl hdl
        have n1 := F.sub_list_set
        have n2 := F.sub_list_frozenset
        have n3 : (Value.type "list" == Value.type "dict") = false := by decide
        unfold Builtin.«set.__init__» noKeywords Builtin.Frozenset.updateFrom
        generalize hPI : pyIter = PI
        wp_walk
        subst hPI
        refine wpAny_pyIter_list hl1 ?_
        refine wpAny_bind (wpAny_runValue ?_)
        have eI : (s.heap.push (bareSet w)).objs.size = s.heap.objs.size + 1 := Heap.size_push _ _
        have out : ∀ b, b < s.heap.objs.size → b ∉ [s.heap.objs.size, (s.heap.push (bareSet w)).objs.size] := by
          intro b hb hm
          rw [eI] at hm
          simp only [List.mem_cons, List.mem_singleton, List.not_mem_nil, or_false] at hm
          omega
        refine loop_tup ((Walks.list (by simp [hh]) _ l (by rw [eI]; exact Nat.ne_of_lt (Nat.lt_succ_of_lt hlt)) vs).toS) s.heap.objs.size ?_ ?_ (fun i => ks.getD i []) s.heap (fun p => Value.ref p.2 ∈ vs.toList) ?_ ?_ (vs.size - 0) 0 _ noKT rfl (Nat.zero_le _)
          ⟨⟨_, Heap.get?_push_size _ rfl, rfl, rfl⟩, hl1.push _⟩ (fun b o _ e => Heap.get?_push_of_some _ (Heap.get?_push_of_some _ e)) (fresh_tup (Heap.get?_push_of_some _ g0)) (fun p hp => by cases hp)
          (fun x => ⟨fun z => (by cases z), fun ⟨j, hj, _⟩ => absurd hj (Nat.not_lt_zero _)⟩) ?_
        · rw [eI]
          simp only [List.mem_cons, List.mem_singleton, List.not_mem_nil, or_false, not_or]
          exact ⟨Nat.ne_of_lt (Nat.lt_succ_self _), Nat.ne_of_gt hlt⟩
        · simp only [Around.in1_units]; omega
        · intro i v hv _
          obtain ⟨b, rfl, hb⟩ := hK.2 i v hv
          exact ⟨b, rfl, out b (tup_lt hb), hb, by rw [← Array.getElem?_toList] at hv; exact List.mem_of_getElem? hv⟩
        · intro z hz hm
          exact hcap z hz fun x hx => nth_mem.mp (let ⟨j, a, b⟩ := hm x hx; ⟨j, by rw [← hK.1]; exact a, b⟩)
        · intro s' KT' hm hS' hent hx
          obtain ⟨h', g', d', tk', os'⟩ := s'
          have eg : g' = s.gens := hm.gens
          have ed : d' = s.drawn := hm.drawn
          have eo : os' = s.os := hm.os
          subst eg ed eo
          show wpAny _ _ _ _ _ _
          refine wpAny_pure ?_
          show wpAny _ _ (ret Value.none) _ _ _
          refine wpAny_pure ⟨rfl, h', tk', KT', rfl, hS', fun x => ?_, fun b o e => ?_, hm.toks, fun p hp => (hent p hp).2⟩
          · rw [hx x, hK.1]; exact nth_mem
          · exact hm.heap b o (out b (Heap.lt_size e)) (Heap.get?_push_of_some _ (Heap.get?_push_of_some _ e))
      · cases r2 with
        | error e => exact hr2
        | ok fl2 =>
          cases fl2 with
          | ret r =>
            obtain ⟨rfl, h', tk, KT, rfl, k1, k2, k3, k4, k5⟩ := hr2
            repeat (any_goals (first | assumption | wp_step))
            exact h _ _ _ k1 k2 k3 k4 k5
          | _ => exact hr2.elim
    | _ => exact hr.elim
end
end Fn
set_option Elab.async false
set_option linter.all false
set_option maxRecDepth 100000
namespace Fn
open PySem L2 PySem.Spec PyProof.Rows
theorem next_slot : Slot "set_iterator" "__next__" "set_iterator.__next__" :=
  .of (owner := "set_iterator") (n := "__next__") (by rw [typeLookup_type, builtinLookup_eq_fast]; kernel_rfl) (by decide +kernel) (by decide +kernel) (by decide +kernel) (by first | exact .inl (by decide +kernel) | exact .inr (by decide +kernel)) (by rw [isSubtype_type]; kernel_rfl)
theorem next_entry : entryFor table "set_iterator.__next__" = some Builtin.«set_iterator.__next__» := entryFor_of_fast (by kernel_rfl)
theorem next_args (a : Value) : argsOk "set_iterator.__next__" ⟨[a], []⟩ := by unfold argsOk; kernel_rfl
theorem iter_entry : entryFor table "set.__iter__" = some Builtin.«frozenset.__iter__» := entryFor_alias (id' := "frozenset.__iter__") (by kernel_rfl) rfl (by decide +kernel) (by kernel_rfl)
theorem after_all : ∀ b0 b1 b2 b3 b4 b5 b6 b7 : Bool, SetTable.below (placeB [b0, b1, b2, b3, b4, b5, b6, b7]) 0 = 0 ∧ ∀ i : Fin 8,
    ∀ j : Fin 8, (placeB [b0, b1, b2, b3, b4, b5, b6, b7])[i.1]? = some j.1 → SetTable.below (placeB [b0, b1, b2, b3, b4, b5, b6, b7]) (j.1 + 1) = i.1 + 1 := by decide +kernel
noncomputable def SetIt (h : Heap) (I a : Addr) (slot i size ep : Nat) : Prop := h.get? I = some { cls := .type "set_iterator", dict := none, data := .fields #[.int slot 0, .int i 0, .ref a, .int size 0, .int ep 0], slots := #[] }
noncomputable def outs (w : World) (a : Addr) (ep : Nat) (es : Array (Int × Value)) : Array Value :=
  (if w.params.followText "set-order" = true then pickOrder (w.params.setOrder a ep) es else es).map (·.2)
section
variable {prog : Program} {w : World} {A : Around} {E : Value → Shared → Prop} {s : Shared}
theorem iter_tup {a : Addr} {KT : List KC} {Q : Value → Shared → Prop} (S : TupSet prog w s.heap a KT)
    (h : ∀ o ep t, s.heap.get? a = some o → o.data = .set (esT (tabK prog w KT)).toArray ep t → TabOf t (tabK prog w KT) → t.led = !(w.params.followText "set-order") → t.plain = true → Q (.ref s.heap.objs.size) { s with heap := s.heap.push { cls := .type "set_iterator", dict := none, data := .fields #[.int 0 0, .int 0 0, .ref a, .int (esT (tabK prog w KT)).length 0, .int ep 0], slots := #[] } }) :
    wpAny (model prog w) A (pyIter (.ref a)) Q E s := by
  obtain ⟨len, ⟨o, ep, t, ho, hex, hd, X, hled, hpl⟩, keys, nodup, small, reach⟩ := S
  have hf := TupSet.fits (h := s.heap) X small
  have ty : s.TypeIs (.ref a) "set" := ⟨o, ho, hex.1⟩
  refine wpAny_pyIter_slot ty F.slot_set_iter (wpAny_call_entry F.slot_set_iter ty iter_entry ?_ (F.args_set_iter_1 _))
  unfold Builtin.«frozenset.__iter__»
  refine wpAny_bind (m := Builtin.Frozenset.slot0 "__iter__" ⟨[.ref a], []⟩) (wpAny_of_eq (a := a) rfl ?_)
  unfold Builtin.Frozenset.sizeOf
  refine wpAny_bind (wpAny_bind (wpAny_setEntries_of ho hd hf (wpAny_pure ?_)))
  have hdr : wpAny (model prog w) A.in1 (setDrawn a) (fun r s' => r = false ∧ s' = s) E s := by
    unfold setDrawn
    refine wpAny_bind (wpAny_setState_of ho hd hf ?_)
    dsimp only
    unfold setsByText
    refine wpAny_bind (wpAny_bind (wpAny_askSetting (wpAny_pure ?_)))
    refine wpAny_pure ⟨?_, rfl⟩
    show (_ && (!t.plain && _)) = false
    rw [hpl]; simp
  refine wpAny_bind (wpAny_mono hdr (fun r s' hr => ?_) fun _ _ x => x)
  obtain ⟨rfl, rfl⟩ := hr
  simp only [Bool.false_eq_true, if_false]
  refine wpAny_bind (wpAny_pure ?_)
  refine wpAny_bind (wpAny_setEpoch_of ho hd hf ?_)
  refine wpAny_bind (wpAny_newObj_type (wpAny_pure ⟨_, rfl, "set_iterator", _, ⟨_, Heap.get?_push_size _ rfl, rfl⟩, next_slot.lookup, ?_⟩))
  have := h o ep t ho hd X hled hpl
  rw [List.size_toArray]
  exact this
end
theorem erase_perm {α : Type} : ∀ (l : List α) (i : Nat) (x : α), l[i]? = some x → List.Perm l (x :: l.eraseIdx i)
  | [], i, x, h => by simp at h
  | y :: l, 0, x, h => by simp at h; subst h; exact List.Perm.refl _
  | y :: l, i + 1, x, h => by
    have := erase_perm l i x h
    exact (List.Perm.cons y this).trans (List.Perm.swap _ _ _)
theorem pick_go {α : Type} (next : Nat → Nat) : ∀ (fuel k : Nat) (left : List α) (out : Array α), left.length = fuel → List.Perm (pickOrder.go next fuel k left out).toList (out.toList ++ left)
  | 0, k, left, out, h => by
    have : left = [] := List.length_eq_zero_iff.mp h
    subst this
    rw [List.append_nil]; exact List.Perm.refl _
  | fuel + 1, k, left, out, h => by
    have hlt : next k % left.length < left.length := Nat.mod_lt _ (by omega)
    unfold pickOrder.go
    rw [List.getElem?_eq_getElem hlt]
    dsimp only
    refine (pick_go next fuel (k + 1) _ _ (by rw [List.length_eraseIdx]; rw [if_pos hlt]; omega)).trans ?_
    rw [Array.toList_push, List.append_assoc]
    exact List.Perm.append_left _ (erase_perm left _ _ (List.getElem?_eq_getElem hlt)).symm
theorem pick_perm {α : Type} (next : Nat → Nat) (xs : Array α) : List.Perm (pickOrder next xs).toList xs.toList := by
  have := pick_go next xs.size 0 xs.toList #[] (by simp)
  exact this
theorem outs_perm (w : World) (a : Addr) (ep : Nat) (es : Array (Int × Value)) : List.Perm (outs w a ep es).toList (es.toList.map (·.2)) := by
  unfold outs
  rw [Array.toList_map]
  split
  · exact (pick_perm _ _).map _
  · exact List.Perm.refl _
theorem outs_size (w : World) (a : Addr) (ep : Nat) (es : Array (Int × Value)) : (outs w a ep es).size = es.size := by
  have := (outs_perm w a ep es).length_eq
  simpa using this
theorem place_lt {bs : List Bool} {i j : Nat} (h : (placeB bs)[i]? = some j) : j < 8 := by
  have : j ∈ (placeB bs).toList := by rw [← Array.getElem?_toList] at h; exact List.mem_of_getElem? h
  unfold placeB at this
  simp at this
  exact this.1
theorem after_place {t : SetTable} {T : List Cell} (X : TabOf t T) {i j : Nat} (hi : i < (esT T).length) (h : t.place[i]? = some j) : SetTable.below t.place (j + 1) = i + 1 := by
  rw [X.place] at h ⊢
  have hl := X.bits_len
  have hj := place_lt h
  have hn : (esT T).length ≤ 8 := by
    rw [es_len]
    exact Nat.le_trans List.countP_le_length (by rw [hl]; exact Nat.le_refl _)
  obtain ⟨a, b, c, d, e, f, g, k, hbs⟩ := eight (bitsT T) hl
  rw [hbs] at h ⊢
  exact (after_all a b c d e f g k).2 ⟨i, by omega⟩ ⟨j, hj⟩ h
theorem first_place {t : SetTable} {T : List Cell} (X : TabOf t T) : SetTable.below t.place 0 = 0 := by
  rw [X.place]
  obtain ⟨a, b, c, d, e, f, g, k, hbs⟩ := eight (bitsT T) X.bits_len
  rw [hbs]
  exact (after_all a b c d e f g k).1
section
variable {prog : Program} {w : World} {A : Around} {E : Value → Shared → Prop} {s : Shared}
theorem next_tup {a I : Addr} {T : List Cell} {o : Obj} {ep : Nat} {t : SetTable} {slot i : Nat} {Q : Option (Value × Nat) → Shared → Prop}
    (ho : s.heap.get? a = some o) (hd : o.data = .set (esT T).toArray ep t) (X : TabOf t T) (hf : t.fits (esT T).toArray.size = true) (hled : t.led = !(w.params.followText "set-order")) (hpl : t.plain = true)
    (hsl : w.params.followText "set-order" = false → SetTable.below t.place slot = i)
    (h1 : ∀ v slot', (outs w a ep (esT T).toArray)[i]? = some v → (w.params.followText "set-order" = false → SetTable.below t.place slot' = i + 1) → Q (some (v, slot')) s)
    (h2 : (outs w a ep (esT T).toArray)[i]? = none → Q none s) :
    wpAny (model prog w) A (setNext a slot i ep) Q E s := by
  unfold setNext
  refine wpAny_bind (wpAny_setState_of ho hd hf ?_)
  dsimp only
  unfold setsByText
  refine wpAny_bind (wpAny_bind (wpAny_askSetting (wpAny_pure ?_)))
  show wpAny _ _ (if w.params.followText "set-order" = true then _ else _) _ _ _
  cases hb : w.params.followText "set-order" with
  | true =>
    have ho' : outs w a ep (esT T).toArray = (pickOrder (w.params.setOrder a ep) (esT T).toArray).map (·.2) := by unfold outs; rw [if_pos hb]
    rw [ho'] at h1 h2
    simp only [if_true]
    rw [if_neg (by simp)]
    unfold setWalk
    refine wpAny_bind (wpAny_bind (wpAny_setState_of ho hd hf ?_))
    dsimp only
    unfold setsByText
    refine wpAny_bind (wpAny_bind (wpAny_askSetting (wpAny_pure ?_)))
    show wpAny _ _ (if w.params.followText "set-order" = true then _ else _) _ _ _
    rw [if_pos hb]
    refine wpAny_bind (wpAny_askSetting (wpAny_pure ?_))
    show wpAny _ _ (pure _) _ _ _
    refine wpAny_pure ?_
    show Q (((pickOrder (w.params.setOrder a ep) (esT T).toArray)[i]?).map fun e => (e.2, slot)) s
    rw [Array.getElem?_map] at h1 h2
    cases q : (pickOrder (w.params.setOrder a ep) (esT T).toArray)[i]? with
    | none => exact h2 (by rw [q]; rfl)
    | some e => exact h1 e.2 slot (by rw [q]; rfl) (fun z => by rw [hb] at z; cases z)
  | false =>
    have ho' : outs w a ep (esT T).toArray = (esT T).toArray.map (·.2) := by unfold outs; rw [if_neg (by rw [hb]; decide)]
    rw [ho'] at h1 h2
    rw [Array.getElem?_map] at h1 h2
    simp only [Bool.false_eq_true, if_false]
    rw [hsl hb]
    split
    · rename_i hdr
      have z : (!t.plain && decide ((esT T).toArray.size > 1)) = true := hdr
      rw [hpl] at z; cases z
    · refine wpAny_bind (wpAny_of_eq (a := ()) ?_ ?_)
      · show (if (!t.led && !(esT T).toArray.isEmpty) = true then _ else pure ()) = pure ()
        rw [hled, hb]; rfl
      · refine wpAny_pure ?_
        have hsz := X.size
        cases q : (esT T).toArray[i]? with
        | none =>
          dsimp only
          refine h2 (by rw [q]; rfl)
        | some e =>
          have hi : i < (esT T).length := by
            have := (Array.getElem?_eq_some_iff.mp q).1
            simpa using this
          have hp : i < t.place.size := by rw [hsz]; exact hi
          rw [Array.getElem?_eq_getElem hp]
          dsimp only
          refine h1 e.2 _ (by rw [q]; rfl) (fun _ => ?_)
          exact after_place X hi (Array.getElem?_eq_getElem hp)
end
end Fn
set_option Elab.async false
set_option linter.all false
set_option maxRecDepth 100000
namespace Fn
open PySem L2 PySem.Spec PyProof.Rows
theorem self_slot : Slot "set_iterator" "__iter__" "set_iterator.__iter__" :=
  .of (owner := "set_iterator") (n := "__iter__") (by rw [typeLookup_type, builtinLookup_eq_fast]; kernel_rfl) (by decide +kernel) (by decide +kernel) (by decide +kernel) (by first | exact .inl (by decide +kernel) | exact .inr (by decide +kernel)) (by rw [isSubtype_type]; kernel_rfl)
theorem self_entry : entryFor table "set_iterator.__iter__" = some Builtin.«dict_keyiterator.__iter__» := entryFor_alias (id' := "dict_keyiterator.__iter__") (by kernel_rfl) rfl (by decide +kernel) (by kernel_rfl)
theorem self_args (a : Value) : argsOk "set_iterator.__iter__" ⟨[a], []⟩ := by unfold argsOk; kernel_rfl
section
variable {prog : Program} {w : World} {A : Around} {E : Value → Shared → Prop} {s : Shared}
theorem SetIt.typeIs {I a : Addr} {slot i size ep : Nat} (h : SetIt s.heap I a slot i size ep) : s.TypeIs (.ref I) "set_iterator" := ⟨_, h, rfl⟩
theorem step_tup {a I : Addr} {T : List Cell} {o : Obj} {ep : Nat} {t : SetTable} {slot i : Nat} {Q : Option Value → Shared → Prop} (hh : A.handled = none) (hne : a ≠ I)
    (hit : SetIt s.heap I a slot i (esT T).length ep)
    (ho : s.heap.get? a = some o) (hd : o.data = .set (esT T).toArray ep t) (X : TabOf t T) (hf : t.fits (esT T).toArray.size = true) (hled : t.led = !(w.params.followText "set-order")) (hpl : t.plain = true)
    (hsl : w.params.followText "set-order" = false → SetTable.below t.place slot = i)
    (h1 : ∀ v slot' h', (outs w a ep (esT T).toArray)[i]? = some v → (w.params.followText "set-order" = false → SetTable.below t.place slot' = i + 1) → SetIt h' I a slot' (i + 1) (esT T).length ep → Heap.ExtBut I s.heap h' → Q (some v) { s with heap := h' })
    (h2 : ∀ h', (outs w a ep (esT T).toArray)[i]? = none → Heap.ExtBut I s.heap h' → Q none { s with heap := h' }) :
    wpAny (model prog w) A (pyNext (.ref I)) Q E s := by
  unfold pyNext
  refine wpAny_bind (wpAny_attempt (wpAny_callSpecial?_slot (name := Str.ofString "__next__") hit.typeIs next_slot (wpAny_call_entry next_slot hit.typeIs next_entry ?_ (next_args _))))
  unfold Builtin.«set_iterator.__next__»
  refine wpAny_bind (m := slotArgs "__next__" 0 ⟨[.ref I], []⟩) (wpAny_of_eq (a := (.ref I, [])) rfl ?_)
  refine wpAny_bind (wpAny_fieldsOf hit rfl ?_)
  dsimp only
  refine wpAny_bind (wpAny_setEntries_of ho hd hf ?_)
  rw [if_neg (by rw [List.size_toArray]; simp)]
  simp only [Int.toNat_natCast]
  refine wpAny_bind (next_tup (I := I) ho hd X hf hled hpl hsl (fun v slot' hv hs' => ?_) (fun hv => ?_))
  · dsimp only
    refine wpAny_bind (wpAny_setField_rec hit (by simp) fun h3 g3 b3 => ?_)
    refine wpAny_bind (wpAny_setField_rec (s := { s with heap := h3 }) g3 (by simp) fun h4 g4 b4 => ?_)
    refine wpAny_pure ⟨v, rfl, wpAny_pure (h1 v slot' h4 hv hs' ?_ ?_)⟩
    · exact g4
    · exact b3.extBut.trans b4.extBut
  · dsimp only
    refine wpAny_bind (wpAny_setField_rec hit (by simp) fun h3 g3 b3 => ?_)
    show wpAny _ _ (newExc (.type "StopIteration") [] >>= _) _ _ _
    refine wpAny_bind ?_
    simp only [newExc, newTuple]
    refine wpAny_bind (wpAny_newObj_type ?_ (by size_fits))
    refine wpAny_bind (m := firstArgMember _ _) (wpAny_of_eq (a := Value.none) (by first | rfl | (simp only [firstArgMember]; rfl)) ?_)
    refine wpAny_newObj_type ?_ (by size_fits)
    simp only [raiseNew]
    refine wpAny_bind (wpAny_handled ?_)
    rw [show A.in1.handled = none from hh]
    refine wpAny_bind (wpAny_pure (wpAny_throw ?_))
    refine wpAny_bind (wpAny_isInstance (T := "StopIteration") (b := true) ⟨_, Heap.get?_push_size _ rfl, rfl⟩ isSubtype_stop ?_)
    exact wpAny_pure (h2 _ hv ((b3.extBut.push _).push _))
theorem walk_tup {a I : Addr} {T : List Cell} {o : Obj} {ep : Nat} {t : SetTable} (hh : A.handled = none) (hne : a ≠ I)
    (hd : o.data = .set (esT T).toArray ep t) (X : TabOf t T) (hf : t.fits (esT T).toArray.size = true) (hled : t.led = !(w.params.followText "set-order")) (hpl : t.plain = true) :
    Walks prog w A I [I, a] [I] (esT T).length (fun i v => (outs w a ep (esT T).toArray)[i]? = some v)
      (fun i h => (∃ slot, SetIt h I a slot i (esT T).length ep ∧ (w.params.followText "set-order" = false → SetTable.below t.place slot = i)) ∧ h.get? a = some o) where
  sub := fun b hb => by simp at hb; simp [hb]
  frame := fun i h h' st hk => by
    obtain ⟨⟨slot, c1, c2⟩, c3⟩ := st
    exact ⟨⟨slot, hk I (by simp) _ c1, c2⟩, hk a (by simp) _ c3⟩
  item := fun i s Q E hi st hQ => by
    obtain ⟨⟨slot, c1, c2⟩, c3⟩ := st
    refine step_tup hh hne c1 c3 hd X hf hled hpl c2 (fun v slot' h' hv hs' hit' he => ?_) (fun h' hv => ?_)
    · exact hQ v h' s.toks hv ⟨⟨slot', hit', hs'⟩, he a o hne c3⟩ fun b o' hb e => he b o' (fun z => hb (by simp [z])) e
    · exfalso
      rw [Array.getElem?_eq_none_iff, outs_size, List.size_toArray] at hv
      omega
  done := fun s Q E st hQ => by
    obtain ⟨⟨slot, c1, c2⟩, c3⟩ := st
    refine step_tup hh hne c1 c3 hd X hf hled hpl c2 (fun v slot' h' hv hs' hit' he => ?_) (fun h' hv he => ?_)
    · exfalso
      have := (Array.getElem?_eq_some_iff.mp hv).1
      rw [outs_size, List.size_toArray] at this
      omega
    · exact hQ h' s.toks fun b o' hb e => he b o' (fun z => hb (by simp [z])) e
  self := fun i s Q E st hQ => by
    obtain ⟨⟨slot, c1, c2⟩, c3⟩ := st
    refine wpAny_pyIter_slot c1.typeIs self_slot (wpAny_call_entry self_slot c1.typeIs self_entry ?_ (self_args _))
    show wpAny _ _ (ret (.ref I)) _ _ s
    exact wpAny_pure ⟨_, rfl, "set_iterator", _, c1.typeIs, next_slot.lookup, hQ⟩
end
end Fn
set_option Elab.async false
set_option linter.all false
set_option maxRecDepth 100000
namespace Fn
open PySem L2 PySem.Spec PyProof.Rows
section
variable {prog : Program} {w : World} {A : Around} {E : Value → Shared → Prop} {s : Shared}
noncomputable abbrev bareList : Obj := { cls := .type "list", data := .seq ([] : List Value).toArray }
theorem hint_set {a : Addr} {Q : Bool → Shared → Prop} (ty : s.TypeIs (.ref a) "set") (h : Q false s) : wpAny (model prog w) A (Builtin.List.listLengthHint (.ref a)) Q E s := by
  unfold Builtin.List.listLengthHint
  refine wpAny_bind (wpAny_specialOf ty F.slot_set_len.lookup ?_)
  (generalize hid : ("set.__len__" : String) = id0; (fail_if_success (clear hid id0)); wp_delta; rw [show splitId id0 = some ("set", "__len__") from by subst hid; decide +kernel]; subst hid)
  refine wpAny_bind (wpAny_isInstance (b := true) ty sub_set_self ?_)
  rw [if_neg (by decide)]
  show wpAny _ _ (if _ = true then typeOf (.ref a) >>= _ else _) _ _ _
  rw [if_pos (by decide +kernel)]
  refine wpAny_bind (wpAny_typeOf ty ?_)
  exact wpAny_pure h
set_option maxHeartbeats 4000000 in
theorem collect_tup {a : Addr} {KT : List KC} {Q : List Value → Shared → Prop} (hh : A.handled = none) (S : TupSet prog w s.heap a KT)
    (hQ : ∀ vs h' tk, List.Perm vs ((entK KT).map fun p => Value.ref p.2) → (∀ b o, s.heap.get? b = some o → h'.get? b = some o) → s.toks ≤ tk → Q vs { s with heap := h', toks := tk }) :
    wpAny (model prog w) A (collect (.ref a)) Q E s := by
  have hlt : a < s.heap.objs.size := let ⟨_, _, _, q, _⟩ := S.obj; Heap.lt_size q
  have hne : s.heap.objs.size ≠ a := Nat.ne_of_gt hlt
  have S1 : TupSet prog w (s.heap.push bareList) a KT := S.moved (fun o e => Heap.get?_push_of_some _ e) (fun p _ o e => Heap.get?_push_of_some _ e)
  have ty : Shared.TypeIs { s with heap := s.heap.push bareList } (.ref a) "set" := let ⟨_, _, _, q, e, _⟩ := S1.obj; ⟨_, q, e.1⟩
  unfold collect
  refine wpAny_bind (wpAny_runValue (codeAny_builtin F.entry_proto_collect ?_))
  rw [Around.under_plainId F.plain_proto_collect _]
  show wpAny _ A.in1 (newList [] >>= fun l => again (.builtin "list.__iadd__" ⟨[l, .ref a], []⟩)) _ _ s
  refine wpAny_bind (wpAny_newObj_type ?_)
  refine wpAny_pure ⟨plainId_quiet F.plain_list_iadd _, codeAny_builtin F.entry_list_iadd ?_⟩
  rw [Around.under_plainId F.plain_list_iadd _]
  show wpAny _ A.in1 (Builtin.List.listExtendWith (.ref s.heap.objs.size) (.ref a) (.ref s.heap.objs.size)) _ _ _
  unfold Builtin.List.listExtendWith
  refine wpAny_bind (wpAny_typeOf ty ?_)
  have c1 : Builtin.List.listSameRef (.ref s.heap.objs.size) (.ref a) = false := by simp [Builtin.List.listSameRef, hne]
  rw [if_neg (by rw [c1]; decide)]
  refine wpAny_bind (iter_tup S1 fun o ep t ho hd X hled hpl => ?_)
  have hI : (s.heap.push bareList).objs.size = s.heap.objs.size + 1 := Heap.size_push _ _
  refine wpAny_bind (wpAny_holding (hint_set ⟨o, Heap.get?_push_of_some _ ho, ?_⟩ ?_))
  · obtain ⟨o', ho', hc⟩ := ty
    have : o = o' := Option.some.inj (ho.symm.trans ho')
    rw [this]; exact hc
  rw [if_pos (by decide +kernel)]
  refine wpAny_bind (wpAny_rule ?_)
  refine wpAny_bind ?_
  have hf := TupSet.fits (h := s.heap) X S.small
  generalize hit : ({ cls := .type "set_iterator", dict := none, data := .fields #[.int 0 0, .int 0 0, .ref a, .int (esT (tabK prog w KT)).length 0, .int ep 0], slots := #[] } : Obj) = it
  have g1 : ((s.heap.push bareList).push it).get? s.heap.objs.size = some bareList := Heap.get?_push_of_some _ (Heap.get?_push_size _ rfl)
  have g2 : ((s.heap.push bareList).push it).get? (s.heap.push bareList).objs.size = some it := Heap.get?_push_size _ (by subst hit; rfl)
  show wpAny _ A.in1 (updateSeq s.heap.objs.size (·.push .none) >>= fun _ => updateSeq s.heap.objs.size (·.pop)) _ _ _
  refine wpAny_bind (wpAny_updateSeq g1 rfl ?_)
  have g3 := Heap.get?_update_self (Obj.mapSeq (·.push Value.none)) g1 rfl
  refine wpAny_updateSeq g3 rfl ?_
  have g4 := Heap.get?_update_self (Obj.mapSeq (·.pop)) g3 rfl
  have oth : ∀ b o, b ≠ s.heap.objs.size → ((s.heap.push bareList).push it).get? b = some o → ((((s.heap.push bareList).push it).update s.heap.objs.size (Obj.mapSeq (·.push Value.none))).update s.heap.objs.size (Obj.mapSeq (·.pop))).get? b = some o :=
    fun b o hb e => (Heap.get?_update_other _ _ (Ne.symm hb)).trans ((Heap.get?_update_other _ _ (Ne.symm hb)).trans e)
  have nI : a ≠ (s.heap.push bareList).objs.size := by rw [hI]; exact Nat.ne_of_lt (Nat.lt_succ_of_lt hlt)
  have nL : s.heap.objs.size ≠ (s.heap.push bareList).objs.size := by rw [hI]; exact Nat.ne_of_lt (Nat.lt_succ_self _)
  have n8 : (esT (tabK prog w KT)).length ≤ 4 := by rw [es_tab, List.length_map, ← keys_len]; exact S.small
  have g5 : ∃ c, (((((s.heap.push bareList).push it).update s.heap.objs.size (Obj.mapSeq (·.push Value.none))).update s.heap.objs.size (Obj.mapSeq (·.pop))).get? s.heap.objs.size = some { cls := .type "list", dict := none, data := .seq #[] c, slots := #[] }) := ⟨_, g4⟩
  have g6 := oth _ _ (Ne.symm nL) g2
  have g7 := oth _ _ (Ne.symm hne) (Heap.get?_push_of_some it ho)
  have g8 : ∀ b o, s.heap.get? b = some o → (((((s.heap.push bareList).push it).update s.heap.objs.size (Obj.mapSeq (·.push Value.none))).update s.heap.objs.size (Obj.mapSeq (·.pop))).get? b = some o) := fun b o e => oth b o (Nat.ne_of_lt (Heap.lt_size e)) (Heap.get?_push_of_some _ (Heap.get?_push_of_some _ e))
  clear g3 g4 oth g1 g2
  generalize (((s.heap.push bareList).push it).update s.heap.objs.size (Obj.mapSeq (·.push Value.none))).update s.heap.objs.size (Obj.mapSeq (·.pop)) = H at g5 g6 g7 g8 ⊢
  generalize (s.heap.push bareList).objs.size = I at hI nI nL g6 ⊢
  obtain ⟨c, g5⟩ := g5
  have st0 : (∃ slot, SetIt H I a slot 0 (esT (tabK prog w KT)).length ep ∧ (w.params.followText "set-order" = false → SetTable.below t.place slot = 0)) ∧ H.get? a = some o :=
    ⟨⟨0, by unfold SetIt; rw [g6, ← hit]; rfl, fun _ => first_place X⟩, g7⟩
  refine wpAny_pure ⟨plainId_quiet F.plain_extend_loop _, codeAny_extend_loopS (walk_tup (A := A.in1) (by simp [hh]) nI hd X hf hled hpl).toS (by have := sizeLine_eq; omega) s.heap.objs.size ?_ _ (esT (tabK prog w KT)).length 0 _ #[] c rfl (Nat.zero_le _) st0 g5 (ItemsOf.nil _) fun s' acc' c' hm hS' hacc => ?_⟩
  · simp only [List.mem_cons, List.mem_singleton, List.not_mem_nil, or_false, not_or]
    exact ⟨nL, hne⟩
  · show wpAny _ A (load s.heap.objs.size >>= _) _ _ s'
    refine wpAny_bind (wpAny_load hS' ?_)
    refine wpAny_pure ?_
    obtain ⟨h', g', d', tk', os'⟩ := s'
    have eg : g' = s.gens := hm.gens
    have ed : d' = s.drawn := hm.drawn
    have eo : os' = s.os := hm.os
    subst eg ed eo
    have hacc' : acc' = outs w a ep (esT (tabK prog w KT)).toArray := by
      apply Array.ext_getElem?
      intro i
      by_cases z : i < acc'.size
      · rw [hacc.2 i _ (Array.getElem?_eq_getElem z), Array.getElem?_eq_getElem z]
      · rw [Array.getElem?_eq_none (by omega), Array.getElem?_eq_none (by rw [outs_size, List.size_toArray, ← hacc.1]; omega)]
    refine hQ _ h' tk' ?_ (fun b o e => ?_) hm.toks
    · rw [hacc']
      refine (outs_perm w a ep _).trans ?_
      show List.Perm ((esT (tabK prog w KT)).map _) _
      rw [es_tab, List.map_map]
      exact List.Perm.refl _
    · have hb : b ≠ s.heap.objs.size := Nat.ne_of_lt (Heap.lt_size e)
      have hb2 : b ≠ I := by rw [hI]; exact Nat.ne_of_lt (Nat.lt_succ_of_lt (Heap.lt_size e))
      exact hm.heap b o (by simp only [List.mem_cons, List.mem_singleton, List.not_mem_nil, or_false, not_or]; exact ⟨hb, hb2⟩) (g8 b o e)
end
end Fn
set_option Elab.async false
set_option linter.all false
set_option maxRecDepth 100000
namespace Fn
open PySem L2 PySem.Spec PyProof.Rows
theorem lex_irr : ∀ a : List Int, HT.lexLt a a = false
  | [] => rfl
  | x :: r => by rw [HT.lexLt_cons, if_pos rfl]; exact lex_irr r
theorem lex_tr : ∀ a b c : List Int, HT.lexLt a b = true → HT.lexLt b c = true → HT.lexLt a c = true
  | [], [], c, h, _ => by cases h
  | [], y :: b, [], _, h => by cases h
  | [], y :: b, z :: c, _, _ => rfl
  | x :: a, [], c, h, _ => by cases h
  | x :: a, y :: b, [], _, h => by cases h
  | x :: a, y :: b, z :: c, h1, h2 => by
    rw [HT.lexLt_cons] at h1 h2 ⊢
    by_cases e1 : x = y
    · subst e1
      rw [if_pos rfl] at h1
      by_cases e2 : x = z
      · subst e2
        rw [if_pos rfl] at h2 ⊢
        exact lex_tr a b c h1 h2
      · rw [if_neg e2] at h2 ⊢
        exact h2
    · rw [if_neg e1] at h1
      have l1 := of_decide_eq_true h1
      by_cases e2 : y = z
      · subst e2
        rw [if_neg e1]; exact h1
      · rw [if_neg e2] at h2
        have l2 := of_decide_eq_true h2
        rw [if_neg (by omega)]
        exact decide_eq_true (by omega)
theorem lex_tot : ∀ a b : List Int, HT.lexLt a b = false → a ≠ b → HT.lexLt b a = true
  | [], [], _, h => absurd rfl h
  | [], y :: b, h, _ => by cases h
  | x :: a, [], _, _ => rfl
  | x :: a, y :: b, h, hne => by
    rw [HT.lexLt_cons] at h ⊢
    by_cases e : x = y
    · subst e
      rw [if_pos rfl] at h ⊢
      exact lex_tot a b h (fun z => hne (by rw [z]))
    · rw [if_neg e] at h
      have := of_decide_eq_false h
      rw [if_neg (fun z => e z.symm)]
      exact decide_eq_true (by omega)
noncomputable abbrev Up (l : List (List Int)) : Prop := l.Pairwise fun a b => HT.lexLt a b = true
theorem insK_mem (k x : List Int) : ∀ l, x ∈ insK k l ↔ x = k ∨ x ∈ l
  | [] => by simp [insK]
  | y :: r => by
    unfold insK
    split
    · simp
    · split
      · rename_i e
        subst e
        simp
      · rw [List.mem_cons, insK_mem k x r, List.mem_cons]
        constructor
        · rintro (h | h | h)
          · exact .inr (.inl h)
          · exact .inl h
          · exact .inr (.inr h)
        · rintro (h | h | h)
          · exact .inr (.inl h)
          · exact .inl h
          · exact .inr (.inr h)
theorem insK_up (k : List Int) : ∀ l, Up l → Up (insK k l)
  | [], _ => List.pairwise_singleton _ _
  | y :: r, h => by
    obtain ⟨h1, h2⟩ := List.pairwise_cons.mp h
    unfold insK
    split
    · rename_i c
      refine List.pairwise_cons.mpr ⟨fun z hz => ?_, h⟩
      rcases List.mem_cons.mp hz with rfl | hz
      · exact c
      · exact lex_tr _ _ _ c (h1 z hz)
    · split
      · exact h
      · rename_i c d
        refine List.pairwise_cons.mpr ⟨fun z hz => ?_, insK_up k r h2⟩
        rcases (insK_mem k z r).mp hz with rfl | hz
        · exact lex_tot _ _ (by simpa using c) d
        · exact h1 z hz
theorem sortK_mem (x : List Int) : ∀ ks, x ∈ sortK ks ↔ x ∈ ks
  | [] => Iff.rfl
  | k :: r => by
    show x ∈ insK k (sortK r) ↔ _
    rw [insK_mem, sortK_mem x r, List.mem_cons]
theorem sortK_up : ∀ ks, Up (sortK ks)
  | [] => List.Pairwise.nil
  | k :: r => insK_up k _ (sortK_up r)
theorem up_nodup {l : List (List Int)} (h : Up l) : l.Nodup := h.imp (fun {a b} hab e => by subst e; rw [lex_irr] at hab; cases hab)
theorem up_eq : ∀ l l' : List (List Int), Up l → Up l' → (∀ x, x ∈ l ↔ x ∈ l') → l = l'
  | [], [], _, _, _ => rfl
  | [], y :: r, _, _, h => by have := (h y).mpr List.mem_cons_self; cases this
  | x :: r, [], _, _, h => by have := (h x).mp List.mem_cons_self; cases this
  | x :: r, y :: q, u, v, h => by
    obtain ⟨u1, u2⟩ := List.pairwise_cons.mp u
    obtain ⟨v1, v2⟩ := List.pairwise_cons.mp v
    have e : x = y := by
      rcases List.mem_cons.mp ((h x).mp List.mem_cons_self) with e | hx
      · exact e
      · rcases List.mem_cons.mp ((h y).mpr List.mem_cons_self) with e | hy
        · exact e.symm
        · have a := v1 x hx
          have b := u1 y hy
          have := lex_tr _ _ _ a b
          rw [lex_irr] at this; cases this
    subst e
    have : r = q := up_eq r q u2 v2 fun z => by
      constructor
      · intro hz
        rcases List.mem_cons.mp ((h z).mp (List.mem_cons_of_mem _ hz)) with e | g
        · subst e; have := u1 z hz; rw [lex_irr] at this; cases this
        · exact g
      · intro hz
        rcases List.mem_cons.mp ((h z).mpr (List.mem_cons_of_mem _ hz)) with e | g
        · subst e; have := v1 z hz; rw [lex_irr] at this; cases this
        · exact g
    rw [this]
theorem sub_len : ∀ (z l : List (List Int)), z.Nodup → (∀ x ∈ z, x ∈ l) → z.length ≤ l.length
  | [], l, _, _ => Nat.zero_le _
  | x :: z, l, hn, hs => by
    obtain ⟨h1, h2⟩ := List.nodup_cons.mp hn
    have hx := hs x List.mem_cons_self
    have := sub_len z (l.erase x) h2 (fun y hy => (List.mem_erase_of_ne (fun e => h1 (by rw [← e]; exact hy))).mpr (hs y (List.mem_cons_of_mem _ hy)))
    rw [List.length_erase_of_mem hx] at this
    have hp : 0 < l.length := List.length_pos_of_mem hx
    rw [List.length_cons]
    omega
theorem cap_of {ks : List (List Int)} (h : (sortK ks).length ≤ 4) (z : List (List Int)) (hn : z.Nodup) (hs : ∀ x ∈ z, x ∈ ks) : z.length ≤ 4 :=
  Nat.le_trans (sub_len z (sortK ks) hn fun x hx => (sortK_mem x ks).mpr (hs x hx)) h
end Fn
set_option Elab.async false
set_option linter.all false
set_option maxRecDepth 100000
namespace Fn
open PySem L2 PySem.Spec PyProof.Rows PySem.W
noncomputable def runT {α : Type} (lt : Nat → Nat → Bool) : KasT α → α
  | .ret a => a
  | .ask i j k => runT lt (k (lt i j))
noncomputable def okT {α : Type} (n : Nat) : KasT α → Bool
  | .ret _ => true
  | .ask i j k => decide (i < n) && decide (j < n) && okT n (k true) && okT n (k false)
theorem okT_ask {α : Type} {n i j : Nat} {k : Bool → KasT α} (h : okT n (.ask i j k) = true) : i < n ∧ j < n ∧ ∀ b, okT n (k b) = true := by
  unfold okT at h
  simp only [Bool.and_eq_true, decide_eq_true_eq] at h
  exact ⟨h.1.1.1, h.1.1.2, fun b => by cases b; exact h.2; exact h.1.2⟩
theorem runT_wp {α : Type} {n : Nat} {cmp : Nat → Nat → (Bool → Shared → Prop) → Shared → Prop} {lt : Nat → Nat → Bool} {Q : α → Shared → Prop} {s : Shared}
    (hc : ∀ i j (C : Bool → Shared → Prop), i < n → j < n → C (lt i j) s → cmp i j C s) : ∀ t : KasT α, okT n t = true → Q (runT lt t) s → t.kasWp cmp Q s
  | .ret a, _, h => h
  | .ask i j k, o, h => hc i j _ (okT_ask o).1 (okT_ask o).2.1 (runT_wp hc (k (lt i j)) ((okT_ask o).2.2 _) h)
theorem runT_congr {α : Type} {n : Nat} {lt lt' : Nat → Nat → Bool} (hc : ∀ i j, i < n → j < n → lt i j = lt' i j) : ∀ t : KasT α, okT n t = true → runT lt t = runT lt' t
  | .ret a, _ => rfl
  | .ask i j k, o => by
    show runT lt (k (lt i j)) = runT lt' (k (lt' i j))
    rw [hc i j (okT_ask o).1 (okT_ask o).2.1]
    exact runT_congr hc _ ((okT_ask o).2.2 _)
noncomputable def ltL (r : List Nat) (i j : Nat) : Bool := decide (r.getD i 0 < r.getD j 0)
noncomputable def goodR (r : List Nat) : Bool := let p := runT (ltL r) (kas_sort r.length); decide (p.toList.map (fun i => r.getD i 0) = List.range r.length) && p.toList.isPerm (List.range r.length)
theorem sort2 : ∀ a b : Fin 2, a ≠ b → goodR [a.1, b.1] = true := by decide +kernel
theorem sort3 : ∀ a b c : Fin 3, a ≠ b → a ≠ c → b ≠ c → goodR [a.1, b.1, c.1] = true := by decide +kernel
theorem sort4 : ∀ a b c d : Fin 4, (a != b && a != c && a != d && b != c && b != d && c != d) = true → goodR [a.1, b.1, c.1, d.1] = true := by decide +kernel
theorem ok2 : okT 2 (kas_sort 2) = true := by decide +kernel
theorem ok3 : okT 3 (kas_sort 3) = true := by decide +kernel
theorem ok4 : okT 4 (kas_sort 4) = true := by decide +kernel
theorem good_of {r : List Nat} (hn : r.Nodup) (hl : ∀ x ∈ r, x < r.length) (h2 : 2 ≤ r.length) (h4 : r.length ≤ 4) : goodR r = true ∧ okT r.length (kas_sort r.length) = true := by
  match r, hn, hl, h2, h4 with
  | [a, b], hn, hl, _, _ =>
    simp at hn hl
    exact ⟨sort2 ⟨a, by omega⟩ ⟨b, by omega⟩ (by simp [Fin.ext_iff]; omega), ok2⟩
  | [a, b, c], hn, hl, _, _ =>
    simp at hn hl
    exact ⟨sort3 ⟨a, by omega⟩ ⟨b, by omega⟩ ⟨c, by omega⟩ (by simp [Fin.ext_iff]; omega) (by simp [Fin.ext_iff]; omega) (by simp [Fin.ext_iff]; omega), ok3⟩
  | [a, b, c, d], hn, hl, _, _ =>
    simp at hn hl
    exact ⟨sort4 ⟨a, by omega⟩ ⟨b, by omega⟩ ⟨c, by omega⟩ ⟨d, by omega⟩ (by simp [Fin.ext_iff]; omega), ok4⟩
noncomputable def rk (ks : List (List Int)) (k : List Int) : Nat := ks.countP fun x => HT.lexLt x k
theorem cnt_lt : ∀ (l : List (List Int)) (p q : List Int → Bool) (a : List Int), a ∈ l → p a = false → q a = true → (∀ x, p x = true → q x = true) → l.countP p < l.countP q
  | [], _, _, _, h, _, _, _ => by cases h
  | y :: l, p, q, a, h, h1, h2, h3 => by
    rw [List.countP_cons, List.countP_cons]
    have m : l.countP p ≤ l.countP q := List.countP_mono_left fun x _ hx => h3 x hx
    rcases List.mem_cons.mp h with rfl | h
    · rw [h1, h2]; simp; omega
    · have := cnt_lt l p q a h h1 h2 h3
      cases e : p y with
      | true => rw [h3 y e]; simp; omega
      | false => simp; split <;> omega
theorem rk_lt {ks : List (List Int)} {a b : List Int} (ha : a ∈ ks) (h : HT.lexLt a b = true) : rk ks a < rk ks b :=
  cnt_lt ks _ _ a ha (lex_irr a) h fun x hx => lex_tr _ _ _ hx h
theorem rk_iff {ks : List (List Int)} {a b : List Int} (ha : a ∈ ks) (hb : b ∈ ks) : HT.lexLt a b = decide (rk ks a < rk ks b) := by
  cases e : HT.lexLt a b with
  | true => exact (decide_eq_true (rk_lt ha e)).symm
  | false =>
    by_cases z : a = b
    · subst z; simp
    · have := rk_lt hb (lex_tot _ _ e z)
      exact (decide_eq_false (by omega)).symm
theorem rk_small {ks : List (List Int)} {a : List Int} (ha : a ∈ ks) : rk ks a < ks.length := by
  have := cnt_lt ks (fun x => HT.lexLt x a) (fun _ => true) a ha (lex_irr a) rfl (fun _ _ => rfl)
  have e : ks.countP (fun _ => true) = ks.length := by simp
  unfold rk; omega
end Fn
set_option Elab.async false
set_option linter.all false
set_option maxRecDepth 100000
namespace Fn
open PySem L2 PySem.Spec PyProof.Rows PySem.W
theorem getD_map {ks : List (List Int)} {f : List Int → Nat} {i : Nat} (h : i < ks.length) : (ks.map f).getD i 0 = f (ks.getD i []) := by
  rw [List.getD_eq_getElem?_getD, List.getD_eq_getElem?_getD, List.getElem?_map, List.getElem?_eq_getElem h]; rfl
theorem getD_mem {ks : List (List Int)} {i : Nat} (h : i < ks.length) : ks.getD i [] ∈ ks := by
  rw [List.getD_eq_getElem?_getD, List.getElem?_eq_getElem h]; exact List.getElem_mem h
theorem range_getD (ks : List (List Int)) : (List.range ks.length).map (fun i => ks.getD i []) = ks := by
  apply List.ext_getElem?
  intro i
  rw [List.getElem?_map]
  by_cases h : i < ks.length
  · rw [List.getElem?_range h, List.getElem?_eq_getElem h]
    show some (ks.getD i []) = _
    rw [List.getD_eq_getElem?_getD, List.getElem?_eq_getElem h]; rfl
  · rw [List.getElem?_eq_none (by simp; omega), List.getElem?_eq_none (by omega)]; rfl
theorem sortT {ks : List (List Int)} (hn : ks.Nodup) (h2 : 2 ≤ ks.length) (h4 : ks.length ≤ 4) :
    okT ks.length (kas_sort ks.length) = true ∧ List.Perm (runT (fun i j => HT.lexLt (ks.getD i []) (ks.getD j [])) (kas_sort ks.length)).toList (List.range ks.length)
      ∧ (runT (fun i j => HT.lexLt (ks.getD i []) (ks.getD j [])) (kas_sort ks.length)).toList.map (fun i => ks.getD i []) = sortK ks := by
  have rl : (ks.map (rk ks)).length = ks.length := List.length_map _
  have hr : (ks.map (rk ks)).Nodup := by
    refine List.pairwise_map.mpr (hn.imp_of_mem fun {a b} ha hb hne e => ?_)
    cases q : HT.lexLt a b with
    | true => have := rk_lt ha q; omega
    | false => have := rk_lt hb (lex_tot _ _ q hne); omega
  obtain ⟨g, o⟩ := good_of hr (fun x hx => by
    obtain ⟨a, ha, rfl⟩ := List.mem_map.mp hx
    rw [rl]; exact rk_small ha) (by rw [rl]; exact h2) (by rw [rl]; exact h4)
  unfold goodR at g
  rw [rl] at g o
  have ec := runT_congr (lt := fun i j => HT.lexLt (ks.getD i []) (ks.getD j [])) (lt' := ltL (ks.map (rk ks))) (n := ks.length) (fun i j hi hj => by
    show HT.lexLt (ks.getD i []) (ks.getD j []) = decide (_ < _)
    rw [getD_map hi, getD_map hj]
    exact rk_iff (getD_mem hi) (getD_mem hj)) _ o
  rw [ec]
  simp only [Bool.and_eq_true, decide_eq_true_eq] at g
  obtain ⟨g1, g2⟩ := g
  have hp := List.isPerm_iff.mp g2
  refine ⟨o, hp, ?_⟩
  generalize (runT (ltL (ks.map (rk ks))) (kas_sort ks.length)).toList = p at g1 hp ⊢
  have hin : ∀ i ∈ p, i < ks.length := fun i hi => List.mem_range.mp (hp.mem_iff.mp hi)
  have hout : List.Perm (p.map fun i => ks.getD i []) ks := by
    have := hp.map fun i => ks.getD i []
    rw [range_getD] at this
    exact this
  refine up_eq _ _ ?_ (sortK_up ks) fun x => by rw [hout.mem_iff, sortK_mem]
  have hpw : (p.map fun i => (ks.map (rk ks)).getD i 0).Pairwise (· < ·) := by rw [g1]; exact List.pairwise_lt_range
  refine List.pairwise_map.mpr ((List.pairwise_map.mp hpw).imp_of_mem fun {i j} hi hj hlt => ?_)
  rw [getD_map (hin i hi), getD_map (hin j hj)] at hlt
  rw [rk_iff (getD_mem (hin i hi)) (getD_mem (hin j hj))]
  exact decide_eq_true hlt
end Fn
set_option Elab.async false
set_option linter.all false
set_option maxRecDepth 100000
namespace Fn
open PySem L2 PySem.Spec PyProof.Rows PySem.W
section
variable {prog : Program} {w : World} {A : Around} {E : Value → Shared → Prop} {s : Shared}
theorem int_lt_any {b : Bool} {x y : Int} {t u : Tok} {Q : Bool → Shared → Prop} (h : Q (decide (x < y)) s) : wpAny (model prog w) A (oneLt' b (.int x t) (.int y u)) Q E s := by
  cases b with
  | true => exact oneLt_int h
  | false => exact kat_one _ _ (lt_int h)
theorem lex_go {b : Bool} {Q : Bool → Shared → Prop} (ks : List Int) : ∀ {ms : List Int} {xs ys : List Value} (i : Nat) (fin : Bool), ItemsAre (intKind prog w) ks xs → ItemsAre (intKind prog w) ms ys →
    (∀ d, d = HT.lexLt ks ms → Q d s) → (fin = decide (xs.length < ys.length)) → KatLex prog w A b fin Q (xs.zip ys) i s := by
  induction ks with
  | nil =>
    intro ms xs ys i fin r1 r2 h hf
    cases r1
    cases r2 with
    | nil => exact kat_nil (h _ (by rw [hf]; rfl))
    | cons _ _ => exact kat_nil (h _ (by rw [hf]; simp; rfl))
  | cons k ks ih =>
    intro ms xs ys i fin r1 r2 h hf
    cases r1 with
    | cons h1 r1 =>
      cases r2 with
      | nil => exact kat_nil (h _ (by rw [hf]; simp; rfl))
      | cons h2 r2 =>
        rename_i x xs m ms y ys
        show KatLex prog w A b fin Q ((_, _) :: List.zip _ _) i s
        refine kat_cons ((intKind prog w).eqBool h1 h2 ?_)
        rw [HT.lexLt_cons] at h
        by_cases z : k = m
        · rw [decide_eq_true z]
          rw [if_pos z] at h
          refine kat_yes (ih (i + 1) fin r1 r2 h (by rw [hf]; simp))
        · rw [decide_eq_false z]
          rw [if_neg z] at h
          obtain ⟨t, rfl⟩ := Value.isInt_shape h1
          obtain ⟨u, rfl⟩ := Value.isInt_shape h2
          exact kat_no (int_lt_any (h _ rfl))
theorem key_lt {b : Bool} {ks ms : List Int} {x y : Addr} {Q : Bool → Shared → Prop} (hx : IsTupleKey (intKind prog w) s.heap ks x) (hy : IsTupleKey (intKind prog w) s.heap ms y) (h : Q (HT.lexLt ks ms) s) :
    wpAny (model prog w) A (keyLt' (tuples' b) (.ref x) (.ref y)) Q E s := by
  obtain ⟨ox, xs, n, ho, _, hd, hi⟩ := hx
  obtain ⟨oy, ys, m, ho2, _, hd2, hi2⟩ := hy
  exact kat_lt ho hd ho2 hd2 (lex_go ks 0 _ hi hi2 (fun d e => by rw [e]; exact h) (by simp))
end
end Fn
set_option Elab.async false
set_option linter.all false
set_option maxRecDepth 100000
namespace Fn
open PySem L2 PySem.Spec PyProof.Rows PySem.W
section
variable {prog : Program} {w : World} {A : Around} {E : Value → Shared → Prop} {s : Shared}
noncomputable def KeysV (prog : Program) (w : World) (h : Heap) : List Value → List (List Int) → Prop
  | [], [] => True
  | v :: vs, k :: ks => (∃ b, v = .ref b ∧ IsTupleKey (intKind prog w) h k b) ∧ KeysV prog w h vs ks
  | _, _ => False
theorem KeysV.length {h : Heap} : ∀ {vs : List Value} {ks : List (List Int)}, KeysV prog w h vs ks → vs.length = ks.length
  | [], [], _ => rfl
  | [], _ :: _, x => x.elim
  | _ :: _, [], x => x.elim
  | _ :: _, _ :: _, x => congrArg (· + 1) (KeysV.length x.2)
theorem KeysV.at {h : Heap} : ∀ {vs : List Value} {ks : List (List Int)}, KeysV prog w h vs ks → ∀ i, i < vs.length → ∃ b, vs.getD i Value.none = .ref b ∧ IsTupleKey (intKind prog w) h (ks.getD i []) b
  | [], [], _, i, hi => by cases hi
  | [], _ :: _, x, _, _ => x.elim
  | _ :: _, [], x, _, _ => x.elim
  | v :: vs, k :: ks, x, 0, _ => x.1
  | v :: vs, k :: ks, x, i + 1, hi => KeysV.at x.2 i (by simpa using hi)
theorem KeysV.kept {h h' : Heap} (hk : ∀ b k, IsTupleKey (intKind prog w) h k b → IsTupleKey (intKind prog w) h' k b) : ∀ {vs : List Value} {ks : List (List Int)}, KeysV prog w h vs ks → KeysV prog w h' vs ks
  | [], [], _ => trivial
  | [], _ :: _, x => x.elim
  | _ :: _, [], x => x.elim
  | _ :: _, _ :: _, x => ⟨let ⟨b, e, q⟩ := x.1; ⟨b, e, hk _ _ q⟩, KeysV.kept hk x.2⟩
theorem KeysV.firsts {h : Heap} : ∀ {vs : List Value} {ks : List (List Int)}, KeysV prog w h vs ks → (∀ k ∈ ks, k ≠ []) → ∃ fs, KatTups h vs fs ∧ fs.length = vs.length ∧ ∀ f ∈ fs, ∃ n t, f = Value.int n t
  | [], [], _, _ => ⟨[], trivial, rfl, fun f hf => by cases hf⟩
  | [], _ :: _, x, _ => x.elim
  | _ :: _, [], x, _ => x.elim
  | v :: vs, k :: ks, x, hne => by
    obtain ⟨⟨b, rfl, o, items, n, ho, hc, hd, hi⟩, r⟩ := x
    obtain ⟨fs, f1, f2, f3⟩ := KeysV.firsts r (fun k hk => hne k (List.mem_cons_of_mem _ hk))
    have hk := hne k List.mem_cons_self
    obtain ⟨its⟩ := items
    cases hi with
    | nil => exact absurd rfl hk
    | cons h1 r1 =>
      obtain ⟨t, rfl⟩ := Value.isInt_shape h1
      exact ⟨_ :: fs, KatTups.cons ho hc hd rfl f1, by rw [List.length_cons, List.length_cons, f2], fun f hf => by
        rcases List.mem_cons.mp hf with rfl | hf
        · exact ⟨_, _, rfl⟩
        · exact f3 f hf⟩
theorem key_kind {vs : List Value} {ks : List (List Int)} {Q : SortKind → Shared → Prop} (K : KeysV prog w s.heap vs ks) (hne : ∀ k ∈ ks, k ≠ []) (h0 : 0 < vs.length) (h : Q (tuples' true) s) :
    wpAny (model prog w) A (keyKind' vs.toArray) Q E s := by
  obtain ⟨fs, f1, f2, f3⟩ := K.firsts hne
  refine kat_kind (T := .type "int") f1 (by omega) (fun v hv => ?_) (by decide) ?_
  · obtain ⟨n, t, rfl⟩ := f3 v hv
    exact .now
  · exact h
end
end Fn
set_option Elab.async false
set_option linter.all false
set_option maxRecDepth 100000
namespace Fn
open PySem L2 PySem.Spec PyProof.Rows PySem.W
section
variable {prog : Program} {w : World} {A : Around} {E : Value → Shared → Prop} {s : Shared}
theorem sortK_short {ks : List (List Int)} (h : ks.length < 2) : sortK ks = ks := by
  match ks, h with
  | [], _ => rfl
  | [k], _ => rfl
theorem keysV_pick {h : Heap} {vs : List Value} {ks : List (List Int)} (K : KeysV prog w h vs ks) : ∀ (p : List Nat), (∀ i ∈ p, i < vs.length) → KeysV prog w h (p.map fun i => vs.getD i Value.none) (p.map fun i => ks.getD i [])
  | [], _ => trivial
  | i :: p, hp => ⟨K.at i (hp i List.mem_cons_self), keysV_pick K p fun j hj => hp j (List.mem_cons_of_mem _ hj)⟩
theorem zip_snd : ∀ vs : List Value, List.map (fun x => x.snd) (vs.zip vs) = vs
  | [] => rfl
  | v :: vs => by rw [List.zip_cons_cons, List.map_cons, zip_snd vs]
set_option maxHeartbeats 1000000 in
theorem sort_tups {a : Addr} {n : Nat} {vs : List Value} {ks : List (List Int)} {P : PySem.Fin → Shared → Prop} (ho : s.heap.get? a = some (seqObj "list" vs.toArray n))
    (K : KeysV prog w s.heap vs ks) (hne : ∀ k ∈ ks, k ≠ []) (hn : ks.Nodup) (h4 : vs.length ≤ 4)
    (h : ∀ out h' c, h'.get? a = some (seqObj "list" (List.toArray out) c) → (∀ b o, b ≠ a → s.heap.get? b = some o → h'.get? b = some o) → KeysV prog w h' out (sortK ks) → (∀ u ∈ out, u ∈ vs) → P (.done (.ret .none)) { s with heap := h' }) :
    wpAny (model prog w) A (Builtin.«list.sort» ⟨[.ref a], []⟩) P E s := by
  have hlen := K.length
  obtain ⟨e1, ho1⟩ : ∃ e1, (s.heap.update a (Obj.mapSeq fun _ => (#[] : Array Value))).get? a = some (seqObj "list" #[] e1) := ⟨_, get?_update_seq ho fun _ => #[]⟩
  have s1 := Heap.SameBut.update s.heap a (Obj.mapSeq fun _ => (#[] : Array Value))
  have s2 : ∀ b o, b ≠ a → s.heap.get? b = some o → (((s.heap.update a (Obj.mapSeq fun _ => (#[] : Array Value))).push (seqObj "tuple" vs.toArray 0)).push (seqObj "list" #[] 0)).get? b = some o := fun b o hb e => Heap.get?_push_of_some _ (Heap.get?_push_of_some _ ((s1.2 b hb).trans e))
  have ho2 : (((s.heap.update a (Obj.mapSeq fun _ => (#[] : Array Value))).push (seqObj "tuple" vs.toArray 0)).push (seqObj "list" #[] 0)).get? a = some (seqObj "list" #[] e1) := Heap.get?_push_of_some _ (Heap.get?_push_of_some _ ho1)
  rw [list_sort_plain]
  refine wpAny_bind (listItems_at ho rfl ?_)
  refine wpAny_bind (listUpdate_at ho rfl ?_ (by rw [List.size_toArray, sizeLine_eq]; omega) (Nat.zero_le _))
  refine wpAny_bind (seqEpoch_at ho1 rfl ?_)
  refine wpAny_bind (wpAny_newTuple ?_ (by show vs.length ≤ _; rw [sizeLine_eq]; omega))
  refine wpAny_bind (wpAny_newList ?_ (Nat.zero_le _))
  refine wpAny_holding ?_
  show wpAny (model prog w) A _ P E { s with heap := ((s.heap.update a (Obj.mapSeq fun _ => (#[] : Array Value))).push (seqObj "tuple" vs.toArray 0)).push (seqObj "list" #[] 0) }
  dsimp only
  generalize ((s.heap.update a (Obj.mapSeq fun _ => (#[] : Array Value))).push (seqObj "tuple" vs.toArray 0)).push (seqObj "list" #[] 0) = H at s2 ho2 ⊢
  have keep : ∀ {h' : Heap}, (∀ b o, b ≠ a → s.heap.get? b = some o → h'.get? b = some o) → ∀ b k, IsTupleKey (intKind prog w) s.heap k b → IsTupleKey (intKind prog w) h' k b := by
    intro h' hk b k x
    obtain ⟨o, it, m, q, c, r⟩ := x
    refine ⟨o, it, m, hk b o (fun z => ?_) q, c, r⟩
    subst z
    rw [ho] at q
    cases q
    exact absurd c (by show ¬ (Value.type "list" = Value.type "tuple"); decide)
  have fin : ∀ (out : List Value), out.length ≤ 4 → (∀ h', (∀ b o, b ≠ a → s.heap.get? b = some o → h'.get? b = some o) → KeysV prog w h' out (sortK ks)) → (∀ u ∈ out, u ∈ vs) → ∀ (before : Nat), before = e1 →
      wpAny (model prog w) A (do
        let touched := (← seqEpoch a) != before
        Builtin.List.listUpdate (.ref a) fun _ => List.toArray out
        if touched then rule "list.sort.modified"; raiseError "ValueError" "list modified during sort"
        ret .none) P E { s with heap := H } := by
    intro out hl hk hsub before hb
    subst hb
    refine wpAny_bind (seqEpoch_at ho2 rfl ?_)
    refine wpAny_bind (listUpdate_at ho2 rfl ?_ (Nat.zero_le _) (by rw [List.size_toArray, sizeLine_eq]; omega))
    simp only [bne_self_eq_false, Bool.false_eq_true, if_false]
    obtain ⟨c, hc⟩ : ∃ c, (H.update a (Obj.mapSeq fun _ => List.toArray out)).get? a = some (seqObj "list" (List.toArray out) c) := ⟨_, get?_update_seq ho2 fun _ => List.toArray out⟩
    have s3 : ∀ b o, b ≠ a → s.heap.get? b = some o → (H.update a (Obj.mapSeq fun _ => List.toArray out)).get? b = some o := fun b o hb e => ((Heap.SameBut.update H a _).2 b hb).trans (s2 b o hb e)
    exact wpAny_pure (h out _ c hc s3 (hk _ s3) hsub)
  by_cases h2 : vs.length < 2
  · have hs : vs.toArray.size < 2 := by rw [List.size_toArray]; exact h2
    rw [if_pos hs, if_pos hs]
    refine wpAny_bind (wpAny_pure ?_)
    refine wpAny_bind (wpAny_pure ?_)
    dsimp only
    have ha : (arrOf (SortSt.mk' general' (vs.toArray.zip vs.toArray) #[] 7 none)).map (·.2) = vs.toArray := by
      show (vs.toArray.zip vs.toArray).map (·.2) = vs.toArray
      apply Array.toList_inj.mp
      simp
      exact zip_snd vs
    rw [ha]
    exact fin vs h4 (fun h' hk => by rw [sortK_short (by omega)]; exact K.kept (keep hk)) (fun u hu => hu) e1 rfl
  · have hs : ¬ vs.toArray.size < 2 := by rw [List.size_toArray]; exact h2
    rw [if_neg hs, if_neg hs]
    have KH : KeysV prog w H vs ks := K.kept (keep s2)
    obtain ⟨so, sp, sk⟩ := sortT hn (by omega) (by omega)
    rw [← hlen] at so sp sk
    refine wpAny_bind (key_kind (s := { s with heap := H }) KH hne (by omega) ?_)
    refine wpAny_bind (wpAny_mono (kat_run (Q := fun st' s' => ∃ p : Array Nat, p.size = vs.length ∧ arrOf st' = p.map (kas_item (vs.toArray.zip vs.toArray)) ∧ failedOf st' = none ∧ (p = runT (fun i j => HT.lexLt (ks.getD i []) (ks.getD j [])) (kas_sort vs.length) ∧ s' = { s with heap := H })) rfl (by omega) (by omega) (fun p' st' s' a1 a2 a3 a4 => ⟨p', a1, a2, a3, a4⟩)
      (runT_wp (n := vs.length) (lt := fun i j => HT.lexLt (ks.getD i []) (ks.getD j [])) (fun i j C hi hj hC => ?_) _ so ⟨rfl, rfl⟩)) ?_ fun _ _ e => e)
    · obtain ⟨b1, e1', k1⟩ := KH.at i hi
      obtain ⟨b2, e2', k2⟩ := KH.at j hj
      show wpAny _ _ (keyLt' _ (vs.getD i Value.none) (vs.getD j Value.none)) _ _ _
      rw [e1', e2']
      exact key_lt (s := { s with heap := H }) k1 k2 hC
    · rintro ⟨⟨⟩, st'⟩ s' ⟨p, hp, har, hf, hpe, rfl⟩
      dsimp only
      rw [kat_snds rfl har, hf]
      refine fin (p.toList.map fun i => vs.getD i Value.none) (by rw [List.length_map, Array.length_toList, hp]; exact h4) (fun h' hk => ?_) (fun u hu => ?_) e1 rfl
      rotate_left
      · obtain ⟨i, hi, rfl⟩ := List.mem_map.mp hu
        rw [hpe] at hi
        have hlt := List.mem_range.mp (sp.mem_iff.mp hi)
        rw [List.getD_eq_getElem?_getD, List.getElem?_eq_getElem hlt]
        exact List.getElem_mem hlt
      rw [← sk, ← hpe]
      refine keysV_pick (K.kept (keep hk)) _ fun i hi => ?_
      rw [hpe] at hi
      exact List.mem_range.mp (sp.mem_iff.mp hi)
end
end Fn
set_option Elab.async false
set_option linter.all false
set_option maxRecDepth 100000
namespace Fn
open PySem L2 PySem.Spec PyProof.Rows PySem.W PySem.Calls
section
variable {prog : Program} {w : World} {A : Around} {E : Value → Shared → Prop} {s : Shared}
theorem keysV_of {h : Heap} : ∀ {ps : List (List Int × Addr)}, (∀ p ∈ ps, IsTupleKey (intKind prog w) h p.1 p.2) → KeysV prog w h (ps.map fun p => Value.ref p.2) (ps.map (·.1))
  | [], _ => trivial
  | p :: ps, hp => ⟨⟨p.2, rfl, hp p List.mem_cons_self⟩, keysV_of fun q hq => hp q (List.mem_cons_of_mem _ hq)⟩
theorem perm_lift {α β : Type} {f : α → β} : ∀ {l : List β} {ps : List α}, List.Perm l (ps.map f) → ∃ ps', List.Perm ps' ps ∧ l = ps'.map f := by
  intro l ps h
  generalize hm : ps.map f = m at h
  induction h generalizing ps with
  | nil => exact ⟨ps, List.Perm.refl _, hm.symm⟩
  | @cons x l1 l2 h ih =>
    cases ps with
    | nil => cases hm
    | cons p ps =>
      obtain ⟨e1, e2⟩ := List.cons.inj hm
      obtain ⟨q, q1, q2⟩ := ih e2
      exact ⟨p :: q, List.Perm.cons p q1, by rw [List.map_cons, e1, q2]⟩
  | swap x y l =>
    match ps, hm with
    | p :: q :: ps, hm =>
      obtain ⟨e1, e2⟩ := List.cons.inj hm
      obtain ⟨e3, e4⟩ := List.cons.inj e2
      exact ⟨q :: p :: ps, List.Perm.swap _ _ _, by rw [List.map_cons, List.map_cons, e1, e3, e4]⟩
  | trans h1 h2 ih1 ih2 =>
    obtain ⟨q, q1, q2⟩ := ih2 hm
    obtain ⟨r, r1, r2⟩ := ih1 q2.symm
    exact ⟨r, r1.trans q1, r2⟩
theorem sorted_tups {a : Addr} {KT : List KC} {Q : Value → Shared → Prop} (hh : A.handled = none) (S : TupSet prog w s.heap a KT) (hne : ∀ k ∈ keysK KT, k ≠ [])
    (h : ∀ D out h' tk c, (∀ b o, s.heap.get? b = some o → b < D) → h'.get? D = some (seqObj "list" (List.toArray out) c) → (∀ b o, s.heap.get? b = some o → h'.get? b = some o) → KeysV prog w h' out (sortK (keysK KT)) → s.toks ≤ tk → (∀ u ∈ out, ∃ p ∈ entK KT, u = Value.ref p.2) → Q (.ref D) { s with heap := h', toks := tk }) :
    wpAny (model prog w) A (call (.builtin "sorted") [.ref a]) Q E s := by
  refine Calls.call_function_entry kind_sorted plain_sorted entry_sorted (args_sorted1 _) ?_
  unfold Builtin.«sorted»
  refine wpAny_bind (m := checkCount "sorted" 1 1 _) (wpAny_pure ?_)
  refine wpAny_bind (collect_tup hh S fun vs h1 tk hp hk ht => ?_)
  obtain ⟨ps, p1, rfl⟩ := perm_lift hp
  have hl4 : ps.length ≤ 4 := by rw [p1.length_eq, ← keys_len]; exact S.small
  refine wpAny_bind (wpAny_newList ?_ (by rw [List.length_map, sizeLine_eq]; omega))
  have g0 : (h1.push (seqObj "list" (List.toArray (ps.map fun p => Value.ref p.2)) 0)).get? h1.objs.size = some (seqObj "list" (List.toArray (ps.map fun p => Value.ref p.2)) 0) := Heap.get?_push_size _ rfl
  have k0 : ∀ b o, s.heap.get? b = some o → (h1.push (seqObj "list" (List.toArray (ps.map fun p => Value.ref p.2)) 0)).get? b = some o := fun b o e => Heap.get?_push_of_some _ (hk b o e)
  have KV : KeysV prog w (h1.push (seqObj "list" (List.toArray (ps.map fun p => Value.ref p.2)) 0)) (ps.map fun p => Value.ref p.2) (ps.map (·.1)) := keysV_of fun p hp' => by
    obtain ⟨o, it, m, q, r⟩ := S.keys p (p1.mem_iff.mp hp')
    exact ⟨o, it, m, k0 _ _ q, r⟩
  have kp : List.Perm (ps.map (·.1)) (keysK KT) := p1.map Prod.fst
  show wpAny _ _ _ _ _ { s with heap := h1.push (seqObj "list" (List.toArray (ps.map fun p => Value.ref p.2)) 0), toks := tk }
  refine wpAny_bind (wpAny_holding (wpAny_call_entry slot_list_sort ⟨_, g0, rfl⟩ entry_list_sort ?body (args_list_sort _)))
  case body =>
    refine sort_tups (s := { s with heap := h1.push (seqObj "list" (List.toArray (ps.map fun p => Value.ref p.2)) 0), toks := tk }) g0 KV (fun k hk' => hne k (kp.mem_iff.mp hk')) (kp.nodup_iff.mpr S.nodup) (by rw [List.length_map]; exact hl4) fun out h2 c g2 k2 K2 hsub => ?_
    refine ⟨_, rfl, wpAny_pure ⟨_, rfl, ?_⟩⟩
    refine h _ out h2 tk c (fun b o e => Heap.lt_size (hk b o e)) g2 (fun b o e => k2 b o (Nat.ne_of_lt (Heap.lt_size (hk b o e))) (k0 b o e)) ?_ ht (fun u hu => by
      obtain ⟨p, hp', rfl⟩ := List.mem_map.mp (hsub u hu)
      exact ⟨p, p1.mem_iff.mp hp', rfl⟩)
    have e : sortK (ps.map (·.1)) = sortK (keysK KT) := up_eq _ _ (sortK_up _) (sortK_up _) fun x => by rw [sortK_mem, sortK_mem, kp.mem_iff]
    rw [← e]; exact K2
end
end Fn
set_option Elab.async false
set_option linter.all false
set_option maxRecDepth 100000
namespace Fn
open PySem L2 PySem.Spec PyProof.Rows PySem.W
section
variable {prog : Program} {w : World} {A : Around} {E : Value → Shared → Prop} {s : Shared}
theorem sorted_set {l : Addr} {vs : Array Value} {ks : List (List Int)} {Q : Value → Shared → Prop} (hh : A.handled = none) (hu : A.units + 64 < cLine) (hl : s.heap.IsList l vs) (hK : KeyList prog w s.heap vs ks)
    (h4 : (sortK ks).length ≤ 4) (hne : ∀ k ∈ ks, k ≠ [])
    (h : ∀ D out h' tk c, s.heap.objs.size ≤ D → h'.get? D = some (seqObj "list" (List.toArray out) c) → (∀ b o, s.heap.get? b = some o → h'.get? b = some o) → KeysV prog w h' out (sortK ks) → s.toks ≤ tk → (∀ u ∈ out, u ∈ vs.toList) → Q (.ref D) { s with heap := h', toks := tk }) :
    wpAny (model prog w) A (call (.type "set") [.ref l]) (fun v s1 => wpAny (model prog w) A (call (.builtin "sorted") [v]) Q E s1) E s := by
  refine call_set_tups hh hu hl hK (cap_of h4) fun h1 tk KT S hm hk ht hent => ?_
  refine sorted_tups (s := { s with heap := h1, toks := tk }) hh S (fun k hk' => hne k ((hm k).mp hk')) fun D out h' tk' c hD g k2 K2 ht2 hsub => ?_
  obtain ⟨o, _, _, ho, _⟩ := S.obj
  have e : sortK (keysK KT) = sortK ks := up_eq _ _ (sortK_up _) (sortK_up _) fun x => by rw [sortK_mem, sortK_mem, hm x]
  exact h D out h' tk' c (Nat.le_of_lt (hD _ o ho)) g (fun b o' q => k2 b o' (hk b o' q)) (by rw [← e]; exact K2) (Nat.le_trans ht ht2) (fun u hu => let ⟨p, hp, e⟩ := hsub u hu; e ▸ hent p hp)
end
end Fn
set_option Elab.async false
set_option linter.all false
set_option maxRecDepth 100000
namespace Fn
open PySem L2 PySem.Spec PyProof.Rows PySem.W
theorem ints_of {K : PySem.W.Frag} {H : Hp} {prog : Program} {w : World} : ∀ {ds : List D} {k : List Int} {xs : List V} {its : List Value}, intsL ds = some k → Reps K H ds xs → Vals xs its → ItemsAre (intKind prog w) k its
  | [], k, xs, its, e, r, v => by
    cases e
    have : xs = [] := r
    subst this
    cases v
    exact .nil
  | .int i :: ds, k, xs, its, e, r, v => by
    obtain ⟨x, q, rfl, r1, r2⟩ := r
    have hx : x = .int i := r1
    subst hx
    cases v with
    | cons h1 h2 =>
      obtain ⟨t, rfl⟩ := h1
      simp only [intsL] at e
      cases q2 : intsL ds with
      | none => rw [q2] at e; cases e
      | some ns =>
        rw [q2] at e
        cases e
        exact .cons (intKind_is _ _ _ _) (ints_of q2 r2 h2)
  | .none :: ds, _, _, _, e, _, _ => by cases e
  | .bool _ :: ds, _, _, _, e, _, _ => by cases e
  | .str _ :: ds, _, _, _, e, _, _ => by cases e
  | .tuple _ :: ds, _, _, _, e, _, _ => by cases e
  | .list _ :: ds, _, _, _, e, _, _ => by cases e
  | .dict _ :: ds, _, _, _, e, _, _ => by cases e
theorem key_of {X : Cx} {pins : List (Addr × Obj)} {σ : L2.St} {H : Hp} {s : Shared} {d : D} {k : List Int} {v : V} {u : Value} (I : Inv X pins σ H s) (r : Rep X.K H d v) (e : intsD d = some k) (rv : RelV v u) :
    ∃ b, u = .ref b ∧ IsTupleKey (intKind X.prog X.w) s.heap k b := by
  cases d with
  | tuple ds =>
    obtain ⟨a, xs, rfl, q, r⟩ := r
    cases rv
    obtain ⟨its, h1, ⟨o, ho, hc, n, hd⟩, _⟩ := I.tuple q
    exact ⟨a, rfl, o, _, n, ho, hc, hd, ints_of e r h1⟩
  | _ => cases e
theorem keys_of {X : Cx} {pins : List (Addr × Obj)} {σ : L2.St} {H : Hp} {s : Shared} (I : Inv X pins σ H s) : ∀ {ds : List D} {ks : List (List Int)} {xs : List V} {its : List Value}, Reps X.K H ds xs → keysD ds = some ks → Vals xs its → its.length = ks.length ∧
    (∀ i v, its[i]? = some v → ∃ b, v = .ref b ∧ IsTupleKey (intKind X.prog X.w) s.heap (ks.getD i []) b)
  | [], ks, xs, its, r, e, v => by
    cases e
    have : xs = [] := r
    subst this
    cases v
    exact ⟨rfl, fun i v h => by simp at h⟩
  | d :: ds, ks, xs, its, r, e, v => by
    obtain ⟨x, q, rfl, r1, r2⟩ := r
    simp only [keysD] at e
    cases e1 : intsD d with
    | none => rw [e1] at e; cases e
    | some k =>
      cases e2 : keysD ds with
      | none => rw [e1, e2] at e; cases e
      | some ks' =>
        rw [e1, e2] at e
        cases e
        cases v with
        | cons h1 h2 =>
          obtain ⟨c1, c2⟩ := keys_of I r2 e2 h2
          refine ⟨by rw [List.length_cons, List.length_cons, c1], fun i v h => ?_⟩
          cases i with
          | zero =>
            simp only [List.getElem?_cons_zero] at h
            cases h
            exact key_of I r1 e1 h1
          | succ i => exact c2 i v (by simpa using h)
theorem intsL_map : ∀ {ds : List D} {k : List Int}, intsL ds = some k → ds = k.map PyData.int
  | [], k, e => by cases e; rfl
  | .int i :: ds, k, e => by
    simp only [intsL] at e
    cases q : intsL ds with
    | none => rw [q] at e; cases e
    | some ns => rw [q] at e; cases e; rw [List.map_cons, ← intsL_map q]
  | .none :: ds, _, e => by cases e
  | .bool _ :: ds, _, e => by cases e
  | .str _ :: ds, _, e => by cases e
  | .tuple _ :: ds, _, e => by cases e
  | .list _ :: ds, _, e => by cases e
  | .dict _ :: ds, _, e => by cases e
theorem intsD_tup {d : D} {k : List Int} (e : intsD d = some k) : d = tupK k := by
  cases d with
  | tuple ds => exact congrArg PyData.tuple (intsL_map e)
  | _ => cases e
theorem back_of {X : Cx} {pins : List (Addr × Obj)} {σ : L2.St} {H H0 : Hp} {s : Shared} (I : Inv X pins σ H s) (hs : Same H0 H) {h' : Heap} (kept : ∀ b o, s.heap.get? b = some o → h'.get? b = some o) {b : Addr} {k : List Int} (hk : IsTupleKey (intKind X.prog X.w) h' k b) :
    ∀ {ds : List D} {ks : List (List Int)} {xs : List V} {its : List Value}, Reps X.K H0 ds xs → keysD ds = some ks → Vals xs its → Value.ref b ∈ its → Rep X.K H0 (tupK k) (.ref b)
  | [], ks, xs, its, r, e, v, hm => by
    have : xs = [] := r
    subst this
    cases v
    cases hm
  | d :: ds, ks, xs, its, r, e, v, hm => by
    obtain ⟨x, q, rfl, r1, r2⟩ := r
    simp only [keysD] at e
    cases e1 : intsD d with
    | none => rw [e1] at e; cases e
    | some k1 =>
      cases e2 : keysD ds with
      | none => rw [e1, e2] at e; cases e
      | some ks' =>
        cases v with
        | cons h1 h2 =>
          rcases List.mem_cons.mp hm with e3 | hm'
          · obtain ⟨b1, e4, o, it, n, ho, rest⟩ := key_of I (r1.mono hs) e1 h1
            have e5 : b = b1 := by rw [← e3] at e4; cases e4; rfl
            subst e5
            have e6 := hk.inj ⟨o, it, n, kept _ _ ho, rest⟩
            rw [intsD_tup e1, ← e6] at r1
            obtain ⟨a1, xs1, hx, r3⟩ := r1
            subst hx
            have : Value.ref b = Value.ref a1 := e3.trans h1
            cases this
            exact ⟨_, xs1, rfl, r3⟩
          · exact back_of I hs kept hk r2 e2 h2 hm'
end Fn
set_option Elab.async false
set_option linter.all false
set_option maxRecDepth 100000
namespace Fn
open PySem L2 PySem.Spec PyProof.Rows PySem.W
noncomputable def sortSetN : D → Option D
  | .list ds => match keysD ds with
    | some ks => if (sortK ks).length ≤ 4 ∧ (∀ k ∈ ks, k ≠ []) then some (.list ((sortK ks).map tupK)) else none
    | none => none
  | _ => none
noncomputable def eSortSetN (f : Env → Option D) : Env → Option D := fun ρ => match f ρ with
  | some d => sortSetN d
  | none => none
theorem outs_of {X : Cx} {pins : List (Addr × Obj)} {σ : L2.St} {H H0 : Hp} {s : Shared} (I : Inv X pins σ H s) (hs : Same H0 H) {h' : Heap} (kept : ∀ b o, s.heap.get? b = some o → h'.get? b = some o)
    {ds : List D} {ks : List (List Int)} {xs : List V} {its : List Value} (r : Reps X.K H0 ds xs) (e : keysD ds = some ks) (v : Vals xs its) :
    ∀ {out : List Value} {zs : List (List Int)}, KeysV X.prog X.w h' out zs → (∀ u ∈ out, u ∈ its) → ∃ ys, Vals ys out ∧ Reps X.K H0 (zs.map tupK) ys
  | [], [], _, _ => ⟨[], .nil, rfl⟩
  | [], _ :: _, x, _ => x.elim
  | _ :: _, [], x, _ => x.elim
  | u :: out, z :: zs, x, hm => by
    obtain ⟨⟨b, rfl, hk⟩, x⟩ := x
    obtain ⟨ys, y1, y2⟩ := outs_of I hs kept r e v x (fun u hu => hm u (List.mem_cons_of_mem _ hu))
    exact ⟨.ref b :: ys, .cons rfl y1, _, _, rfl, back_of I hs kept hk r e v (hm _ List.mem_cons_self), y2⟩
theorem se_sortedset {X : Cx} {k : Nat} {a : Expr} {f : Env → Option D} {p1 p2 q1 q2 : Pos} (hm : X.mg "sorted" = none) (hm2 : X.mg "set" = none) (hr : Room k X.A) (ha : SB X a f)
    (hg : Gl X "sorted" := by rfl) (hg2 : Gl X "set" := by rfl)
    (he : starEach [.Call (.Name "set" p2) [a] [] q1] X.env = [(false, eval (.Call (.Name "set" p2) [a] [] q1) X.env)] := by rfl)
    (he2 : starEach [a] X.env = [(false, eval a X.env)] := by rfl) :
    SE X (.Call (.Name "sorted" p1) [.Call (.Name "set" p2) [a] [] q1] [] q2) (eSortSetN f) := by
  intro pins s σ H Q I h
  obtain ⟨O, W, ρ, d, sr, ef, kk⟩ := h
  unfold eSortSetN at ef
  cases e1 : f ρ with
  | none => rw [e1] at ef; cases ef
  | some d1 =>
    rw [e1] at ef
    refine wpAny_Call_Name_kw (ld_blt I hg hm rfl ?_)
    refine PyProof.Rows.callWith_builtin1 ?_ he rfl
    rw [he]
    show wpAny _ _ (spliced ((false, eval (.Call (.Name "set" p2) [a] [] q1) X.env) :: backTo q2 [])) _ _ s
    refine Calls.spliced_cons ?_
    refine wpAny_Call_Name_kw (ld_blt I hg2 hm2 rfl ?_)
    refine PyProof.Rows.callWith_type1 ?_ he2 rfl
    rw [he2]
    show wpAny _ _ (spliced ((false, eval a X.env) :: backTo q1 [])) _ _ s
    refine Calls.spliced_cons (thn (ha pins s σ H (fun v H1 => Same H H1 ∧ RepB X.K O W H1 d1 v) I ⟨O, W, ρ, d1, sr, e1, fun v H1 s1 rb => ⟨s1, rb⟩⟩) fun u s1 ⟨v, H1, I1, rv, sm, rb⟩ => Calls.spliced_nil ?_)
    cases d1 with
    | list ds =>
      have rl : ∃ a xs, v = .ref a ∧ SqL X.K H1 a xs ∧ Reps X.K (hid (O ++ W) H1) ds xs := by
        rcases rb with ⟨a, xs, q1, q2, q3⟩ | ⟨ds', a, xs, q0, q1, q2, q3⟩
        · exact ⟨a, xs, q1, Same.sqL (hid_le _ _) q2, q3⟩
        · cases q0; exact ⟨a, xs, q1, .inl (.inl q2), q3⟩
      obtain ⟨l, xs, rfl, sq, rs⟩ := rl
      cases rv
      obtain ⟨its, vs, pl, _⟩ := I1.list sq
      simp only [sortSetN] at ef
      cases e2 : keysD ds with
      | none => rw [e2] at ef; cases ef
      | some ks =>
        rw [e2] at ef
        by_cases c : (sortK ks).length ≤ 4 ∧ (∀ k ∈ ks, k ≠ [])
        · have ef' : some (PyData.list ((sortK ks).map tupK)) = some d := by rw [← ef]; exact (if_pos c).symm
          cases ef'
          obtain ⟨c1, c2⟩ := keys_of I1 (rs.mono (hid_le _ _)) e2 vs
          have un := hr.units
          refine thn (sorted_set (prog := X.prog) (w := X.w) (A := X.A) (E := X.xe) (l := l) (vs := its.toArray) (ks := ks) (Q := fun u s2 => EP X pins σ Q u s2) hr.hd un ?_ ⟨by simpa using c1, fun i v hv => c2 i v (by simpa using hv)⟩ c.1 c.2 fun D out h' tk cc hD g kept K2 ht hin => ?_) fun v s2 hv => Calls.spliced_nil hv
          · obtain ⟨o, n, g1, g2, g3, g4⟩ := pl
            exact ⟨o, g1, by first | exact g2 | exact g3 | exact g4, n, by first | exact g2 | exact g3 | exact g4⟩
          · obtain ⟨ys, y1, y2⟩ := outs_of I1 (hid_le (O ++ W) H1) kept rs e2 vs K2 (fun u hu => by simpa using hin u hu)
            have zl : ys.length ≤ sizeLine := by
              have z1 := y1.length
              have z2 := K2.length
              rw [sizeLine_eq]
              omega
            have np := I1.hok.fresh hD
            have I2 := I1.laid (a := D) (o := .lst ys) (t' := tk) kept hD ⟨zl, out, cc, y1, g⟩
            obtain ⟨n1, n2⟩ := new_lst np (fun a ha => Same.live sm (sr.live a ha)) y2
            exact ⟨.ref D, _, I2, rfl, kk _ _ (fun b o q => n1 b o (sm b o q)) n2⟩
        · have ef' : none = some d := by rw [← ef]; exact (if_neg c).symm
          cases ef'
    | _ => cases ef
end Fn
set_option Elab.async false
set_option linter.all false
set_option maxRecDepth 100000
namespace Fn
open PySem L2 PySem.Spec PyProof.Rows PySem.W
noncomputable def enumL : Int → List D → List D
  | _, [] => []
  | i, x :: xs => .tuple [.int i, x] :: enumL (i + 1) xs
noncomputable def eLRng (f : Env → Option D) : Env → Option D := fun ρ => match f ρ with
  | some (.int j) => if (decide (0 ≤ j) && decide (j ≤ 1000)) = true then some (.list (rngD 0 j.toNat)) else none
  | _ => none
section
variable {X : Cx} {e : Expr} {pos : Pos} {f : Env → Option D}
end
section
variable {X : Cx} {a : Expr} {pos pc : Pos} {j : Nat} {f : Env → Option D}
end
end Fn
set_option Elab.async false
set_option linter.all false
set_option maxRecDepth 100000
namespace Fn
open PySem L2 PySem.Spec PyProof.Rows PySem.W
section
variable {X : Cx}
end
section
variable {prog : Program} {w : World} {A : Around} {E : Value → Shared → Prop} {s : Shared}
end
theorem reps_ints {K : PySem.W.Frag} {H : Hp} (n : Nat) : Reps K H (rngD 0 n) ((List.range n).map fun (i : Nat) => V.int i) := by
  unfold rngD
  generalize List.range n = l
  induction l with
  | nil => rfl
  | cons i l ih => exact ⟨_, _, rfl, by show V.int i = V.int (0 + i); rw [Int.zero_add], ih⟩
theorem vals_from : ∀ (acc : List Value) (o : Nat), (∀ (j : Nat) v, acc[j]? = some v → ∃ t, v = Value.int ((o + j : Nat) : Int) t) → Vals ((List.range' o acc.length).map fun (i : Nat) => V.int i) acc
  | [], o, _ => .nil
  | v :: acc, o, h => by
    refine .cons (h 0 v rfl) (vals_from acc (o + 1) fun j u e => ?_)
    have := h (j + 1) u e
    rwa [show o + (j + 1) = o + 1 + j by omega] at this
theorem se_lrng {X : Cx} {a : Expr} {f : Env → Option D} {p1 p2 q1 q2 : Pos} (hm : X.mg "list" = none) (hm2 : X.mg "range" = none) (ha : SE X a f) (hc : X.calm = true := by rfl) (hg : Gl X "list" := by rfl) (hg2 : Gl X "range" := by rfl)
    (he : starEach [.Call (.Name "range" p2) [a] [] q1] X.env = [(false, eval (.Call (.Name "range" p2) [a] [] q1) X.env)] := by rfl)
    (he2 : starEach [a] X.env = [(false, eval a X.env)] := by rfl) : SE X (.Call (.Name "list" p1) [.Call (.Name "range" p2) [a] [] q1] [] q2) (eLRng f) := by
  intro pins s σ H Q I h
  obtain ⟨O, W, ρ, d, sr, ef, kk⟩ := h
  unfold eLRng at ef
  cases e1 : f ρ with
  | none => rw [e1] at ef; cases ef
  | some d1 =>
    rw [e1] at ef
    refine wpAny_Call_Name_kw (ld_blt I hg hm rfl ?_)
    refine PyProof.Rows.callWith_type1 ?_ he rfl
    rw [he]
    show wpAny _ _ (spliced ((false, eval (.Call (.Name "range" p2) [a] [] q1) X.env) :: backTo q2 [])) _ _ s
    refine Calls.spliced_cons ?_
    refine wpAny_Call_Name_kw (ld_blt I hg2 hm2 boot_range ?_)
    refine PyProof.Rows.callWith_type1 ?_ he2 rfl
    rw [he2]
    show wpAny _ _ (spliced ((false, eval a X.env) :: backTo q1 [])) _ _ s
    refine Calls.spliced_cons (thn (ha pins s σ H (fun v H1 => Same H H1 ∧ Rep X.K (hid (O ++ W) H1) d1 v) I ⟨O, W, ρ, d1, sr, e1, fun v H1 s1 rb => ⟨s1, rb⟩⟩) fun u s1 ⟨v, H1, I1, rv, sm, rb⟩ => Calls.spliced_nil ?_)
    cases d1 with
    | int j =>
      have hv : v = .int j := rb
      subst hv
      obtain ⟨t, rfl⟩ := rv
      by_cases c : (decide (0 ≤ j) && decide (j ≤ 1000)) = true
      · have ef' : some (PyData.list (rngD 0 j.toNat)) = some d := by rw [← ef]; exact (if_pos c).symm
        cases ef'
        simp at c
        refine call_range_1 ?_
        refine Calls.spliced_nil ?_
        refine call_list_range (n := j.toNat) (I1.ok.hd hc) (IsRange.new ..) (small_one (by omega) (by omega) (by omega) (by omega)) (by rw [rangeSize_one]; split <;> omega) (by omega) fun h' tk acc c' kp g it => ?_
        obtain ⟨al, ai⟩ := it
        have vv := vals_from acc.toList 0 fun k v e => by
          obtain ⟨t, e2⟩ := ai k v (by simpa using e)
          exact ⟨t, by rw [e2]; congr 1; omega⟩
        rw [← List.range_eq_range', Array.length_toList, al] at vv
        have kp' : ∀ b o, s1.heap.get? b = some o → h'.get? b = some o := fun b o e => kp b o (Heap.get?_push_of_some _ e)
        have hD : s1.heap.objs.size ≤ (s1.heap.push { cls := .type "range", data := .fields #[.int 0 s1.toks, .int j t, .int 1 (s1.toks + 1)] }).objs.size := by rw [Heap.size_push]; omega
        have np := I1.hok.fresh hD
        have I2 := I1.laid (o := .lst ((List.range j.toNat).map fun (i : Nat) => V.int i)) (t' := tk) kp' hD ⟨by rw [sizeLine_eq]; simp; omega, acc.toList, c', vv, g⟩
        obtain ⟨n1, n2⟩ := new_lst np (fun a ha => Same.live sm (sr.live a ha)) (reps_ints (K := X.K) (H := hid (O ++ W) H1) j.toNat)
        exact ⟨.ref _, _, I2, rfl, kk _ _ (fun b o q => n1 b o (sm b o q)) n2⟩
      · have ef' : none = some d := by rw [← ef]; exact (if_neg c).symm
        cases ef'
    | _ => cases ef
end Fn
set_option linter.all false
namespace Fn
open PySem PyProof.Rows
section
variable {prog : Program} {w : World} {A : Around} {E : Value → Shared → Prop} {s : Shared}
end
end Fn
set_option linter.all false
namespace Fn
open PySem PyProof.Rows
section
variable {prog : Program} {w : World} {A : Around} {E : Value → Shared → Prop} {s : Shared}
end
section
variable {prog : Program} {w : World} {A : Around} {E : Value → Shared → Prop} {s : Shared}
end
end Fn
set_option linter.all false
set_option maxRecDepth 100000
namespace Fn
open PySem PyProof.Rows AutoSeq1
section
variable {prog : Program} {w : World} {A : Around} {E : Value → Shared → Prop} {s : Shared}
end
end Fn
set_option Elab.async false
set_option linter.all false
set_option maxRecDepth 100000
namespace Fn
open PySem L2 PySem.Spec PyProof.Rows PySem.W
section
variable {X : Cx} {pins : List (Addr × Obj)} {σ : L2.St} {H : Hp} {s : Shared} {h' : Heap}
theorem turn_many {ch : List Addr} {t' : Nat} (I : Inv X pins σ H s) (hf : ∀ b ∈ ch, FpOk X pins H b) (k : ∀ b o, b ∉ ch → s.heap.get? b = some o → h'.get? b = some o) : Inv X pins σ H { s with heap := h', toks := t' } := by
  have nch : ∀ b u, H b = some u → b ∉ ch := fun b u e z => by rw [(hf b z).1] at e; cases e
  refine I.step (g' := s.gens) (d' := s.drawn) (ch := ch) (fun b hb => ⟨(hf b hb).2.2.2.1, (hf b hb).2.1, (hf b hb).2.2.2.2.1, (hf b hb).2.2.2.2.2⟩) (fun b o _ _ hc e _ => k b o hc e) (fun b o _ _ hc e _ => ⟨o.slots, k b o hc e⟩) (fun _ _ _ _ n => n)
    (fun b o hc e => ⟨o, k b o hc e⟩) (fun _ _ e => e) (fun _ _ _ e => e) (fun b ps e => ⟨#[], by rw [e]; simp⟩) (fun m hm => ?_) (fun b u e => ?_) I.bare
  · obtain ⟨o, es, ep, ho, r⟩ := hm
    exact ⟨o, es, ep, k _ o (fun z => (hf _ z).2.1 rfl) ho, r⟩
  · refine (I.hok b u e).stay (fun c v hc q => k c v ?_ q) (fun _ q => q) fun _ _ q => q
    rcases hc with z | z
    · rw [z]; exact nch b u e
    · exact nch c _ z
theorem turn_tup {ch : List Addr} {t' : Nat} {T : Addr} {r : List V} {vals : List Value} (I : Inv X pins σ H s) (hf : ∀ b ∈ ch, FpOk X pins H b) (hT : FpOk X pins H T) (k : ∀ b o, b ∉ ch → s.heap.get? b = some o → h'.get? b = some o) (hs : s.heap.objs.size ≤ T)
    (hr : Vals r vals) (ht : h'.IsTuple T vals.toArray) (hz : r.length ≤ sizeLine) : Inv X pins σ (upd H T (.tup r)) { s with heap := h', toks := t' } := by
  have hn := hT.1
  have nT : ∀ b u, H b = some u → b ≠ T := fun b u e z => by rw [z, hn] at e; cases e
  have nch : ∀ b u, H b = some u → b ∉ ch := fun b u e z => by rw [(hf b z).1] at e; cases e
  have kp : ∀ b o, b ∉ T :: ch → s.heap.get? b = some o → h'.get? b = some o := fun b o hc e => k b o (fun z => hc (List.mem_cons_of_mem _ z)) e
  have fp : ∀ b ∈ T :: ch, FpOk X pins H b := fun b hb => by
    rcases List.mem_cons.mp hb with rfl | z
    · exact hT
    · exact hf b z
  refine I.step (g' := s.gens) (d' := s.drawn) (ch := T :: ch) (fun b hb => ⟨(fp b hb).2.2.2.1, (fp b hb).2.1, (fp b hb).2.2.2.2.1, (fp b hb).2.2.2.2.2⟩) (fun b o _ _ hc e _ => kp b o hc e) (fun b o _ _ hc e _ => ⟨o.slots, kp b o hc e⟩)
    (fun b o hc _ n => by rw [upd_ne fun z => hc (by simp [z])]; exact n) (fun b o hc e => ⟨o, kp b o hc e⟩) (fun b xs e => by rw [upd_ne (nT b _ e)]; exact e) (fun b o u e => by rw [upd_ne (nT b _ e)]; exact e) (fun b ps e => ⟨#[], by rw [upd_ne (nT b _ e), e]; simp⟩) (fun m hm => ?_) (fun b u e => ?_) I.bare
  · obtain ⟨o, es, ep, ho, r⟩ := hm
    exact ⟨o, es, ep, kp _ o (fun z => (fp _ z).2.1 rfl) ho, r⟩
  · by_cases hb : b = T
    · subst hb; rw [upd_same] at e; cases e
      exact ⟨hz, vals, hr, ht⟩
    · rw [upd_ne hb] at e
      refine (I.hok b u e).stay (fun c v hc q => k c v ?_ q) (fun c q => by rw [upd_ne (nT c _ q)]; exact q) fun c xs q => by rw [upd_ne (nT c _ q)]; exact q
      rcases hc with z | z
      · rw [z]; exact nch b u e
      · exact nch c _ z
end
section
variable {X : Cx} {elts : List Expr} {kk : Nat} {pt p pos : Pos} {a b : Expr} {fa fb : Env → Option D}
end
end Fn
set_option Elab.async false
set_option linter.all false
set_option maxRecDepth 100000
namespace Fn
open PySem L2 PySem.Spec PyProof.Rows PySem.W
theorem enumL_get : ∀ {ds : List D} {o : Int} {i : Nat} {d : D}, (enumL o ds)[i]? = some d → ∃ a, ds[i]? = some a ∧ d = .tuple [.int (o + i), a]
  | [], o, i, d, h => by simp [enumL] at h
  | a :: ds, o, 0, d, h => by simp [enumL] at h; exact ⟨a, rfl, by rw [← h]; simp⟩
  | a :: ds, o, i + 1, d, h => by
    simp only [enumL, List.getElem?_cons_succ] at h
    obtain ⟨x, h1, h2⟩ := enumL_get h
    refine ⟨x, by simpa using h1, ?_⟩
    rw [h2, show o + 1 + (i : Int) = o + ((i + 1 : Nat) : Int) by omega]
theorem enumL_len : ∀ (ds : List D) (o : Int), (enumL o ds).length = ds.length
  | [], o => rfl
  | a :: ds, o => by simp only [enumL, List.length_cons, enumL_len ds]
section
variable {X : Cx} {elts : List Expr} {kk : Nat} {pt p pos : Pos} {a : Expr} {fa : Env → Option D}
end
end Fn
set_option Elab.async false
set_option linter.all false
set_option maxRecDepth 100000
namespace Fn
open PySem L2 PySem.Spec PyProof.Rows PySem.W
section
variable {X : Cx} {a : Expr} {x : Str} {p pos : Pos} {f : Env → Option D} {d : D} {k : Nat}
end
end Fn
set_option Elab.async false
set_option linter.all false
set_option maxRecDepth 100000
namespace Fn
open PySem L2 PySem.Spec PyProof.Rows
abbrev bmV : List Value := [.type "ValueError", .type "Exception", .type "BaseException", .type "object"]
structure ExC (K : PySem.W.Frag) (mg : Str → Option Value) (c : Str) (C : Addr) : Prop where
  mg : mg c = some (.ref C)
  q : PySem.W.excIn K C bmV "ValueError.__new__" = true
noncomputable def ClsObj (h : Heap) (C : Addr) (bm : List Value) (newId : String) : Prop := ∃ N nm qn bs hdct sn sub ab col dd k0 k1 k2 k3 k5 mN,
  h.get? C = some (excClassObj nm qn C N bs bm hdct sn sub ab col dd k0 k1 k2 k3 k5 newId) ∧ h.Ns N mN ∧ mN "__init__" = none
theorem exc_obj {K : PySem.W.Frag} {h : Heap} {C : Addr} {bmB : List Value} {newId : String} (X : K.In h) (q : PySem.W.excIn K C bmB newId = true) : ∃ bm, ClsObj h C bm newId ∧ OwnTail h bmB bm := by
  unfold PySem.W.excIn at q
  revert q
  cases e : K.lookup C with
  | none => intro q; cases q
  | some ob =>
    intro q
    split at q
    · next dd cd sl he =>
      cases he
      split at q
      · next C2 bm a0 a1 a2 a3 nw a5 hmro hsl =>
        obtain ⟨qa, qi⟩ := Bool.and_eq_true_iff.mp q
        obtain ⟨qb, qn⟩ := Bool.and_eq_true_iff.mp qa
        obtain ⟨qc, qt⟩ := Bool.and_eq_true_iff.mp qb
        obtain ⟨qd, qdel⟩ := Bool.and_eq_true_iff.mp qc
        obtain ⟨qC, qw⟩ := Bool.and_eq_true_iff.mp qd
        have eC : C2 = C := beq_iff_eq.mp qC
        have ew : nw = newId := beq_iff_eq.mp qw
        have ed : cd.hasDel = false := by simpa using qdel
        have ei := beq_iff_eq.mp qi
        subst eC ew
        refine ⟨bm, ⟨cd.ns, cd.name, cd.qualname, cd.bases, cd.hasDict, cd.slotNames, cd.subclasses, cd.abstract, cd.collection, dd, a0, a1, a2, a3, a5, _, ?_, .of_isNs (PySem.W.isNs_of_in X qn), PySem.W.nsMap_none_of_in X qn ei⟩, PySem.W.tail_of_in X qt⟩
        have hs : sl = #[a0, a1, a2, a3, some (.builtin nw), a5] := by
          obtain ⟨l⟩ := sl
          have : l = _ := hsl
          rw [this]
        have z := X _ _ e
        rw [z]
        subst hs
        obtain ⟨nm, bs, mro, ns, qn', hd, sn, sub, ab, col, del⟩ := cd
        have hm : mro = _ := hmro
        have hdl : del = false := ed
        subst hm hdl
        rfl
      · cases q
    · cases q
theorem there_of {P : Program} {w : World} {H : Hp} {h : Heap} {a : Addr} {o : HO} (x : ObjOk P w H h a o) : ∃ u, h.get? a = some u := by
  cases o with
  | lst xs => obtain ⟨_, _, _, _, e⟩ := x; exact ⟨_, e⟩
  | tup xs => obtain ⟨_, _, _, o, e, _⟩ := x; exact ⟨_, e⟩
  | dK kvs => obtain ⟨_, _, _, _, o, _, _, e, _⟩ := x; exact ⟨_, e⟩
  | dT kvs => obtain ⟨_, _, _, _, o, _, _, e, _⟩ := x; exact ⟨_, e⟩
  | set S n => obtain ⟨o, _, _, _, e, _⟩ := x; exact ⟨_, e⟩
  | ins C dx fs => obtain ⟨_, _, _, e, _⟩ := x; exact ⟨_, e⟩
  | own y => exact x
  | xd fs => obtain ⟨_, ⟨_, _, _, e, _⟩, _⟩ := x; exact ⟨_, e⟩
  | rng lo hi => obtain ⟨_, _, _, e⟩ := x; exact ⟨_, e⟩
  | frz ob u => obtain ⟨e, _⟩ := x; exact ⟨_, e⟩
  | tbl ps => exact ⟨_, (show h.get? a = some _ from x)⟩
  | met f y => exact ⟨_, (show h.get? a = some _ from x)⟩
  | ext φ => obtain ⟨_, e, _⟩ := x; exact e
theorem none_of {P : Program} {w : World} {H : Hp} {h : Heap} {a : Addr} (x : HOk P w H h) (e : h.get? a = none) : H a = none := by
  cases q : H a with
  | none => rfl
  | some o => obtain ⟨u, z⟩ := there_of (x a o q); rw [e] at z; cases z
theorem kept_tracked {P : Program} {w : World} {H : Hp} {h h' : Heap} (x : HOk P w H h) (k : ∀ b u, H b ≠ none → h.get? b = some u → h'.get? b = some u) : HOk P w H h' := fun a o e =>
  (x a o e).stay (fun b u hb q => k b u (by
    rcases hb with z | z
    · rw [z, e]; intro n; cases n
    · rw [z]; intro n; cases n) q) (fun _ q => q) fun _ _ q => q
noncomputable def Flies (P : Program) (w : World) (outer : List PySem.Env) (H H' : Hp) (s : Shared) (C e : Addr) (s' : Shared) : Prop :=
  s'.os = s.os ∧ AllBare s'.gens ∧ Un (frs outer) [] H H' s.heap s'.heap ∧ HOk P w H' s'.heap ∧ H' e = none ∧ s.heap.get? e = none ∧
  ∃ B a0, (∀ b o, s'.heap.get? b = some o → ((∃ o0, s.heap.get? b = some o0) ∨ H' b ≠ none) → b ∉ frs outer → B.get? b = some o) ∧ Heap.FlyingW B outer e (.ref C) a0 s'.heap
noncomputable def CXX (P : Program) (w : World) : CXT := fun outer H s E v s' => ∃ C e H', v = .ref e ∧ Flies P w outer H H' s C e s' ∧ E (.ref C) none H'
section
variable {P : Program} {w : World} {K : PySem.W.Frag} {mg : Str → Option Value} {base : Heap} {N : List Str} {qual : Str} {scope : Scope} {f : Addr} {cd : Value} {A : Around} {outer : List PySem.Env} {s0 : Shared} {H0 : Hp} {E : XK}
theorem flies_step {CX : CXT} {pins : List (Addr × Obj)} {σ : L2.St} {H : Hp} {s : Shared} {C e : Addr} {a0 : Value} {B h' : Heap} (I : Inv (cxOf CX P w K mg base N qual scope f cd A outer s0 H0 E) pins σ H s)
    (hB : ∀ b o, s.heap.get? b = some o → ((∃ o0, s0.heap.get? b = some o0) ∨ H b ≠ none) → b ∉ frs (envOfC qual scope s0.heap.objs.size f cd :: outer) → B.get? b = some o)
    (fl : Heap.FlyingW B outer e (.ref C) a0 h') (up : s.heap.UpToSlots h') (he : H e = none) (hn : s0.heap.get? e = none) : Flies P w outer H0 H s0 C e { s with heap := h' } := by
  have loc : ∀ b o, s0.heap.get? b = some o → b ≠ s0.heap.objs.size := fun b o q => Nat.ne_of_lt (Heap.lt_size q)
  have fsOf : frs (envOfC qual scope s0.heap.objs.size f cd :: outer) = s0.heap.objs.size :: frs outer := rfl
  have noex : ∀ b, b ∉ (cxOf CX P w K mg base N qual scope f cd A outer s0 H0 E).ex := fun b z => absurd (show b ∈ ([] : List Addr) from z) (by simp)
  have out : ∀ b o0 o, s0.heap.get? b = some o0 → b ∉ frs outer → s.heap.get? b = some o → h'.get? b = some o := fun b o0 o q nb q2 =>
    fl.1 b o (hB b o q2 (.inl ⟨o0, q⟩) (by rw [fsOf]; intro z; rcases List.mem_cons.mp z with z | z; exact loc b o0 q z; exact nb z))
  have trk : ∀ b u, H b ≠ none → s.heap.get? b = some u → h'.get? b = some u := fun b u hb q => fl.1 b u (hB b u q (.inr hb) fun z => hb (I.stkFree b z))
  have isfr : ∀ b o, b ∈ frs outer → s.heap.get? b = some o → ∃ sl, h'.get? b = some { o with slots := sl } := fun b o hb q => up b o q fun vs z => by
    obtain ⟨_, o2, q2, nf⟩ := I.funs.mem hb
    rw [q] at q2; cases q2
    exact nf vs z
  refine ⟨I.os, I.bare, ⟨fun b o q n nb _ => ?_, fun b o q n hb _ => ?_, fun b o q n _ => I.base.free b o q n (noex b), fun b o q _ => ?_, I.base.tups, I.base.frzs, I.base.tbls⟩, kept_tracked I.hok trk, he, hn, B, a0, fun b o q hb nb => ?_, fl⟩
  · exact out b o o q nb (I.base.keep b o q n nb (noex b))
  · obtain ⟨sl, q1⟩ := I.base.slot b o q n hb (noex b)
    obtain ⟨sl2, q2⟩ := isfr b _ hb q1
    exact ⟨sl2, q2⟩
  · obtain ⟨o1, q1⟩ := I.base.there b o q (noex b)
    by_cases hb : b ∈ frs outer
    · obtain ⟨sl, q2⟩ := isfr b o1 hb q1; exact ⟨_, q2⟩
    · exact ⟨o1, out b o o1 q hb q1⟩
  · have q' : h'.get? b = some o := q
    rcases hb with ⟨o0, q0⟩ | hb
    · obtain ⟨o1, q1⟩ := I.base.there b o0 q0 (noex b)
      have q2 := out b o0 o1 q0 nb q1
      rw [q'] at q2; cases q2
      exact hB b o q1 (.inl ⟨o0, q0⟩) (by rw [fsOf]; intro z; rcases List.mem_cons.mp z with z | z; exact loc b o0 q0 z; exact nb z)
    · cases eo : H b with
      | none => exact absurd eo hb
      | some ho =>
        obtain ⟨o1, q1⟩ := there_of (I.hok b ho eo)
        have q2 := trk b o1 hb q1
        rw [q'] at q2; cases q2
        exact hB b o q1 (.inr hb) fun z => hb (I.stkFree b z)
theorem passes_cx : Passes (CXX P w) (cxOf (CXX P w) P w K mg base N qual scope f cd A outer s0 H0 E) E := by
  intro pins σ H s v s' I h
  obtain ⟨C, e, H', rfl, ⟨os, bare, un, hok, he, hn, B, a0, hB, fl⟩, hE⟩ := h
  have I' : Inv _ pins σ H' s' := I.call' (ch := []) os un hok bare (fun b z => absurd z (by simp))
  have noex : ∀ b, b ∉ (cxOf (CXX P w) P w K mg base N qual scope f cd A outer s0 H0 E).ex := fun b z => absurd (show b ∈ ([] : List Addr) from z) (by simp)
  show wpAny _ _ (leaving _ _) _ _ _
  refine wpAny_leaves_onW (base := B) (show (cxOf (CXX P w) P w K mg base N qual scope f cd A outer s0 H0 E).A.frames = some _ from I.ok.frames) rfl fl fun h' fl' up => ?_
  refine ⟨C, e, H', rfl, flies_step I' (fun b o q hb nb => hB b o q ?_ nb) fl' up he ?_, hE⟩
  · rcases hb with ⟨o0, q0⟩ | hb
    · exact .inl (I.base.there b o0 q0 (noex b))
    · exact .inr hb
  · cases q : s0.heap.get? e with
    | none => rfl
    | some o =>
      obtain ⟨o1, q1⟩ := I.base.there e o q (noex e)
      rw [hn] at q1; cases q1
noncomputable def Raises (X : Cx) (E : XK) : Prop := ∀ (pins : List (Addr × Obj)) (σ : L2.St) (H : Hp) (s : Shared) (C e : Addr) (args : List Value) (h' : Heap), Inv X pins σ H s → Heap.MadeExcOf s.heap h' e (.ref C) args → E (.ref C) none H → X.xe (.ref e) { s with heap := h' }
theorem raises_cx : Raises (cxOf (CXX P w) P w K mg base N qual scope f cd A outer s0 H0 E) E := by
  intro pins σ H s C e args h1 I hx hE
  have I' : Inv _ pins σ H { s with heap := h1 } := I.kept (h' := h1) (t' := s.toks) hx.keeps
  have noex : ∀ b, b ∉ (cxOf (CXX P w) P w K mg base N qual scope f cd A outer s0 H0 E).ex := fun b z => absurd (show b ∈ ([] : List Addr) from z) (by simp)
  have hin : ∀ env ∈ (envOfC qual scope s0.heap.objs.size f cd :: outer), ∀ b, env.frame = some b → b ∈ (envOfC qual scope s0.heap.objs.size f cd :: outer).filterMap (·.frame) := fun env he b hb => List.mem_filterMap.mpr ⟨env, he, hb⟩
  have hst := I.stack
  show wpAny _ _ (leaving _ _) _ _ _
  refine wpAny_leaves_madeW (base := PySem.W.hideAll s.heap (frs (envOfC qual scope s0.heap.objs.size f cd :: outer))) (h := s.heap) (show (cxOf (CXX P w) P w K mg base N qual scope f cd A outer s0 H0 E).A.frames = some _ from I.ok.frames) rfl
    (fun b o q => PySem.W.of_hideAll _ q) (PySem.W.funFrames_hide hst hin) hx fun h' t fl _ _ up => ?_
  have hnone := none_of I.hok hx.new
  refine ⟨C, e, H, rfl, flies_step I' (fun b o q hb nb => ?_) fl up hnone ?_, hE⟩
  · have q1 : s.heap.get? b = some o := by
      have ex : ∃ o1, s.heap.get? b = some o1 := by
        rcases hb with ⟨o0, q0⟩ | hb
        · exact I.base.there b o0 q0 (noex b)
        · cases eo : H b with
          | none => exact absurd eo hb
          | some ho => exact there_of (I.hok b ho eo)
      obtain ⟨o1, q1⟩ := ex
      have q2 := hx.keeps b o1 q1
      have q' : h1.get? b = some o := q
      rw [q'] at q2; cases q2
      exact q1
    exact PySem.W.hideAll_get _ q1 nb
  · cases q : s0.heap.get? e with
    | none => rfl
    | some o =>
      obtain ⟨o1, q1⟩ := I.base.there e o q (noex e)
      rw [hx.new] at q1; cases q1
end
end Fn
set_option Elab.async false
set_option linter.all false
set_option maxRecDepth 100000
namespace Fn
open PySem L2 PySem.Spec PyProof.Rows
section
variable (K : PySem.W.Frag) (mg : Str → Option Value) (E : XK)
noncomputable def tRE (x : Env → Option Str) : TE := fun σ H _ => ∃ O W ρ c C, SR K O W ρ σ H ∧ x ρ = some c ∧ mg c = some (.ref C) ∧ ∀ H', Same H H' → E (.ref C) none H'
noncomputable def tR (x : Env → Option Str) : TS := fun _ σ H => ∃ O W ρ c C, SR K O W ρ σ H ∧ x ρ = some c ∧ mg c = some (.ref C) ∧ ∀ W' H', Fm W H H' W' → (∀ a ∈ O ++ W', H' a ≠ none) → E (.ref C) none H'
end
noncomputable abbrev RE (X : Cx) (E : XK) (e : Expr) (x : Env → Option Str) : Prop := PE X e (tRE X.K X.mg E x)
noncomputable abbrev RS (X : Cx) (E : XK) (st : Stmt) (x : Env → Option Str) : Prop := PS X st (tR X.K X.mg E x)
noncomputable abbrev RSs (X : Cx) (E : XK) (sts : List Stmt) (x : Env → Option Str) : Prop := PSs X sts (tR X.K X.mg E x)
noncomputable def tNo : TE := fun _ _ _ => False
noncomputable def xNo : Env → Option Str := fun _ => none
noncomputable def xIf (t : Env → Option Bool) (x y : Env → Option Str) : Env → Option Str := fun ρ => match t ρ with
  | some true => x ρ
  | some false => y ρ
  | none => none
noncomputable def xCall (G : List D → Option Str) (g : Env → Option (List D)) : Env → Option Str := fun ρ => match g ρ with
  | some ds => G ds
  | none => none
section
variable {X : Cx} {E : XK} {st : Stmt} {rest sts : List Stmt} {x y : Env → Option Str} {e a b : Expr} {es : List Expr} {pos : Pos} {s : Env → Option Fl} {t : Env → Option Bool}
theorem rss_no : RSs X E sts xNo := fun _ _ _ _ _ _ ⟨_, _, _, _, _, _, e, _⟩ => by cases e
theorem rss_here (h : RS X E st x) : RSs X E (st :: rest) x := pss_conv (pss_cons h (pss_never (sts := rest))) fun D σ H q => q
theorem tRE_of {σ : L2.St} {H : Hp} {K : PySem.W.Frag} {mg : Str → Option Value} {Dn : Ends} {Q : VK} (q : tR K mg E x Dn σ H) : tRE K mg E x σ H Q := by
  obtain ⟨O, W, ρ, c, C, sr, e, m, k⟩ := q
  exact ⟨O, W, ρ, c, C, sr, e, m, fun H' s => k W H' (.of_same s) (sr.mono s).live⟩
theorem rs_expr (he : RE X E e x) (hs : swapsWith e none pos.line X.env = pure false := by rfl) : RS X E (.Expr e pos) x := ps_conv (ps_expr he hs) fun D σ H q => tRE_of q
theorem rs_ret (he : RE X E e x) : RS X E (.Return (some e) pos) x := ps_conv (ps_ret he) fun D σ H q => tRE_of q
theorem pt_lift {c : Expr} {t : TT} (h : PT X.nox c t) : PT X c t := h.nox
theorem rs_if {c : Expr} {sa sb : List Stmt} (hc : ST X.nox c t) (ha : RSs X E sa x) (hb : RSs X E sb y) : RS X E (.If c sa sb pos) (xIf t x y) := ps_conv (ps_if (pt_lift hc) ha hb) fun D σ H q => by
  obtain ⟨O, W, ρ, c, C, sr, e, m, k⟩ := q
  unfold xIf at e
  cases e1 : t ρ with
  | none => rw [e1] at e; cases e
  | some v =>
    rw [e1] at e
    refine ⟨O, W, ρ, v, sr, e1, fun H1 s1 => ?_⟩
    cases v with
    | true => rw [if_pos rfl]; exact ⟨O, W, ρ, c, C, sr.mono s1, e, m, fun W2 H2 fm lv => k W2 H2 (Fm.trans (.of_same s1) fm) lv⟩
    | false => rw [if_neg Bool.false_ne_true]; exact ⟨O, W, ρ, c, C, sr.mono s1, e, m, fun W2 H2 fm lv => k W2 H2 (Fm.trans (.of_same s1) fm) lv⟩
theorem re_if {c : Expr} (hc : ST X.nox c t) (ha : RE X E a x) (hb : RE X E b y) : RE X E (.IfExp c a b pos) (xIf t x y) := pe_conv (pe_ifExp (pt_lift hc) ha hb) fun σ H Q q => by
  obtain ⟨O, W, ρ, c, C, sr, e, m, k⟩ := q
  unfold xIf at e
  cases e1 : t ρ with
  | none => rw [e1] at e; cases e
  | some v =>
    rw [e1] at e
    refine ⟨O, W, ρ, v, sr, e1, fun H1 s1 => ?_⟩
    cases v with
    | true => rw [if_pos rfl]; exact ⟨O, W, ρ, c, C, sr.mono s1, e, m, fun H2 s2 => k H2 (s1.trans s2)⟩
    | false => rw [if_neg Bool.false_ne_true]; exact ⟨O, W, ρ, c, C, sr.mono s1, e, m, fun H2 s2 => k H2 (s1.trans s2)⟩
theorem rs_raise {n : Str} {C : Addr} {np cpos : Pos} {f : Env → Option D} (hx : ExC X.K X.mg n C) (hz : Raises X E) (hh : X.A.handled = none) (ha : SE X a f) (hg : Gl X n := by rfl) (hd : (n == ("__debug__" : Str)) = false := by decide)
    (he : starEach [a] X.env = [(false, eval a X.env)] := by rfl) : RS X E (.Raise (some (.Call (.Name n np) [a] [] cpos)) none pos) (fun ρ => match f ρ with | some _ => some n | none => none) := by
  intro pins s σ H D I q
  obtain ⟨O, W, ρ, c, C', sr, e, m, k⟩ := q
  cases e1 : f ρ with
  | none => simp [e1] at e
  | some d =>
    simp [e1] at e
    subst e
    rw [hx.mg] at m
    cases m
    obtain ⟨bm, ⟨N, nm, qn, bs, hdct, sn, sub, ab, col, dd, k0, k1, k2, k3, k5, mN, hC, hN, hni⟩, T⟩ := exc_obj I.mod.kin hx.q
    have FB := PySem.F.excBase_ValueError
    refine wpAny_Raise_call_subT (C := C) (nm := nm) (q := qn) (N := N) (bs := bs) (bm := bm) (hdct := hdct) (sn := sn) (sub := sub) (ab := ab) (col := col) (dd := dd) (k0 := k0) (k1 := k1) (k2 := k2) (k3 := k3) (k5 := k5) FB (mN := mN) (T.hasType FB.hasBase) hh
      (by rw [he]; rfl) hni (ld_glob I hg hx.mg ⟨rfl, ?_⟩ hd)
    have hp := (pa_cons ha pa_nil he) cpos pins s σ H (fun vs H' => vs.length = 1 ∧ Same H H') I ⟨O, W, ρ, d, sr, e1, fun v H' s1 r1 => ⟨rfl, s1⟩⟩
    rw [he] at hp ⊢
    refine Calls.evalArgs_plain (thn hp fun us s2 h_0 => ?_)
    obtain ⟨vs, H2, I2, r2, l2, s2'⟩ := h_0
    refine ⟨rfl, ?_, I2.bk _ _ hC, hN.keeps I2.bk, T.keeps I2.bk, fun h' e hm => hz pins σ H2 s2 C e _ h' I2 hm (k W H2 (.of_same s2') (sr.mono s2').live)⟩
    show us.length ≤ sizeLine
    rw [← r2.length, l2, sizeLine_eq]
    decide
end
end Fn
set_option Elab.async false
set_option linter.all false
set_option maxRecDepth 100000
namespace Fn
open PySem L2 PySem.Spec PyProof.Rows
noncomputable def spX (K : PySem.W.Frag) (mg : Str → Option Value) (G : List D → Option Str) : Sp := fun vs H _ E => ∃ O ds c C, (∀ a ∈ O, H a ≠ none) ∧ Reps K (hid O H) ds vs ∧ G ds = some c ∧ mg c = some (.ref C) ∧ ∀ H', Same H H' → E (.ref C) none H'
noncomputable def runX (n N : Nat) (x : Env → Option Str) : List D → Option Str := fun ds => if ds.length = n then x (ds.map Cel.val ++ List.replicate (N - n) Cel.emp) else none
theorem fn_defX {P : Program} {w : World} {K : PySem.W.Frag} {mg : Str → Option Value} {base : Heap} {n qual : Str} {st : Stmt} {f : Addr} {fd : FuncData} {N ps : List Str} {k : Nat} {x : Env → Option Str} (F : Fun K n qual st f fd) (S : FnScope N ps (defScope st))
    (hbody : ∀ (cdv : Value) (A : Around) (outer : List PySem.Env) (s : Shared) (H : Hp) (E : XK), Room k (A.deeper (envOfC qual (defScope st) s.heap.objs.size f cdv)) → RSs (cxOf (CXX P w) P w K mg base N qual (defScope st) f cdv A outer s H E) E (defBody st) x) :
    FnOk P w K mg base (CXX P w) (k + 1) f fd ps (spX K mg (runX ps.length N.length x)) := by
  obtain ⟨oc, od, kV, doc, pm, an, cdv, ct, osl, rfl, lk, hcd⟩ := F.ex
  have len : ∀ vs H Q E, spX K mg (runX ps.length N.length x) vs H Q E → vs.length = ps.length := fun vs H Q E h => by
    obtain ⟨O, ds, c, C, _, r, e, _⟩ := h
    unfold runX at e
    by_cases z : ds.length = ps.length
    · rw [← r.length]; exact z
    · rw [if_neg z] at e; cases e
  refine fn_of lk hcd S len fun A outer s H vs Q E hr hsp => ⟨_, hbody cdv A outer s H E hr, ?_⟩
  obtain ⟨O, ds, c, C, lv, r, e, m, k⟩ := hsp
  unfold runX at e
  by_cases z : ds.length = ps.length
  · rw [if_pos z] at e
    rw [← z] at e
    exact ⟨O, [], _, c, C, start_sr lv r, e, m, fun W' H' fm _ => k H' fm.same⟩
  · rw [if_neg z] at e; cases e
noncomputable def HasX (P : Program) (w : World) (K : PySem.W.Frag) (mg : Str → Option Value) (base : Heap) (n : Str) (k : Nat) (G : List D → Option Str) : Prop :=
  ∃ f fd ps, mg n = some (.ref f) ∧ PySem.W.keepIn K (.ref f) = true ∧ Binds K fd ps [] ∧ FnOk P w K mg base (CXX P w) k f fd ps (spX K mg G)
theorem hasX_of {P : Program} {w : World} {K : PySem.W.Frag} {mg : Str → Option Value} {base : Heap} {n : Str} {st : Stmt} {f : Addr} {fd : FuncData} {N ps : List Str} {k n1 m : Nat} {x : Env → Option Str} (F : DefIn K mg n st ps f fd) (S : FnScope N ps (defScope st))
    (hbody : ∀ (cdv : Value) (A : Around) (outer : List PySem.Env) (s : Shared) (H : Hp) (E : XK), Room k (A.deeper (envOfC n (defScope st) s.heap.objs.size f cdv)) → RSs (cxOf (CXX P w) P w K mg base N n (defScope st) f cdv A outer s H E) E (defBody st) x)
    (hn : ps.length = n1 := by rfl) (hm : N.length = m := by rfl) : HasX P w K mg base n (k + 1) (runX n1 m x) := by
  subst hn hm
  exact ⟨f, fd, ps, F.mg, F.fn.kp, F.bd, fn_defX F.fn S hbody⟩
section
variable {X : Cx} {E : XK} {k : Nat} {n : Str} {p pos : Pos} {e : Expr} {es : List Expr} {g : Env → Option (List D)} {G : List D → Option Str}
theorem re_call (h : HasX X.prog X.w X.K X.mg X.base n k G) (hr : Room k X.A) (hx : Passes (CXX X.prog X.w) X E) (ha : SA X (e :: es) g) (hg : Gl X n := by rfl) (hdb : (n == ("__debug__" : Str)) = false := by decide) (he : starEach (e :: es) X.env = (false, eval e X.env) :: starEach es X.env := by rfl) (hpl : (backTo pos (starEach es X.env)).any (·.1) = false := by rfl) :
    RE X E (.Call (.Name n p) (e :: es) [] pos) (xCall G g) := by
  obtain ⟨f, fd, ps, h1, h2, h3, h4⟩ := h
  refine pe_conv (pe_call h4 hr hg h1 h2 h3 .nil hx ha hdb he hpl) fun σ H Q q => ?_
  obtain ⟨O, W, ρ, c, C, sr, e, m, k⟩ := q
  unfold xCall at e
  cases e1 : g ρ with
  | none => rw [e1] at e; cases e
  | some ds =>
    rw [e1] at e
    refine ⟨O, W, ρ, ds, sr, e1, fun vs H1 s1 r1 => ⟨O ++ W, ds, c, C, (sr.mono s1).live, ?_, e, m, fun H' s2 => k H' (s1.trans s2)⟩⟩
    rw [List.append_nil]
    exact r1
end
end Fn
set_option Elab.async false
set_option linter.all false
set_option maxRecDepth 100000
namespace Fn
open PySem L2 PySem.Spec PyProof.Rows
structure ExK (K : PySem.W.Frag) (C : Addr) : Prop where
  ga : PySem.W.findIn K (.ref C) "__getattribute__" = some (some (.builtin "BaseException.__getattribute__"))
  gg : PySem.W.findIn K (.ref C) "__getattr__" = some none
  gc : PySem.W.findIn K (.ref C) "__class__" = some (some (.builtin "object.__class__"))
  mo : PySem.W.mroIn K C (.type "object") = some true
  mb : PySem.W.mroIn K C (.type "BaseException") = some true
  cl : (PySem.W.clsIn K C).isSome = true
noncomputable def ExAt (e C : Addr) (h : Heap) : Prop := ∃ oe, h.get? e = some oe ∧ oe.cls = .ref C
section
variable {K : PySem.W.Frag} {C a : Addr} {prog : Program} {w : World} {A : Around} {E : Value → Shared → Prop} {h : Heap} {g : Array GenState} {d : Drawn} {t : Nat} {os : OsState} {o : Obj}
theorem xc_get {R : Result → Shared → Prop} (X : K.In h) (k : ExK K C) (hx : h.get? a = some o) (hc : o.cls = .ref C) (hq : R (.ok (.ret (.ref C))) ⟨h, g, d, t, os⟩) :
    codeAny (model prog w) A (.call (.builtin "getset_descriptor.__get__") ⟨[.builtin "object.__class__", .ref a, .ref C], []⟩) R ⟨h, g, d, t, os⟩ := by
  have y5 : (⟨h, g, d, t, os⟩ : Shared).TypeIs (.builtin "object.__class__") "getset_descriptor" := F.typeOf_object_class
  have ls := PySem.W.looks_mroIn (M := model prog w) X k.mo
  rw [← F.owner_object_class] at ls
  refine codeAny_call_builtin F.slot_gs_get.plain F.entry_gs_get (F.slot_gs_get.check _ _ _ _ _ _ _ _ y5 (F.args_gs_get _ _ _) ?_)
  repeat (any_goals (first | assumption | (with_reducible refine wpAny_loadPart_at hx ?_; rw [hc]) | with_reducible refine ls.at ?_ | wp_step))
  refine ⟨Code.quiet_builtin _ (by decide +kernel), codeAny_builtin F.entry_object_class ?_⟩
  repeat (any_goals (first | assumption | (with_reducible refine wpAny_loadPart_at hx ?_; rw [hc]) | wp_step))
theorem xc_entry {tk : Tok} {Q : Fin → Shared → Prop} (X : K.In h) (k : ExK K C) (hx : h.get? a = some o) (hc : o.cls = .ref C) (hq : Q (.done (.ret (.ref C))) ⟨h, g, d, t, os⟩) :
    wpAny (model prog w) A (Builtin.«object.__getattribute__» ⟨[.ref a, .str "__class__" tk], []⟩) Q E ⟨h, g, d, t, os⟩ := by
  have y5 : (⟨h, g, d, t, os⟩ : Shared).TypeIs (.builtin "object.__class__") "getset_descriptor" := F.typeOf_object_class
  have l4 := PySem.W.looks_findIn (M := model prog w) X k.gc
  have y6 := F.slot_gs_get.lookup
  have y7 := F.slot_gs_set.lookup
  have y8 := F.typeOf_object_class
  repeat (any_goals (first | assumption | (with_reducible refine wpAny_loadPart_at hx ?_; rw [hc]) | with_reducible refine l4.at ?_ | wp_step))
  refine xc_get X k hx hc ?_
  repeat (any_goals (first | assumption | wp_step))
theorem xc_check {M : Model} {nameV : Value} {Q : Unit → Shared → Prop} (X : K.In h) (k : ExK K C) (hx : h.get? a = some o) (hc : o.cls = .ref C) (hq : Q () ⟨h, g, d, t, os⟩) :
    wpAny M A (checkBuiltinCall "BaseException.__getattribute__" ⟨[.ref a, nameV], []⟩) Q E ⟨h, g, d, t, os⟩ := by
  have y1 : builtinKind "BaseException.__getattribute__" = some .slot := by decide +kernel
  have y2 : splitId "BaseException.__getattribute__" = some ("BaseException", "__getattribute__") := by decide +kernel
  have ls := PySem.W.looks_mroIn (M := M) X k.mb
  have y3 := F.args_bexc_ga (.ref a) nameV
  simp only [checkBuiltinCall, y1, y2]
  refine wpAny_bind ?_
  unfold isInstance
  repeat (first | (with_reducible refine wpAny_loadPart_at hx ?_; rw [hc]) | with_reducible refine ls.at ?_ | wp_step)
  exact hq
theorem xc_call {tk : Tok} {R : Result → Shared → Prop} (X : K.In h) (k : ExK K C) (hx : h.get? a = some o) (hc : o.cls = .ref C) (hq : R (.ok (.ret (.ref C))) ⟨h, g, d, t, os⟩) :
    codeAny (model prog w) A (.call (.builtin "BaseException.__getattribute__") ⟨[.ref a, .str "__class__" tk], []⟩) R ⟨h, g, d, t, os⟩ :=
  codeAny_call_builtin PySem.F.excAttr_ValueError.ga.plain F.entry_bexc_ga (xc_check X k hx hc (xc_entry X k hx hc hq))
theorem xc_by {tk : Tok} {Q : Value → Shared → Prop} (X : K.In h) (k : ExK K C) (hx : h.get? a = some o) (hc : o.cls = .ref C) (hq : Q (.ref C) ⟨h, g, d, t, os⟩) :
    wpAny (model prog w) A (getAttrBy (.ref a) (.str "__class__" tk) false) Q E ⟨h, g, d, t, os⟩ := by
  have y3 := PySem.F.excAttr_ValueError.ga.bind (.ref a)
  have z2 : (Value.builtin "BaseException.__getattribute__" == Value.builtin "object.__getattribute__") = false := by decide +kernel
  have z1 : (onTheHeap (Value.ref C) && Value.builtin "BaseException.__getattribute__" == Value.builtin "object.__getattribute__") = false := by rw [z2]; rfl
  have l1 := PySem.W.looks_findIn (M := model prog w) X k.ga
  have l2 := PySem.W.looks_findIn (M := model prog w) X k.gg
  repeat (any_goals (first | assumption | (with_reducible refine wpAny_loadPart_at hx ?_; rw [hc]) | with_reducible refine l1.at ?_ | with_reducible refine l2.at ?_ | wp_step))
  refine xc_call X k hx hc ?_
  repeat (any_goals (first | assumption | wp_step))
theorem xc_attr {Q : Option Value → Shared → Prop} (X : K.In h) (k : ExK K C) (hx : h.get? a = some o) (hc : o.cls = .ref C) (hq : Q (some (.ref C)) ⟨h, g, d, t + 1, os⟩) :
    wpAny (model prog w) A (getAttr? (.ref a) "__class__") Q E ⟨h, g, d, t, os⟩ := by
  unfold getAttr? getAttrBy?
  repeat (any_goals (first | assumption | with_reducible apply xc_by X k hx hc | wp_step))
theorem kitx_exc {e : Addr} (k : ExK K C) : PySem.W.KitX K (.ref e) (.ref C) (ExAt e C) where
  ty := fun M h _ p => by
    obtain ⟨oe, q1, q2⟩ := p
    exact q2 ▸ (PySem.W.Looks.ld q1).andThen .now
  it := fun _ _ X _ => by
    have z := k.cl
    unfold PySem.W.clsIn at z
    split at z
    · rename_i ho
      intro A' Q' E' s' k' q
      unfold isType loadHead
      exact wpAny_bind (wpAny_loadPart (k' _ _ (X _ _ ho)) (wpAny_pure q))
    · cases z
  ne := fun h tp dd its n sl X htp => by
    have z := k.cl
    refine Bool.eq_false_iff.mpr fun q => ?_
    have e : C = tp := Value.ref.inj (beq_iff_eq.mp q)
    subst e
    unfold PySem.W.clsIn at z
    split at z
    · rename_i ho
      have := X _ _ ho
      rw [htp] at this
      cases this
    · cases z
  ca := fun {prog w A E Q s} X p kq => by
    obtain ⟨h, g, d, t, os⟩ := s
    obtain ⟨oe, q1, q2⟩ := p
    exact xc_attr X k q1 q2 kq
end
end Fn
set_option Elab.async false
set_option linter.all false
set_option maxRecDepth 100000
namespace Fn
open PySem L2 PySem.Spec PyProof.Rows
noncomputable def bI (b : Bool) : Int := if b then 1 else 0
noncomputable def vI : V → Option Int
  | .int i => some i
  | .bl b => some (bI b)
  | _ => none
noncomputable def uI : Value → Option Int
  | .int i _ => some i
  | .bool b => some (bI b)
  | _ => none
noncomputable def dI : D → Option Int
  | .int i => some i
  | .bool b => some (bI b)
  | _ => none
theorem uI_of : ∀ {v : V} {u : Value} {k : Int}, RelV v u → vI v = some k → uI u = some k
  | .int i, u, k, r, e => by obtain ⟨t, rfl⟩ := r; exact e
  | .bl b, u, k, r, e => by cases (show u = Value.bool b from r); exact e
theorem eqAt_uI {A : Around} {s : Shared} {y x : Value} {i k : Int} (ey : uI y = some i) (ex : uI x = some k) : SeqAt.EqAt A s y x (uI y == uI x) := by
  cases y <;> first | (cases ey; done) | skip
  all_goals (cases x <;> first | (cases ex; done) | skip)
  · rename_i a b; have := SeqAt.EqAt.bool_bool (A := A) (s := s) a b; cases a <;> cases b <;> exact this
  · rename_i a b u; have := SeqAt.EqAt.bool_int (A := A) (s := s) a b u; simpa [uI, bI] using this
  · rename_i a t b; have := SeqAt.EqAt.int_bool (A := A) (s := s) a t b; simpa [uI, bI] using this
  · rename_i a t b u; have := SeqAt.EqAt.int_int (A := A) (s := s) a t b u; simpa [uI] using this
noncomputable def rCount (K : PySem.W.Frag) : V → List V → Hp → VK → Prop := fun x vs H Q => ∃ l xs y k, x = .ref l ∧ vs = [y] ∧ SqL K H l xs ∧ vI y = some k ∧ (∀ v ∈ xs, (vI v).isSome = true) ∧ Q (.int ((xs.countP fun v => vI v == some k : Nat) : Int)) H
noncomputable def rIndex (K : PySem.W.Frag) : V → List V → Hp → VK → Prop := fun x vs H Q => ∃ l xs y k j, x = .ref l ∧ vs = [y] ∧ SqL K H l xs ∧ vI y = some k ∧ (∀ v ∈ xs, (vI v).isSome = true) ∧ xs.findIdx? (fun v => vI v == some k) = some j ∧ Q (.int (j : Int)) H
theorem vals_mem : ∀ {xs : List V} {us : List Value}, Vals xs us → ∀ u ∈ us, ∃ v ∈ xs, RelV v u
  | _, _, .nil, u, h => by cases h
  | _, _, .cons r t, u, h => by
    rcases List.mem_cons.mp h with rfl | h
    · exact ⟨_, .head _, r⟩
    · obtain ⟨v, hv, r'⟩ := vals_mem t u h; exact ⟨v, .tail _ hv, r'⟩
theorem count_rel (k : Int) : ∀ {xs : List V} {us : List Value}, Vals xs us → (∀ v ∈ xs, (vI v).isSome = true) → xs.countP (fun v => vI v == some k) = us.countP (fun u => uI u == some k)
  | _, _, .nil, _ => rfl
  | _, _, .cons (a := x) (b := u) r t, h => by
    have ih := count_rel k t fun v hv => h v (.tail _ hv)
    obtain ⟨i, e⟩ := Option.isSome_iff_exists.mp (h x (.head _))
    rw [List.countP_cons, List.countP_cons, ih, e, uI_of r e]
theorem index_rel (k : Int) : ∀ {xs : List V} {us : List Value}, Vals xs us → (∀ v ∈ xs, (vI v).isSome = true) → xs.findIdx? (fun v => vI v == some k) = us.findIdx? (fun u => uI u == some k)
  | _, _, .nil, _ => rfl
  | _, _, .cons (a := x) (b := u) r t, h => by
    have ih := index_rel k t fun v hv => h v (.tail _ hv)
    obtain ⟨i, e⟩ := Option.isSome_iff_exists.mp (h x (.head _))
    rw [List.findIdx?_cons, List.findIdx?_cons, ih, e, uI_of r e]
section
variable {X : Cx}
theorem mt_count : MtR X "list.count" (rCount X.K) := by
  intro pins s σ H x vs v us Q I rx rv h
  obtain ⟨l, xs, y, k, rfl, rfl, hS, hy, hf, q⟩ := h
  cases rx
  obtain ⟨u, rfl, ru⟩ := rv.one
  obtain ⟨its, r, p, _⟩ := I.list hS
  obtain ⟨o, n, e, hc, hdn, hd⟩ := p
  have eo : o = { cls := .type "list", dict := o.dict, data := .seq its.toArray n, slots := o.slots } := by
    obtain ⟨c, dd, dt, sl⟩ := o
    have a1 : c = _ := hc
    have a2 : dt = _ := hd
    rw [a1, a2]
  rw [eo] at e
  have hu := uI_of ru hy
  refine call_meets F.slot_list_count ⟨_, e, rfl⟩ F.entry_list_count (F.args_list_count_2 _ _) (SeqAt.list_countAt l its.toArray n _ _ u fun y => uI y == uI u) ⟨e, fun y hy' => ?_, ?_⟩
  · obtain ⟨w, hw, rw'⟩ := vals_mem r y (by simpa using hy')
    obtain ⟨i, ei⟩ := Option.isSome_iff_exists.mp (hf w hw)
    exact eqAt_uI (uI_of rw' ei) hu
  · refine ⟨.int _, H, I.tok _, ⟨s.toks, ?_⟩, q⟩
    rw [count_rel k r hf, hu]
theorem mt_index : MtR X "list.index" (rIndex X.K) := by
  intro pins s σ H x vs v us Q I rx rv h
  obtain ⟨l, xs, y, k, j, rfl, rfl, hS, hy, hf, hj, q⟩ := h
  cases rx
  obtain ⟨u, rfl, ru⟩ := rv.one
  obtain ⟨its, r, p, z⟩ := I.list hS
  obtain ⟨o, n, e, hc, hdn, hd⟩ := p
  have eo : o = { cls := .type "list", dict := o.dict, data := .seq its.toArray n, slots := o.slots } := by
    obtain ⟨c, dd, dt, sl⟩ := o
    have a1 : c = _ := hc
    have a2 : dt = _ := hd
    rw [a1, a2]
  rw [eo] at e
  have hu := uI_of ru hy
  rw [index_rel k r hf] at hj
  obtain ⟨hj1, hj2, hj3⟩ := List.findIdx?_eq_some_iff_getElem.mp hj
  refine call_meets F.slot_list_index ⟨_, e, rfl⟩ F.entry_list_index (F.args_list_index_2 _ _) (SeqAt.list_indexAt l its.toArray n _ _ u (fun y => uI y == uI u) j (by simpa using hj1) ?_ (by rw [hu]; simpa using hj2) (fun m hm hlt => ?_)) ⟨e, fun y hy' => ?_, ?_⟩
  · have : j < sizeLine := by have := r.length; omega
    rw [sizeLine_eq] at this
    omega
  · rw [hu]
    have := hj3 m hlt
    simpa using this
  · obtain ⟨w, hw, rw'⟩ := vals_mem r y (by simpa using hy')
    obtain ⟨i, ei⟩ := Option.isSome_iff_exists.mp (hf w hw)
    exact eqAt_uI (uI_of rw' ei) hu
  · exact ⟨.int _, H, I.tok _, ⟨s.toks, rfl⟩, q⟩
end
noncomputable def countD : D → D → Option D := fun l x => match l, dI x with
  | .list ds, some k => if ds.all (fun d => (dI d).isSome) = true then some (.int ((ds.countP fun d => dI d == some k : Nat) : Int)) else none
  | _, _ => none
noncomputable def indexD : D → D → Option D := fun l x => match l, dI x with
  | .list ds, some k => if ds.all (fun d => (dI d).isSome) = true then (match ds.findIdx? (fun d => dI d == some k) with
    | some j => some (.int (j : Int))
    | none => none) else none
  | _, _ => none
theorem vI_of {K : PySem.W.Frag} {H : Hp} {d : D} {v : V} {k : Int} (r : Rep K H d v) (e : dI d = some k) : vI v = some k := by
  cases d with
  | int i => have r' : v = .int i := r; subst r'; exact e
  | bool b => have r' : v = .bl b := r; subst r'; exact e
  | _ => cases e
theorem reps_flat {K : PySem.W.Frag} {H : Hp} (k : Int) : ∀ {ds : List D} {vs : List V}, Reps K H ds vs → ds.all (fun d => (dI d).isSome) = true →
    (∀ v ∈ vs, (vI v).isSome = true) ∧ vs.countP (fun v => vI v == some k) = ds.countP (fun d => dI d == some k) ∧ vs.findIdx? (fun v => vI v == some k) = ds.findIdx? (fun d => dI d == some k)
  | [], vs, r, _ => by
    have r' : vs = [] := r
    subst r'
    refine ⟨fun v h => ?_, rfl, rfl⟩
    cases h
  | d :: ds, vs, r, h => by
    obtain ⟨v, t, rfl, r1, r2⟩ := r
    simp only [List.all_cons, Bool.and_eq_true] at h
    obtain ⟨h1, h2, h3⟩ := reps_flat k r2 h.2
    obtain ⟨i, e⟩ := Option.isSome_iff_exists.mp h.1
    have ev := vI_of r1 e
    refine ⟨fun w hw => ?_, ?_, ?_⟩
    · rcases List.mem_cons.mp hw with rfl | hw
      · rw [ev]; rfl
      · exact h1 w hw
    · rw [List.countP_cons, List.countP_cons, h2, e, ev]
    · rw [List.findIdx?_cons, List.findIdx?_cons, h3, e, ev]
section
variable {X : Cx} {o a : Expr} {f f' : Env → Option D} {apos cpos : Pos}
theorem se_count (ho : SB X o f) (ha : SE X a f') (hbase : attributeBase o "count" X.env (eval o X.env) = eval o X.env := by rfl) (hfew : ((backTo cpos (starEach [a] X.env)).all (fun x => !x.1) && (backToKw cpos (keywordEach [] X.env)).all (fun x => x.1.isSome)
      && decide ([a].length + ([] : List Keyword).length + (if ([] : List Keyword).isEmpty then 0 else 1) < 30)) = true := by rfl) (hline : (apos.endLine == cpos.line) = true := by rfl) (hs : starEach [a] X.env = [(false, eval a X.env)] := by rfl) (hplain : (backTo cpos (starEach [] X.env)).any (·.1) = false := by rfl) :
    SE X (.Call (.Attribute o "count" apos) [a] [] cpos) (e2 countD f f') := by
  refine pe_conv (pe_bm (X := X) (apos := apos) (cpos := cpos) PySem.F.plainAttrs_list PySem.F.slot_list_count PySem.F.type_list_count mt_count ho (pa_cons ha pa_nil hs) hbase hfew hline hs hplain) fun σ H Q q => ?_
  obtain ⟨O, W, ρ, d, sr, e, k⟩ := q
  obtain ⟨x, y, e1, e2, e3⟩ := e2_some e
  refine ⟨O, W, ρ, x, sr, e1, fun v H1 s1 r1 => ?_⟩
  unfold countD at e3
  cases x with
  | list ds =>
    cases ey : dI y with
    | none => simp [ey] at e3
    | some i =>
      simp only [ey] at e3
      split at e3
      · rename_i ha'
        cases e3
        obtain ⟨l, xs, rfl, q1, q2⟩ := r1.lst
        refine ⟨.inl ⟨rfl, xs, q1⟩, O, W, ρ, y, sr.mono s1, e2, fun u H2 s2 r2 => ⟨l, xs, u, i, rfl, rfl, Same.sqL s2 q1, vI_of r2 ey, ?_, ?_⟩⟩
        · exact (reps_flat i q2 ha').1
        · rw [(reps_flat i q2 ha').2.1]
          exact k _ H2 (s1.trans s2) rfl
      · cases e3
  | _ => simp at e3
theorem se_index (ho : SB X o f) (ha : SE X a f') (hbase : attributeBase o "index" X.env (eval o X.env) = eval o X.env := by rfl) (hfew : ((backTo cpos (starEach [a] X.env)).all (fun x => !x.1) && (backToKw cpos (keywordEach [] X.env)).all (fun x => x.1.isSome)
      && decide ([a].length + ([] : List Keyword).length + (if ([] : List Keyword).isEmpty then 0 else 1) < 30)) = true := by rfl) (hline : (apos.endLine == cpos.line) = true := by rfl) (hs : starEach [a] X.env = [(false, eval a X.env)] := by rfl) (hplain : (backTo cpos (starEach [] X.env)).any (·.1) = false := by rfl) :
    SE X (.Call (.Attribute o "index" apos) [a] [] cpos) (e2 indexD f f') := by
  refine pe_conv (pe_bm (X := X) (apos := apos) (cpos := cpos) PySem.F.plainAttrs_list PySem.F.slot_list_index PySem.F.type_list_index mt_index ho (pa_cons ha pa_nil hs) hbase hfew hline hs hplain) fun σ H Q q => ?_
  obtain ⟨O, W, ρ, d, sr, e, k⟩ := q
  obtain ⟨x, y, e1, e2, e3⟩ := e2_some e
  refine ⟨O, W, ρ, x, sr, e1, fun v H1 s1 r1 => ?_⟩
  unfold indexD at e3
  cases x with
  | list ds =>
    cases ey : dI y with
    | none => simp [ey] at e3
    | some i =>
      simp only [ey] at e3
      split at e3
      · rename_i ha'
        split at e3
        · rename_i j hj
          cases e3
          obtain ⟨l, xs, rfl, q1, q2⟩ := r1.lst
          refine ⟨.inl ⟨rfl, xs, q1⟩, O, W, ρ, y, sr.mono s1, e2, fun u H2 s2 r2 => ⟨l, xs, u, i, j, rfl, rfl, Same.sqL s2 q1, vI_of r2 ey, ?_, ?_, ?_⟩⟩
          · exact (reps_flat i q2 ha').1
          · rw [(reps_flat i q2 ha').2.2]; exact hj
          · exact k _ H2 (s1.trans s2) rfl
        · cases e3
      · cases e3
  | _ => simp at e3
end
end Fn
set_option Elab.async false
set_option linter.all false
set_option maxRecDepth 100000
namespace Fn
open PySem L2 PySem.Spec PyProof.Rows
noncomputable abbrev mkX (X : Cx) (A1 : Around) (q : List (Addr × Obj)) (xe : Value → Shared → Prop) : Cx := { X with A := A1, calm := false, pn := X.pn ++ q, xe := xe }
section
variable {X : Cx} {A1 : Around} {q pins : List (Addr × Obj)} {xe : Value → Shared → Prop} {σ : L2.St} {H : Hp} {s : Shared}
theorem inv_in (I : Inv X pins σ H s) (hA : A1.frames = X.A.frames) (hq : ∀ p ∈ q, s.heap.get? p.1 = some p.2 ∧ H p.1 = none ∧ p.1 ≠ X.env.locals ∧ p.1 ∉ X.fs ∧ ∀ v, p.2.data ≠ .cell v) : Inv (mkX X A1 q xe) pins σ H s := by
  have ok := I.ok
  refine ⟨⟨ok.mod, ok.kind, ok.glob, ok.blt, ok.above, ok.inj, ok.has, ok.cab, (fun z => by cases z), hA.trans ok.frames, ok.stk, ok.exf, ok.bs, ok.bsz, ok.noex, ok.exfs, ok.funs, ok.frf⟩, I.os, I.bare, I.base, I.loc, I.cell, I.free, I.freeC, fun p hp => ?_, I.hok, I.len⟩
  have hp' : p ∈ (X.pn ++ q) ++ pins := hp
  rcases List.mem_append.mp hp' with z | z
  · rcases List.mem_append.mp z with z | z
    · exact I.pin p (List.mem_append_left _ z)
    · exact hq p z
  · exact I.pin p (List.mem_append_right _ z)
theorem inv_out (ok : X.Ok) (I : Inv (mkX X A1 q xe) pins σ H s) : Inv X pins σ H s := by
  refine ⟨ok, I.os, I.bare, I.base, I.loc, I.cell, I.free, I.freeC, fun p hp => I.pin p ?_, I.hok, I.len⟩
  show p ∈ (X.pn ++ q) ++ pins
  rcases List.mem_append.mp hp with z | z
  · exact List.mem_append_left _ (List.mem_append_left _ z)
  · exact List.mem_append_right _ z
end
noncomputable def Pinned (X : Cx) (e C : Addr) : Prop := ∃ oe : Obj, (e, oe) ∈ X.pn ∧ oe.cls = .ref C
noncomputable def rIsx (K : PySem.W.Frag) (e C : Addr) : List V → Hp → VK → Prop := fun vs H Q => ∃ c u b, vs = [.ref e, c] ∧ (∀ u', RelV c u' → u' = u) ∧ PySem.W.kitOne K (.ref C) u = some b ∧ Q (.bl b) H
noncomputable def eIsx (i : Nat) (e : Addr) (b : Bool) : Env → Option D := fun ρ => match ρ[i]? with
  | some (.ref a) => if a = e then some (.bool b) else none
  | _ => none
section
variable {X : Cx} {e C Dd : Addr} {i : Nat} {n d : Str} {p1 p2 p3 pos : Pos} {b : Bool}
theorem call_isx (hp : Pinned X e C) (k : ExK X.K C) : CallR X (.builtin "isinstance") (rIsx X.K e C) := by
  intro pins s σ H vs us Q I rv h
  obtain ⟨c, u, b, rfl, hu, hk, q⟩ := h
  obtain ⟨oe, hm, hc⟩ := hp
  cases rv with
  | cons r1 t =>
    cases t with
    | cons r2 t2 =>
      cases t2
      cases r1
      rw [hu _ r2]
      have hh := (I.pin (e, oe) (List.mem_append_left _ hm)).1
      exact PySem.W.kia_one (kitx_exc k) I.kIn ⟨oe, hh, hc⟩ hk (fun z => nomatch z) fun tk => ⟨.bl b, H, I.tok tk, rfl, q⟩
theorem isx_of {tc : TE} {c : V} {u : Value} (hu : ∀ u', RelV c u' → u' = u) (hk : PySem.W.kitOne X.K (.ref C) u = some b) : ∀ σ H Q, tF X.K (eIsx i e b) σ H Q → tCB (rIsx X.K e C) (tCons (tVar i) (tCons (tC c) tNil)) σ H Q := by
  intro σ H Q h
  obtain ⟨O, W, ρ, dd, sr, ev, kk⟩ := h
  unfold eIsx at ev
  split at ev
  · rename_i a ha
    split at ev
    · rename_i hae
      cases ev
      subst hae
      have z : σ[i]? = some (some (.ref a)) := sr.rel i _ ha
      exact ⟨.ref a, z, ⟨c, u, b, rfl, hu, hk, kk _ H (.refl H) rfl⟩⟩
    · cases ev
  · cases ev
theorem se_isx (hi : X.mg "isinstance" = none) (hp : Pinned X e C) (k : ExK X.K C) (hd : X.mg d = some (.ref Dd)) (hk : PySem.W.kitOne X.K (.ref C) (.ref Dd) = some b)
    (hN : X.N[i]? = some n := by rfl) (hv : Vis X.env.scope n := by first | exact Or.inl rfl | exact Or.inr (Or.inl rfl) | exact Or.inr (Or.inr rfl)) (hgi : Gl X "isinstance" := by rfl) (hgd : Gl X d := by rfl)
    (h1 : (n == ("__debug__" : Str)) = false := by decide) (h2 : (n == ("__classdict__" : Str)) = false := by decide) (h3 : (d == ("__debug__" : Str)) = false := by decide)
    (hs : starEach [.Name n p2, .Name d p3] X.env = [(false, eval (.Name n p2) X.env), (false, eval (.Name d p3) X.env)] := by rfl) (hs2 : starEach [.Name d p3] X.env = [(false, eval (.Name d p3) X.env)] := by rfl) :
    SE X (.Call (.Name "isinstance" p1) [.Name n p2, .Name d p3] [] pos) (eIsx i e b) :=
  pe_conv (pe_callB (call_isx hp k) hgi hi bo_isinstance (pa_cons (pe_var hN hv h1 h2) (pa_cons (pe_glob hgd hd (v := .ref Dd) rfl h3) pa_nil hs2) (by rw [hs, hs2])) (by decide) (by decide) (by rw [hs, hs2]) (by rw [hs2]; rfl))
    (isx_of (tc := tNo) (c := .ref Dd) (u := .ref Dd) (fun _ r => r) hk)
theorem se_isxV (hi : X.mg "isinstance" = none) (hm : X.mg "ValueError" = none) (hp : Pinned X e C) (k : ExK X.K C) (hk : PySem.W.kitOne X.K (.ref C) (.type "ValueError") = some b)
    (hN : X.N[i]? = some n := by rfl) (hv : Vis X.env.scope n := by first | exact Or.inl rfl | exact Or.inr (Or.inl rfl) | exact Or.inr (Or.inr rfl)) (hgi : Gl X "isinstance" := by rfl) (hgd : Gl X "ValueError" := by rfl)
    (h1 : (n == ("__debug__" : Str)) = false := by decide) (h2 : (n == ("__classdict__" : Str)) = false := by decide)
    (hs : starEach [.Name n p2, .Name "ValueError" p3] X.env = [(false, eval (.Name n p2) X.env), (false, eval (.Name "ValueError" p3) X.env)] := by rfl) (hs2 : starEach [.Name "ValueError" p3] X.env = [(false, eval (.Name "ValueError" p3) X.env)] := by rfl) :
    SE X (.Call (.Name "isinstance" p1) [.Name n p2, .Name "ValueError" p3] [] pos) (eIsx i e b) :=
  pe_conv (pe_callB (call_isx hp k) hgi hi bo_isinstance (pa_cons (pe_var hN hv h1 h2) (pa_cons (pe_bltn hgd hm PyProof.Rows.Boot.«ValueError» (v := .ty "ValueError") rfl) pa_nil hs2) (by rw [hs, hs2])) (by decide) (by decide) (by rw [hs, hs2]) (by rw [hs2]; rfl))
    (isx_of (tc := tNo) (c := .ty "ValueError") (u := .type "ValueError") (fun _ r => r) hk)
theorem st_neU {a b : Expr} {f f' : Env → Option D} (hu : X.A.units + 200 < cLine) (ha : SB X a f) (hb : SB X b f') : ST X (.Compare a [.NotEq] [b] pos) (eT (e2 neD f f')) := by
  refine st_cmp (r := rD X.K neD) (fun pins s σ H x y v u Q I rx ry h => ?_) (opD_rD neD_bool) ha hb (nomark _)
  obtain ⟨dx, dy, b, r1, r2, e, q⟩ := h
  obtain ⟨as, a1⟩ := Rep.reads I r1 rx
  obtain ⟨bs, a2⟩ := Rep.reads I r2 ry
  obtain ⟨z, rfl⟩ := ite_bool' e
  exact SeqAt.compareNe_reads a1 a2 r1.lay r2.lay (by unfold deep at z; omega) ⟨.bl _, H, I, rfl, q⟩
end
structure RoomH (k : Nat) (A : Around) : Prop where
  dp : A.depth + 3 * k + 5 < recursionLimit
  un : A.units + 16 * k + 200 < cLine
noncomputable def ExOk (e C : Addr) (outer : List PySem.Env) (H : Hp) (s : Shared) : Prop := ∃ oe : Obj, s.heap.get? e = some oe ∧ oe.cls = .ref C ∧ (∀ v, oe.data ≠ .cell v) ∧ H e = none ∧ e ∉ frs outer
noncomputable def HandOk (P : Program) (w : World) (K : PySem.W.Frag) (mg : Str → Option Value) (base : Heap) (n : Str) (k : Nat) (C : Addr) (res : D) : Prop :=
  ∃ f fd p, mg n = some (.ref f) ∧ PySem.W.keepIn K (.ref f) = true ∧ Binds K fd [p] [] ∧ ∀ (A : Around) (outer : List PySem.Env) (s : Shared) (H : Hp) (e : Addr) (O : List Addr) (Q : VK), RoomH k A → Env0 P w K mg base A outer s H → ExOk e C outer H s → (∀ a ∈ O, H a ≠ none) →
    (∀ v H', Same H H' → Rep K (hid O H') res v → Q v H') → codeAny (model P w) A (.call (.ref f) ⟨[.ref e], []⟩) (CR CX0 outer P w H s Q E0) s
theorem hand_of {P : Program} {w : World} {K : PySem.W.Frag} {mg : Str → Option Value} {base : Heap} {n p : Str} {st : Stmt} {f : Addr} {fd : FuncData} {N : List Str} {k : Nat} {C : Addr} {b : Addr → Env → Option Fl} {res : D} (F : DefIn K mg n st [p] f fd) (S : FnScope N [p] (defScope st))
    (hres : ∀ e, b e (Cel.ref e :: List.replicate (N.length - 1) Cel.emp) = some (.rt res))
    (hbody : ∀ (cdv : Value) (A A1 : Around) (outer : List PySem.Env) (s : Shared) (H : Hp) (e : Addr) (oe : Obj), Pinned (mkX (cxOf CX0 P w K mg base N n (defScope st) f cdv A outer s H E0) A1 [(e, oe)] (fun _ _ => False)) e C → A1.units + 200 < cLine →
      SSs (mkX (cxOf CX0 P w K mg base N n (defScope st) f cdv A outer s H E0) A1 [(e, oe)] (fun _ _ => False)) (defBody st) (b e)) :
    HandOk P w K mg base n (k + 1) C res := by
  have F' := F.fn
  obtain ⟨oc, od, kV, doc, pm, an, cdv, ct, osl, rfl, lk, hcd⟩ := F'.ex
  refine ⟨f, _, p, F.mg, F.fn.kp, F.bd, fun A outer s H e O Q hr e0 hx lv hQ => ?_⟩
  obtain ⟨oe, hoe, hcls, hnc, hne, hnf⟩ := hx
  have KX : K.In s.heap := e0.mod.kin.keeps fun b o e => (e0.bs b o e).1
  have lim : s.heap.NoLimit := e0.mod.nolimit.keeps fun b o e => (e0.bs b o e).1
  have hkind : ∀ y ∈ [p].zip [Value.ref e], (defScope st).names.lookup y.1 = some .local ∨ ((defScope st).names.lookup y.1 = some .cell ∧ ((cellsFrom (s.heap.objs.size + 1) (defScope st).names []).lookup y.1).isSome = true) := fun ⟨n, v⟩ hy => by
    rcases S.par n (List.of_mem_zip hy).1 with q | q
    · exact .inl q
    · exact .inr ⟨q, PySem.W.cellsFrom_some _ _ _ (.inl q)⟩
  have hb : BindsTo s (PySem.W.fnOf n n (defArgs st) (defBody st) (defScope st) .none kV doc pm an cdv ct) ⟨[.ref e], []⟩ ([p].zip [Value.ref e]) := F.bd s [.ref e] KX rfl
  refine codeAny_call_function (by have := hr.dp; omega) (KX _ _ lk) rfl S.co S.gen rfl (PySem.W.codeRec_of KX hcd) (hb _ _ _ _ ?_)
  refine wpAny_newFunctionEnv_cells S.kind hkind fun env he s1 x => ?_
  subst he
  refine ⟨lim.keeps x.toInCall.keep, codeAny_func ?_⟩
  have e0' : Env0 P w K mg base { A with handled := none } outer s H := ⟨e0.frames, e0.mod, e0.bs, e0.bsz, e0.funs, e0.frf, e0.hok, e0.bare⟩
  have I0 : Inv (cxOf CX0 P w K mg base N n (defScope st) f cdv { A with handled := none } outer s H E0) [] (L2.start N [V.ref e]) H s1 := inv_start S rfl e0' rfl (.cons rfl .nil) x
  have hlt : e < s.heap.objs.size := Heap.lt_size hoe
  have I : Inv (mkX (cxOf CX0 P w K mg base N n (defScope st) f cdv { A with handled := none } outer s H E0) (A.deeper (envOfC n (defScope st) s.heap.objs.size f cdv)) [(e, oe)] (fun _ _ => False)) [] (L2.start N [V.ref e]) H s1 :=
    inv_in I0 rfl fun q hq => by
      have hq' : q = (e, oe) := by simpa using hq
      subst hq'
      exact ⟨x.toInCall.keep _ _ hoe, hne, Nat.ne_of_lt hlt, hnf, hnc⟩
  have hB := hbody cdv { A with handled := none } (A.deeper (envOfC n (defScope st) s.heap.objs.size f cdv)) outer s H e oe ⟨oe, List.mem_append_right _ (.head _), hcls⟩ (by have := hr.un; show A.units + 3 + 200 < _; omega)
  have len1 : 1 ≤ N.length := by have := congrArg List.length S.pre; rw [List.length_take] at this; simp at this; omega
  have sr : SR K O [] (Cel.ref e :: List.replicate (N.length - 1) Cel.emp) (L2.start N [V.ref e]) H := by
    refine ⟨?_, fun i c ec => ?_, fun i j ds es a ne e1 => ?_, fun a ha => lv a (by simpa using ha)⟩
    · unfold L2.start; simp
    · cases i with
      | zero => simp at ec; subst ec; unfold L2.start; rfl
      | succ i =>
        simp only [List.getElem?_cons_succ, List.getElem?_replicate] at ec
        split at ec
        · cases ec; trivial
        · cases ec
    · exfalso
      cases i with
      | zero => simp at e1
      | succ i =>
        simp only [List.getElem?_cons_succ, List.getElem?_replicate] at e1
        split at e1 <;> cases e1
  refine wpAny_mono (hB [] s1 (L2.start N [V.ref e]) H { nx := fun _ H' => Q .non H', rt := Q } I ⟨O, [], _, _, sr, hres e, fun W' v H' rv fm => hQ v H' fm.same (rv.mono (hid_less fun a ha => List.mem_append_left _ ha))⟩) (fun fl s' hs => ?_) fun e s' hs => hs.elim
  cases fl with
  | ret u =>
    obtain ⟨v, σ', H', J, rv, q⟩ := hs
    exact ⟨v, H', J.os, J.bare, J.base, J.hok, rv, q⟩
  | next =>
    obtain ⟨σ', H', J, q⟩ := hs
    exact ⟨.non, H', J.os, J.bare, J.base, J.hok, rfl, q⟩
  | brk =>
    obtain ⟨_, _, _, q⟩ := hs
    exact q.elim
  | cont =>
    obtain ⟨_, _, _, q⟩ := hs
    exact q.elim
end Fn
set_option Elab.async false
set_option linter.all false
set_option maxRecDepth 100000
namespace Fn
open PySem L2 PySem.Spec PyProof.Rows
section
variable {X : Cx} {pins : List (Addr × Obj)} {σ σ1 : L2.St} {H H1 : Hp} {s s1 : Shared} {B h' : Heap}
theorem inv_flown (I1 : Inv X pins σ1 H1 s1) (I2 : Inv X pins σ H s) (hB : ∀ b o, s.heap.get? b = some o → ((∃ o0, s1.heap.get? b = some o0) ∨ H b ≠ none) → b ∉ frs X.stack → B.get? b = some o)
    (st : B.StaysIn h') (up : s.heap.UpToSlots h') {t' : Nat} : Inv X pins σ H { s with heap := h', toks := t' } := by
  have old : ∀ b o0 o, s1.heap.get? b = some o0 → b ≠ X.env.locals → b ∉ X.fs → s.heap.get? b = some o → h'.get? b = some o := fun b o0 o q0 nl nf q =>
    st b o (hB b o q (.inl ⟨o0, q0⟩) fun z => by
      rcases List.mem_cons.mp (I1.stkSub b z) with z | z
      · exact nl z
      · exact nf z)
  have trk : ∀ b u, H b ≠ none → s.heap.get? b = some u → h'.get? b = some u := fun b u hb q => st b u (hB b u q (.inr hb) fun z => hb (I2.stkFree b z))
  have isfr : ∀ b o, b ∈ X.fs → s.heap.get? b = some o → ∃ sl, h'.get? b = some { o with slots := sl } := fun b o hb q => up b o q fun vs z => by
    obtain ⟨_, o2, q2, nf⟩ := I2.funs.mem hb
    rw [q] at q2; cases q2
    exact nf vs z
  have loc0 : ∀ b o, X.s₀.heap.get? b = some o → b ≠ X.env.locals := fun b o q => Nat.ne_of_lt (Nat.lt_of_lt_of_le (Heap.lt_size q) I2.ok.above)
  have cel : ∀ c v, s.heap.IsCell c v → h'.IsCell c v := fun c v hc => by
    obtain ⟨o, q, hd⟩ := hc
    obtain ⟨sl, q2⟩ := up c o q fun vs z => by rw [hd] at z; cases z
    exact ⟨_, q2, hd⟩
  refine ⟨I2.ok, I2.os, I2.bare, ⟨fun b o q n nb nx => ?_, fun b o q n hb nx => ?_, I2.base.free, fun b o q nx => ?_, I2.base.tups, I2.base.frzs, I2.base.tbls⟩, ?_, fun x c e => ?_, I2.free, I2.freeC, fun p hp => ?_, kept_tracked I2.hok trk, I2.len⟩
  · obtain ⟨o1, q1⟩ := I1.base.there b o q nx
    exact old b o1 o q1 (loc0 b o q) nb (I2.base.keep b o q n nb nx)
  · obtain ⟨sl, q1⟩ := I2.base.slot b o q n hb nx
    obtain ⟨sl2, q2⟩ := isfr b _ hb q1
    exact ⟨sl2, q2⟩
  · obtain ⟨o1, q1⟩ := I1.base.there b o q nx
    obtain ⟨o2, q2⟩ := I2.base.there b o q nx
    by_cases hb : b ∈ X.fs
    · obtain ⟨sl, q3⟩ := isfr b o2 hb q2; exact ⟨_, q3⟩
    · exact ⟨o2, old b o1 o2 q1 (loc0 b o q) hb q2⟩
  · obtain ⟨m, hn, hl⟩ := I2.loc
    refine ⟨m, up.ns hn, fun i x v e1 e2 e3 => ?_⟩
    obtain ⟨u, r, l⟩ := hl i x v e1 e2 e3
    refine ⟨u, r, ?_⟩
    rcases l with l | ⟨k, c, e, z⟩
    · exact .inl l
    · exact .inr ⟨k, c, e, cel c _ z⟩
  · obtain ⟨v, z⟩ := I2.cell x c e
    exact ⟨v, cel c v z⟩
  · obtain ⟨e1, n1, ne, nf, d⟩ := I2.pin p hp
    obtain ⟨e0, _⟩ := I1.pin p hp
    exact ⟨old p.1 p.2 p.2 e0 ne nf e1, n1, ne, nf, d⟩
theorem inv_names {m : Str → Option Value} (I : Inv X pins σ H s) (hn : h'.Ns X.env.locals m) (sb : Heap.SameBut X.env.locals s.heap h') {t' : Nat} : Inv X pins (List.replicate X.N.length none) H { s with heap := h', toks := t' } := by
  have ot : ∀ b, b ≠ X.env.locals → h'.get? b = s.heap.get? b := fun b nb => sb.2 b nb
  have loc0 : ∀ b o, X.s₀.heap.get? b = some o → b ≠ X.env.locals := fun b o q => Nat.ne_of_lt (Nat.lt_of_lt_of_le (Heap.lt_size q) I.ok.above)
  refine ⟨I.ok, I.os, I.bare, ⟨fun b o q n nb nx => ?_, fun b o q n hb nx => ?_, I.base.free, fun b o q nx => ?_, I.base.tups, I.base.frzs, I.base.tbls⟩, ⟨m, hn, fun i x v e1 e2 e3 => ?_⟩, fun x c e => ?_, I.free, I.freeC, fun p hp => ?_, kept_tracked I.hok fun b u hb q => ?_, by simp⟩
  · exact (ot b (loc0 b o q)).trans (I.base.keep b o q n nb nx)
  · obtain ⟨sl, q1⟩ := I.base.slot b o q n hb nx
    exact ⟨sl, (ot b (loc0 b o q)).trans q1⟩
  · obtain ⟨o1, q1⟩ := I.base.there b o q nx
    exact ⟨o1, (ot b (loc0 b o q)).trans q1⟩
  · rw [List.getElem?_replicate] at e2
    split at e2 <;> cases e2
  · obtain ⟨v, o, ho, hd⟩ := I.cell x c e
    exact ⟨v, o, (ot c (I.cne x c e)).trans ho, hd⟩
  · obtain ⟨e1, n1, ne, nf, d⟩ := I.pin p hp
    exact ⟨(ot p.1 ne).trans e1, n1, ne, nf, d⟩
  · exact (ot b fun z => hb (by rw [z]; exact I.free)).trans q
noncomputable abbrev mkP (X : Cx) (q : List (Addr × Obj)) (xe : Value → Shared → Prop) : Cx := { X with pn := X.pn ++ q, xe := xe }
theorem inv_pin {xe : Value → Shared → Prop} (I : Inv X pins σ H s) : Inv (mkP X pins xe) [] σ H s := by
  have ok := I.ok
  refine ⟨⟨ok.mod, ok.kind, ok.glob, ok.blt, ok.above, ok.inj, ok.has, ok.cab, ok.hd, ok.frames, ok.stk, ok.exf, ok.bs, ok.bsz, ok.noex, ok.exfs, ok.funs, ok.frf⟩, I.os, I.bare, I.base, I.loc, I.cell, I.free, I.freeC, fun p hp => I.pin p ?_, I.hok, I.len⟩
  have hp' : p ∈ (X.pn ++ pins) ++ [] := hp
  simpa using hp'
theorem inv_unpin {xe : Value → Shared → Prop} {q : List (Addr × Obj)} (I : Inv (mkP X q xe) pins σ H s) : Inv X q σ H s := by
  have ok := I.ok
  exact ⟨⟨ok.mod, ok.kind, ok.glob, ok.blt, ok.above, ok.inj, ok.has, ok.cab, ok.hd, ok.frames, ok.stk, ok.exf, ok.bs, ok.bsz, ok.noex, ok.exfs, ok.funs, ok.frf⟩, I.os, I.bare, I.base, I.loc, I.cell, I.free, I.freeC, fun p hp => I.pin p (List.mem_append_left _ hp), I.hok, I.len⟩
end
structure ExUp (K : PySem.W.Frag) (C T : Addr) : Prop where
  up : PySem.W.mroIn K C (.ref T) = some true
  tb : PySem.W.mroIn K T (.type "BaseException") = some true
  ty : PySem.W.typeIn K (.ref T) = some (.type "type")
  cl : (PySem.W.clsIn K T).isSome = true
theorem exc_matches {K : PySem.W.Frag} {C T e : Addr} {M : Model} {A : Around} {E : Value → Shared → Prop} {Q : Bool → Shared → Prop} {h : Heap} {g : Array GenState} {d : Drawn} {t : Nat} {os : OsState} (X : K.In h) (k : ExUp K C T) (he : ExAt e C h) (hq : Q true ⟨h, g, d, t, os⟩) :
    wpAny M A (excMatches (.ref e) (.ref T)) Q E ⟨h, g, d, t, os⟩ := by
  obtain ⟨oe, hx, hc⟩ := he
  have key : ∃ (dd : Option Addr) (cd : ClassData) (sl : Array (Option Value)), h.get? T = some ⟨.type "type", dd, .cls cd, sl⟩ := by
    obtain ⟨oT, hoT, hty⟩ := Option.map_eq_some_iff.mp k.ty
    have z := k.cl
    unfold PySem.W.clsIn at z
    rw [hoT] at z
    obtain ⟨c1, d1, dt, sl⟩ := oT
    have hc1 : c1 = .type "type" := hty
    subst hc1
    cases dt <;> first | exact ⟨_, _, _, X _ _ hoT⟩ | cases z
  obtain ⟨dd, cd, sl, hT⟩ := key
  have l1 := PySem.W.looks_mroIn (M := M) X k.up
  have l2 := PySem.W.looks_mroIn (M := M) X k.tb
  have f := tc_notTuple
  unfold excMatches
  repeat (first | (with_reducible refine wpAny_loadPart_at hx ?_; rw [hc]) | with_reducible refine wpAny_loadPart_at hT ?_ | with_reducible refine l1.at ?_ | with_reducible refine l2.at ?_ | wp_step)
  exact hq
end Fn
set_option Elab.async false
set_option linter.all false
set_option maxRecDepth 100000
namespace Fn
open PySem L2 PySem.Spec PyProof.Rows
noncomputable def tHand (K : PySem.W.Frag) (i : Nat) (e : Addr) (res : D) : TE := fun σ H Q => σ[i]? = some (some (.ref e)) ∧ ∃ O, (∀ a ∈ O, H a ≠ none) ∧ ∀ v H', Same H H' → Rep K (hid O H') res v → Q v H'
section
variable {X : Cx} {e C : Addr} {res : D} {k i : Nat} {n nr : Str} {p p2 pos : Pos}
theorem pe_hand (h : HandOk X.prog X.w X.K X.mg X.base nr k C res) (hr : RoomH k X.A) (hp : Pinned X e C) (hN : X.N[i]? = some n) (hv : Vis X.env.scope n) (hg : Gl X nr) (hd : (n == ("__debug__" : Str)) = false) (hcd : (n == ("__classdict__" : Str)) = false) (hdb : (nr == ("__debug__" : Str)) = false)
    (he : starEach [.Name n p2] X.env = [(false, eval (.Name n p2) X.env)]) : PE X (.Call (.Name nr p) [.Name n p2] [] pos) (tHand X.K i e res) := by
  obtain ⟨f, fd, pn, h1, h2, h3, h4⟩ := h
  intro pins s σ H Q I hq
  obtain ⟨hσ, O, lv, hQ⟩ := hq
  refine wpAny_Call_Name_kw (ld_glob I hg h1 ?_ hdb)
  have hA := (pa_cons (pe_var (X := X) (pos := p2) hN hv hd hcd) pa_nil he) pos pins s σ H (fun vs H' => vs = [.ref e] ∧ H' = H) I ⟨.ref e, hσ, rfl, rfl⟩
  refine PySem.W.callWith_K (h₀ := X.base) I.ok.mod.kin h2 (thn hA fun us s1 h_0 => ?_) he rfl
  obtain ⟨vs, H1, I1, r1, rfl, rfl⟩ := h_0
  refine ⟨I1.kIn, ?_⟩
  obtain ⟨u, rfl, ru⟩ := r1.one
  cases ru
  obtain ⟨oe, hm, hc⟩ := hp
  obtain ⟨q1, q2, q3, q4, q5⟩ := I1.pin (e, oe) (List.mem_append_left _ hm)
  have hx : ExOk e C X.stack H1 s1 := ⟨oe, q1, hc, q5, q2, fun z => by
    rcases List.mem_cons.mp (I1.stkSub e z) with z | z
    · exact q3 z
    · exact q4 z⟩
  refine wpAny_call (codeAny_mono (h4 X.A X.stack s1 H1 e O Q hr I1.env0 hx lv hQ) fun r s' hq => ?_)
  cases r with
  | error e => exact hq.elim
  | ok fl =>
    cases fl with
    | ret u => exact I1.after hq
    | next => exact False.elim hq
    | brk => exact False.elim hq
    | cont => exact False.elim hq
end
noncomputable def sTry (b : Env → Option Fl) (x : Env → Option Str) (r : Str → Option D) : Env → Option Fl := fun ρ => match b ρ with
  | some fl => some fl
  | none => match x ρ with
    | some c => (match r c with
      | some d => some (.rt d)
      | none => none)
    | none => none
section
variable {X : Cx} {body : List Stmt} {b : Env → Option Fl} {x : Env → Option Str} {r : Str → Option D} {T : Addr} {k i : Nat} {nT nE nR : Str} {np p1 p2 cp rp hp pos : Pos}
theorem ss_try (hb : SSs X.nox body b) (hx : ∀ (pins : List (Addr × Obj)) (xe : Value → Shared → Prop) (E : XK), Passes (CXX X.prog X.w) (mkP X pins xe) E → RSs (mkP X pins xe) E body x) (hT : X.mg nT = some (.ref T))
    (hC : ∀ c d, r c = some d → ∃ C, X.mg c = some (.ref C) ∧ ExUp X.K C T ∧ HandOk X.prog X.w X.K X.mg X.base nR k C d) (hr : Room k X.A) (hN : X.N.Nodup) (hi : X.N[i]? = some nE := by rfl)
    (hlo : X.env.scope.names.lookup nE = some .local := by rfl) (hst : X.stack = X.env :: X.outer := by rfl) (hfr : X.env.frame = some X.env.locals := by rfl) (hgT : Gl X nT := by rfl) (hgR : Gl X nR := by rfl)
    (hdT : (nT == ("__debug__" : Str)) = false := by decide) (hd : (nE == ("__debug__" : Str)) = false := by decide) (hcd : (nE == ("__classdict__" : Str)) = false := by decide) (hdb : (nR == ("__debug__" : Str)) = false := by decide)
    (he : starEach [.Name nE p2] X.env = [(false, eval (.Name nE p2) X.env)] := by rfl) :
    SS X (.Try body [.ExceptHandler (some (.Name nT np)) (some nE) [.Return (some (.Call (.Name nR p1) [.Name nE p2] [] cp)) rp] hp] [] [] pos) (sTry b x r) := by
  intro pins s σ H Dn I hw
  obtain ⟨O, W, ρ, fl, sr, e0, kP⟩ := hw
  refine wpAny_Try_except ?_
  unfold sTry at e0
  cases eb : b ρ with
  | some fl1 =>
    rw [eb] at e0
    cases e0
    refine wpAny_mono (hb pins s σ H Dn (I.wish _) ⟨O, W, ρ, fl, sr, eb, kP⟩) (fun f s1 q => ?_) (fun e s1 q => q.elim)
    have q' := q.unwish
    cases f with
    | next => exact wpAny_execs_nil q'
    | ret v => exact q'
    | brk => exact q'
    | cont => exact q'
  | none =>
    rw [eb] at e0
    cases ex : x ρ with
    | none => simp [ex] at e0
    | some c =>
      simp only [ex] at e0
      cases er : r c with
      | none => simp [er] at e0
      | some d =>
        simp only [er] at e0
        cases e0
        obtain ⟨C, mC, up, hand⟩ := hC c d er
        refine wpAny_mono (hx pins (fun v s1 => wpAny (model X.prog X.w) X.A (noteFrame v X.env) (fun _ s2 => wpAny (model X.prog X.w) X.A (setFlight v none) (fun _ s3 => wpAny (model X.prog X.w) X.A (handleBy v X.env [.ExceptHandler (some (.Name nT np)) (some nE) [.Return (some (.Call (.Name nR p1) [.Name nE p2] [] cp)) rp] hp]) (SP X pins Dn) X.xe s3) X.xe s2) X.xe s1)
          (fun v _ H' => v = .ref C ∧ ∃ W', Fm W H H' W' ∧ ∀ a ∈ O ++ W', H' a ≠ none) ?_ [] s σ H { nx := fun _ _ => False, rt := fun _ _ => False } (inv_pin I) ⟨O, W, ρ, c, C, sr, ex, mC, fun W' H' fm lv => ⟨rfl, W', fm, lv⟩⟩) (fun f s1 q => ?_) (fun e s1 q => q)
        · intro pins' σ1 H1 s1 v s2 I1 hcx
          obtain ⟨C', e, H', rfl, ⟨os, bare, un, hok, hne, hnn, B, a0, hB, fly⟩, ⟨eC, W', fm, lv⟩⟩ := hcx
          cases eC
          have J1 : Inv X pins σ1 H1 s1 := inv_unpin I1
          have J2 : Inv X pins σ1 H' s2 := inv_unpin (I1.call' (ch := []) os un hok bare (fun b z => absurd z (by simp)))
          have hst' : (mkP X pins fun v s1 => wpAny (model X.prog X.w) X.A (noteFrame v X.env) (fun _ s2 => wpAny (model X.prog X.w) X.A (setFlight v none) (fun _ s3 => wpAny (model X.prog X.w) X.A (handleBy v X.env [.ExceptHandler (some (.Name nT np)) (some nE) [.Return (some (.Call (.Name nR p1) [.Name nE p2] [] cp)) rp] hp]) (SP X pins Dn) X.xe s3) X.xe s2) X.xe s1).stack = X.env :: X.outer := hst
          rw [hst'] at fly hB
          have hB' : ∀ b o, s2.heap.get? b = some o → ((∃ o0, s1.heap.get? b = some o0) ∨ H' b ≠ none) → b ∉ frs X.stack → B.get? b = some o := by rw [hst]; exact hB
          have frm : X.A.frames = some (X.env :: X.outer) := by rw [← hst]; exact J1.ok.frames
          show wpAny _ _ (noteFrame _ _) _ _ _
          refine wpAny_looks_onW (base := B) frm hfr fly fun h4 held4 up4 => ?_
          refine wpAny_landsW held4 fun h5 fly5 up5 => ?_
          have J5 : Inv X pins σ1 H' { s2 with heap := h5 } := inv_flown J1 J2 hB' fly5.1 (up4.trans up5)
          have J5m : Inv (mkX X (X.A.mark (some (.ref e))) [] (fun _ _ => False)) pins σ1 H' { s2 with heap := h5 } := inv_in J5 rfl (fun p hp => absurd hp (by simp))
          obtain ⟨ob, hob, hobc⟩ := fly5.there
          refine wpAny_handleBy_cons (codeAny_handlers_test (ld_glob J5m hgT hT ?_ hdT)) (by intro q; cases q)
          refine exc_matches (K := X.K) J5.kIn up ⟨ob, hob, hobc⟩ (codeAny_handlers_suite_as ?_)
          refine lands_againW fly5 fun h6 fly6 up6 => ?_
          have J6 : Inv X pins σ1 H' { s2 with heap := h6 } := inv_flown J1 J2 hB' fly6.1 ((up4.trans up5).trans up6)
          obtain ⟨oe, vs, hoe, hoec, hoed, _⟩ := fly6.first
          have nfr : e ∉ frs (X.env :: X.outer) := fun z => by
            obtain ⟨_, o2, q2, nf⟩ := fly6.2.2.1.mem z
            rw [hoe] at q2; cases q2
            exact nf vs hoed
          have nloc : e ≠ X.env.locals ∧ e ∉ X.fs := by
            have z : frs (X.env :: X.outer) = X.env.locals :: frs X.outer := by unfold frs; rw [List.filterMap_cons, hfr]
            rw [z] at nfr
            exact ⟨fun q => nfr (by rw [q]; exact List.mem_cons_self), fun q => nfr (List.mem_cons_of_mem _ q)⟩
          have J6m : Inv (mkX X (X.A.mark (some (.ref e))) [(e, oe)] (fun _ _ => False)) pins σ1 H' { s2 with heap := h6 } := inv_in J6 rfl fun p hp => by
            have hp' : p = (e, oe) := by simpa using hp
            subst hp'
            exact ⟨hoe, hne, nloc.1, nloc.2, fun v z => by rw [hoed] at z; cases z⟩
          refine store_ok (X := mkX X (X.A.mark (some (.ref e))) [(e, oe)] (fun _ _ => False)) J6m hN hi (.inl hlo) (show RelV (.ref e) (.ref e) from rfl) (fun s7 I7 => ?_) (.inr hlo)
          have hlen : i < σ1.length := by rw [J1.len]; exact (List.getElem?_eq_some_iff.mp hi).1
          have rh : RoomH k (mkX X (X.A.mark (some (.ref e))) [(e, oe)] (fun _ _ => False)).A := ⟨hr.dp, hr.un⟩
          have ps := pss_one (ps_ret (pos := rp) (pe_hand (X := mkX X (X.A.mark (some (.ref e))) [(e, oe)] (fun _ _ => False)) (i := i) (n := nE) (nr := nR) (p := p1) (p2 := p2) (pos := cp) hand rh ⟨oe, List.mem_append_right _ (.head _), hoec⟩ hi (.inl hlo) hgR hd hcd hdb he))
          refine wpAny_mono (ps pins s7 (σ1.set i (some (.ref e))) H' { nx := fun _ _ => False, rt := Dn.rt } I7 ⟨List.getElem?_set_self hlen, O, fun a ha => lv a (List.mem_append_left _ ha), fun v H8 s8 rep => ?_⟩) (fun f s8 q8 => ?_) (fun _ _ z => z.elim)
          · refine kP [] v H8 (by rw [List.append_nil]; exact rep) ⟨fun b o q n => s8 b o (fm.keep b o q n), fun a ha => absurd ha (by simp)⟩
          · cases f with
            | ret u =>
              obtain ⟨v, σ8, H8, I8, r8, q8⟩ := q8
              have J8 : Inv X pins σ8 H8 s8 := inv_out J1.ok I8
              obtain ⟨m, hn, _⟩ := id J8.loc
              have hk : (X.env.scope.kind == .class || (X.env.scope.kind == .module && X.env.locals != X.env.globals)) = false := by rw [J1.ok.kind]; rfl
              exact wpAny_nameGoes hlo hn hk fun h9 m9 hn9 sb9 => ⟨v, _, H8, inv_names J8 hn9 sb9, r8, q8⟩
            | next => obtain ⟨_, _, _, q⟩ := q8; exact q.elim
            | brk => obtain ⟨_, _, _, q⟩ := q8; exact q.elim
            | cont => obtain ⟨_, _, _, q⟩ := q8; exact q.elim
        · cases f with
          | ret u => obtain ⟨_, _, _, _, _, q⟩ := q; exact q.elim
          | next => obtain ⟨_, _, _, q⟩ := q; exact q.elim
          | brk => obtain ⟨_, _, _, q⟩ := q; exact q.elim
          | cont => obtain ⟨_, _, _, q⟩ := q; exact q.elim
end
end Fn
set_option Elab.async false
set_option linter.all false
set_option maxRecDepth 100000
namespace Fn
open PySem L2 PySem.Spec PyProof.Rows
noncomputable def xRz (f : Env → Option D) (n : Str) : Env → Option Str := fun ρ => match f ρ with
  | some _ => some n
  | none => none
section
variable {X : Cx} {E : XK} {st : Stmt} {x y : Env → Option Str} {a b : Expr} {e : Expr} {es : List Expr} {pos : Pos} {f : Env → Option D}
theorem rs_rz {n : Str} {C : Addr} {np cpos : Pos} (hx : ExC X.K X.mg n C) (hz : Raises X E) (hh : X.A.handled = none) (ha : SE X a f) (hg : Gl X n := by rfl) (hd : (n == ("__debug__" : Str)) = false := by decide)
    (he : starEach [a] X.env = [(false, eval a X.env)] := by rfl) : RS X E (.Raise (some (.Call (.Name n np) [a] [] cpos)) none pos) (xRz f n) := rs_raise hx hz hh ha hg hd he
end
end Fn
set_option Elab.async false
set_option linter.all false
set_option maxRecDepth 100000
namespace Fn
open PySem L2 PySem.Spec PyProof.Rows
theorem cls_of_mro {K : PySem.W.Frag} {C : Addr} {v : Value} {b : Bool} (h : PySem.W.mroIn K C v = some b) : (PySem.W.clsIn K C).isSome = true := by
  unfold PySem.W.mroIn at h
  cases e : PySem.W.clsIn K C with
  | none => rw [e] at h; cases h
  | some cd => rfl
theorem kit_of {K : PySem.W.Frag} {C D : Addr} {b b' : Bool} {v : Value} (hD : PySem.W.mroIn K D v = some b') (ht : PySem.W.typeIn K (.ref D) = some (.type "type")) (hm : PySem.W.mroIn K C (.ref D) = some b) (hb : C = D → b = true) : PySem.W.kitOne K (.ref C) (.ref D) = some b := by
  unfold PySem.W.kitOne
  by_cases z : C = D
  · subst z
    rw [hb rfl, if_pos (beq_self_eq_true _)]
  · rw [if_neg (fun q => z (Value.ref.inj (beq_iff_eq.mp q)))]
    unfold PySem.W.kitCls
    have c : ((PySem.W.clsIn K D).isSome && PySem.W.typeIn K (.ref D) == some (.type "type")) = true := by
      rw [cls_of_mro hD, ht]
      simp
    show (if ((PySem.W.clsIn K D).isSome && PySem.W.typeIn K (.ref D) == some (.type "type")) = true then PySem.W.subIn K (.ref C) (.ref D) else none) = _
    rw [if_pos c]
    exact hm
theorem kit_no {K : PySem.W.Frag} {C D : Addr} {b' : Bool} {v : Value} (hD : PySem.W.mroIn K D v = some b') (ht : PySem.W.typeIn K (.ref D) = some (.type "type")) (hm : PySem.W.mroIn K C (.ref D) = some false) (hs : PySem.W.mroIn K C (.ref C) = some true) : PySem.W.kitOne K (.ref C) (.ref D) = some false :=
  kit_of hD ht hm fun z => by subst z; rw [hs] at hm; cases hm
theorem kit_self {K : PySem.W.Frag} {C : Addr} : PySem.W.kitOne K (.ref C) (.ref C) = some true := by
  unfold PySem.W.kitOne
  rw [if_pos (beq_self_eq_true _)]
theorem meta_V : PySem.W.kitMeta "ValueError" = true := by decide +kernel
theorem kit_V {K : PySem.W.Frag} {C : Addr} (hm : PySem.W.mroIn K C (.type "ValueError") = some true) : PySem.W.kitOne K (.ref C) (.type "ValueError") = some true := by
  unfold PySem.W.kitOne
  rw [if_neg (fun q => by cases beq_iff_eq.mp q)]
  show (if PySem.W.kitMeta "ValueError" = true then PySem.W.subIn K (.ref C) (.type "ValueError") else none) = _
  rw [if_pos meta_V]
  exact hm
end Fn
set_option Elab.async false
set_option linter.all false
set_option maxRecDepth 100000
namespace Fn
open PySem L2 PySem.Spec PyProof.Rows
inductive NamesAre (X : Cx) : List Expr → List Addr → Prop
  | nil : NamesAre X [] []
  | cons {x : Str} {p : Pos} {f : Addr} {es : List Expr} {fs : List Addr} : Gl X x → X.mg x = some (.ref f) → (x == ("__debug__" : Str)) = false → starEach (.Name x p :: es) X.env = (false, eval (.Name x p) X.env) :: starEach es X.env → NamesAre X es fs → NamesAre X (.Name x p :: es) (f :: fs)
inductive DispOk {α : Type} (X : Cx) (Ok : Addr → FuncData → List Str → α → Prop) : List Expr → List α → Prop
  | nil : DispOk X Ok [] []
  | cons {x : Str} {p : Pos} {g : α} {es : List Expr} {gs : List α} : (∃ f fd ps, X.mg x = some (.ref f) ∧ PySem.W.keepIn X.K (.ref f) = true ∧ Binds X.K fd ps [] ∧ Ok f fd ps g) → Gl X x → (x == ("__debug__" : Str)) = false →
      starEach (.Name x p :: es) X.env = (false, eval (.Name x p) X.env) :: starEach es X.env → DispOk X Ok es gs → DispOk X Ok (.Name x p :: es) (g :: gs)
theorem DispOk.names {α : Type} {X : Cx} {Ok : Addr → FuncData → List Str → α → Prop} {es : List Expr} {gs : List α} (h : DispOk X Ok es gs) :
    ∃ fs, NamesAre X es fs ∧ ∀ (j : Nat) g, gs[j]? = some g → ∃ f fd ps, fs[j]? = some f ∧ PySem.W.keepIn X.K (.ref f) = true ∧ Binds X.K fd ps [] ∧ Ok f fd ps g := by
  induction h with
  | nil => exact ⟨[], .nil, fun j g e => by simp at e⟩
  | cons h hg hd hs _ ih =>
    obtain ⟨fs, n, k⟩ := ih
    obtain ⟨f, fd, ps, h1, h2, h3, h4⟩ := h
    refine ⟨f :: fs, .cons hg h1 hd hs n, fun j g e => ?_⟩
    cases j with
    | zero => simp at e; subst e; exact ⟨f, fd, ps, rfl, h2, h3, h4⟩
    | succ j => simpa using k j g (by simpa using e)
theorem NamesAre.len {X : Cx} {es : List Expr} {fs : List Addr} (h : NamesAre X es fs) : fs.length = es.length := by
  induction h with
  | nil => rfl
  | cons _ _ _ _ _ ih => simp [ih]
section
variable {X : Cx} {E : XK} {k : Nat} {names es : List Expr} {e i : Expr} {pl pb pos : Pos} {fi : Env → Option D} {g : Env → Option (List D)}
end
end Fn
set_option Elab.async false
set_option linter.all false
set_option maxRecDepth 100000
namespace Fn
open PySem L2 PySem.Spec PyProof.Rows
open AutoSeq1 (wpAny_loadPart')
theorem tuple_mul1 (l : Addr) (items : Array Value) (n : Nat) (dd : Option Addr) (sl : Array (Option Value)) (u : Tok) :
    Meets (Builtin.«tuple.__mul__» ⟨[.ref l, .int 1 u], []⟩) (fun _ R s => s.heap.get? l = some { cls := .type "tuple", dict := dd, data := .seq items n, slots := sl } ∧ R (.ok (.ret (.ref l))) s) :=
  .of_wp fun prog w A R s h => by
    obtain ⟨hp, g, d, tk, os⟩ := s; obtain ⟨hl, h⟩ := h
    have f1 := AutoSeq1.idx_int; have f2 := AutoSeq1.sub_tuple_tuple
    wp_walk using wpAny_loadPart' hl
    all_goals first
      | exact ⟨_, rfl, h⟩
      | (simp only [Bool.or_true, if_true]; wp_walk using wpAny_loadPart' hl; exact ⟨_, rfl, h⟩)
section
variable {X : Cx}
noncomputable def rMulT1 (K : PySem.W.Frag) : R2 := fun x y H Q => ∃ a xs, x = .ref a ∧ y = .int 1 ∧ SqT K H a xs ∧ Q (.ref a) H
theorem op_mulT1 : OpR X (binaryOp .Mult) (rMulT1 X.K) := by
  intro pins s σ H x y v u Q I rx ry h
  obtain ⟨a, xs, rfl, rfl, hH, q⟩ := h
  cases rx
  obtain ⟨t, rfl⟩ := ry
  obtain ⟨its, r, p1, _⟩ := I.tuple hH
  obtain ⟨⟨cls, dd, data, sl⟩, ho, hc, n, hd⟩ := id p1
  simp only at hc hd
  subst hc hd
  refine wpAny_binaryOp_repeat_ref (T := "tuple") (U := "int") (by decide) ⟨_, ho, rfl⟩ (fun s' => typeIs_int s' 1 t) noFill_tuple_mul F.fills_int_mul F.slot_int_rmul repeat_tuple F.slot_int_index.lookup
    (call_meets F.slot_int_rmul (typeIs_int s 1 t) F.entry_int_rmul (F.args_int_rmul_2 _ _) (int_rmul_tuple 1 t a its.toArray n dd sl)
      ⟨ho, rfl, ⟨_, ho, rfl⟩, call_meets F.slot_tuple_mul ⟨_, ho, rfl⟩ F.entry_tuple_mul (F.args_tuple_mul_2 _ _) (tuple_mul1 a its.toArray n dd sl t) ⟨ho, .ref a, H, I, rfl, q⟩⟩)
noncomputable def rMulL (K : PySem.W.Frag) : R2 := fun x y H Q => ∃ a xs k, x = .ref a ∧ y = .int k ∧ SqL K H a xs ∧ 1 ≤ k ∧ k ≤ 100 ∧ 1 ≤ xs.length ∧ xs.length ≤ 100 ∧ ∀ p, H p = none → Q (.ref p) (upd H p (.lst (List.replicate k.toNat xs).flatten))
theorem op_mulL : OpR X (binaryOp .Mult) (rMulL X.K) := by
  intro pins s σ H x y v u Q I rx ry h
  obtain ⟨a, xs, k, rfl, rfl, hH, h1, h2, h3, h4, q⟩ := h
  cases rx
  obtain ⟨t, rfl⟩ := ry
  obtain ⟨its, r, p1, _⟩ := I.list hH
  have hl := r.length
  obtain ⟨⟨cls, dd, data, sl⟩, n, ho, hc, hdn, hd⟩ := id p1
  simp only at hc hd
  subst hc hd
  have hnew : List.foldl (fun x1 x2 => x1 ++ x2) #[] (List.replicate k.toNat its.toArray) = (List.replicate k.toNat its).flatten.toArray := by
    have := foldl_rep its k.toNat []
    rw [List.nil_append] at this
    exact this
  have hlen : (List.replicate k.toNat its).flatten.length ≤ 10000 := by
    rw [len_rep]
    have : k.toNat ≤ 100 := by omega
    exact Nat.le_trans (Nat.mul_le_mul this (by omega : its.length ≤ 100)) (by decide)
  have hne : its.toArray.isEmpty = false := by
    cases its with
    | nil => exfalso; have hz : xs.length = 0 := hl; omega
    | cons _ _ => rfl
  have hprod : its.toArray.size * k.toNat ≤ 10000 := by
    rw [List.size_toArray]
    exact Nat.le_trans (Nat.mul_le_mul (by omega : its.length ≤ 100) (by omega : k.toNat ≤ 100)) (by decide)
  refine wpAny_binaryOp_repeat_ref (T := "list") (U := "int") (by decide) ⟨_, ho, rfl⟩ (fun s' => typeIs_int s' k t) noFill_list_mul F.fills_int_mul F.slot_int_rmul repeat_list F.slot_int_index.lookup
    (call_meets F.slot_int_rmul (typeIs_int s k t) F.entry_int_rmul (F.args_int_rmul_2 _ _) (lm_int_rmul_list_any k t a its.toArray n dd sl)
      ⟨ho, rfl, ⟨_, ho, rfl⟩, call_meets F.slot_list_mul ⟨_, ho, rfl⟩ F.entry_list_mul (F.args_list_mul_2 _ _) (lm_list_mul_any a its.toArray n dd sl k t ?_ ?_ ?_) ⟨ho, ?_⟩⟩)
  · unfold Builtin.List.listFitsIndex
    simp
    omega
  · intro z
    have : 10000 < (2 ^ 63 - 1) / 8 := by decide
    omega
  · unfold Builtin.List.listTooLong
    rw [sizeLine_eq]
    simp only [decide_eq_true_eq]
    omega
  · rw [hne]
    simp only [Bool.false_eq_true, if_false]
    rw [hnew]
    refine ⟨.ref s.heap.objs.size, _, I.laid (t' := s.toks) (o := .lst (List.replicate k.toNat xs).flatten) (fun b ob q => Heap.get?_push_of_some _ q) (Nat.le_refl _) ?_, rfl, q _ (I.hok.fresh (Nat.le_refl _))⟩
    refine ⟨?_, _, 0, r.rep k.toNat, Heap.get?_push_size _ rfl⟩
    rw [len_rep, hl, ← len_rep, sizeLine_eq]
    omega
noncomputable def mulSD : D → D → Option D
  | .tuple ds, .int n => if n = 1 then some (.tuple ds) else if 2 ≤ n ∧ n ≤ 100 ∧ 1 ≤ ds.length ∧ ds.length ≤ 100 then some (.tuple (List.replicate n.toNat ds).flatten) else none
  | .list ds, .int n => if 1 ≤ n ∧ n ≤ 100 ∧ 1 ≤ ds.length ∧ ds.length ≤ 100 then some (.list (List.replicate n.toNat ds).flatten) else none
  | _, _ => none
noncomputable def rMulS (K : PySem.W.Frag) : R2 := fun x y H Q => rMulT1 K x y H Q ∨ rMulT K x y H Q ∨ rMulL K x y H Q
theorem op_mulS : OpR X (binaryOp .Mult) (rMulS X.K) := by
  intro pins s σ H x y v u Q I rx ry h
  rcases h with h | h | h
  · exact op_mulT1 pins s σ H x y v u Q I rx ry h
  · exact op_mulT pins s σ H x y v u Q I rx ry h
  · exact op_mulL pins s σ H x y v u Q I rx ry h
theorem opD_mulS {K : PySem.W.Frag} : OpD K (rMulS K) mulSD := fun O W H x y dx dy d Q lv rx ry e k => by
  cases dx with
  | tuple ds =>
    cases dy with
    | int n =>
      have e : (if n = 1 then some (.tuple ds) else if 2 ≤ n ∧ n ≤ 100 ∧ 1 ≤ ds.length ∧ ds.length ≤ 100 then some (PyData.tuple (List.replicate n.toNat ds).flatten) else none) = some d := e
      by_cases z1 : n = 1
      · rw [if_pos z1] at e
        cases e
        subst z1
        rcases rx with rx | ⟨ds', _, _, e1, _⟩
        · obtain ⟨p, xs, rfl, q1, r1⟩ := id rx
          exact .inl ⟨p, xs, rfl, ry.int, Same.sqT (hid_le _ _) q1, k _ H (.refl H) rx⟩
        · cases e1
      · rw [if_neg z1] at e
        by_cases z : 2 ≤ n ∧ n ≤ 100 ∧ 1 ≤ ds.length ∧ ds.length ≤ 100
        · rw [if_pos z] at e
          cases e
          obtain ⟨p, xs, rfl, q1, r1⟩ := rx.tup
          have l1 := r1.length
          refine .inr (.inl ⟨p, xs, n, rfl, ry.int, q1, z.1, z.2.1, by omega, by omega, fun p3 np => ?_⟩)
          obtain ⟨s2, r3⟩ := new_tup np lv (r1.rep n.toNat)
          exact k _ _ s2 r3
        · rw [if_neg z] at e; cases e
    | _ => cases e
  | list ds =>
    cases dy with
    | int n =>
      have e : (if 1 ≤ n ∧ n ≤ 100 ∧ 1 ≤ ds.length ∧ ds.length ≤ 100 then some (PyData.list (List.replicate n.toNat ds).flatten) else none) = some d := e
      by_cases z : 1 ≤ n ∧ n ≤ 100 ∧ 1 ≤ ds.length ∧ ds.length ≤ 100
      · rw [if_pos z] at e
        cases e
        obtain ⟨p, xs, rfl, q1, r1⟩ := rx.lst
        have l1 := r1.length
        refine .inr (.inr ⟨p, xs, n, rfl, ry.int, q1, z.1, z.2.1, by omega, by omega, fun p3 np => ?_⟩)
        obtain ⟨s2, r3⟩ := new_lst np lv (r1.rep n.toNat)
        exact k _ _ s2 r3
      · rw [if_neg z] at e; cases e
    | _ => cases e
  | none => cases dy <;> cases e
  | bool b => cases dy <;> cases e
  | str x => cases dy <;> cases e
  | dict x => cases dy <;> cases e
  | int x => cases dy <;> cases e
theorem se_mulS {a b : Expr} {f f' : Env → Option D} {pos : Pos} (ha : SB X a f) (hb : SB X b f') : SE X (.BinOp a .Mult b pos) (e2 mulSD f f') := se_op op_mulS opD_mulS ha hb
end
end Fn
set_option Elab.async false
set_option linter.all false
set_option maxRecDepth 100000
namespace Fn
open PySem L2 PySem.Spec PyProof.Rows
noncomputable def minI (i j : Int) : Int := if j < i then j else i
noncomputable def min1 : List D → Option D
  | [.int i, .int j] => some (.int (minI i j))
  | [.tuple [.int i, .int j]] => some (.int (minI i j))
  | _ => none
noncomputable def rMin (K : PySem.W.Frag) : List V → Hp → VK → Prop := fun xs H Q => (∃ i j, xs = [.int i, .int j] ∧ Q (.int (minI i j)) H) ∨ ∃ a i j, xs = [.ref a] ∧ SqT K H a [.int i, .int j] ∧ Q (.int (minI i j)) H
section
variable {X : Cx}
theorem call_minT (hc : X.calm = true) : CallR X (.builtin "min") (rMin X.K) := by
  intro pins s σ H xs us Q I r h
  rcases h with ⟨i, j, rfl, q⟩ | ⟨a, i, j, rfl, hq, q⟩
  · exact call_min2 hc pins s σ H _ us Q I r ⟨i, j, rfl, q⟩
  · obtain ⟨u, rfl, rx⟩ := vals1 r
    cases rx
    obtain ⟨its, rv, ht, hz⟩ := I.tuple hq
    obtain ⟨u, w', e, ⟨t, rfl⟩, ⟨t', rfl⟩⟩ := vals2 rv
    have alt : a < s.heap.objs.size := by
      obtain ⟨o, e1, _⟩ := ht
      exact Heap.lt_size e1
    refine call_min_walk (wpAny_pyIter_tuple ht ?_)
    subst e
    have WW := Walks.tuple (prog := X.prog) (w := X.w) (A := X.A.in1) (I.ok.hd hc) s.heap.objs.size a (Nat.ne_of_lt alt) #[Value.int i t, Value.int j t']
    refine ⟨s.heap.objs.size, _, _, _, _, _, _, rfl, WW, ⟨⟨_, Heap.get?_push_size _ rfl, rfl, rfl⟩, ?_⟩, ?_, ?_, CmpOf.ints_lt (fun k => if k = 0 then i else j) ?_, ?_⟩
    · obtain ⟨o, e1, e2⟩ := ht
      exact ⟨o, Heap.get?_push_of_some _ e1, e2⟩
    · intro b hb
      have : b = s.heap.objs.size ∨ b = a := by simpa using hb
      rw [Heap.size_push]
      rcases this with rfl | rfl
      · exact Nat.lt_succ_self _
      · exact Nat.lt_succ_of_lt alt
    · simp
    · intro k v hk
      match k, hk with
      | 0, hk => exact ⟨t, by simpa using hk.symm⟩
      | 1, hk => exact ⟨t', by simpa using hk.symm⟩
      | k + 2, hk => simp at hk
    · intro v h' tk hv hk
      have I' : Inv X pins σ H { s with heap := h', toks := tk } := I.kept (t' := tk) fun b o e => hk b o (by
        intro hb
        have : b = s.heap.objs.size := by simpa using hb
        exact absurd (Heap.lt_size e) (by rw [this]; exact Nat.lt_irrefl _)) (Heap.get?_push_of_some _ e)
      refine ⟨.int (minI i j), H, I', ?_, q⟩
      have hv' : ([Value.int i t, Value.int j t'].toArray)[argBest (fun a b => decide ((if a = 0 then i else j) < (if b = 0 then i else j))) 1]? = some v := hv
      have : argBest (fun a b => decide ((if a = 0 then i else j) < (if b = 0 then i else j))) 1 = if j < i then 1 else 0 := by
        simp [argBest]
      rw [this] at hv'
      unfold minI
      split at hv'
      · rename_i hlt; rw [if_pos hlt]; exact ⟨t', by simpa using hv'.symm⟩
      · rename_i hlt; rw [if_neg hlt]; exact ⟨t, by simpa using hv'.symm⟩
theorem callD_min {K : PySem.W.Frag} : CallD K (rMin K) min1 := fun O W H vs ds d Q lv r e k => by
  match ds, e with
  | [.int i, .int j], e =>
    cases e
    obtain ⟨v, t, rfl, r1, v2, t2, rfl, r2, rfl⟩ := r
    exact .inl ⟨i, j, by rw [r1.int, r2.int], k _ H (.refl H) rfl⟩
  | [.tuple [.int i, .int j]], e =>
    cases e
    obtain ⟨v, t, rfl, r1, rfl⟩ := r
    obtain ⟨p, xs, rfl, q1, r1⟩ := r1.tup
    obtain ⟨v1, t1, rfl, s1, v2, t2, rfl, s2, rfl⟩ := r1
    cases (show v1 = V.int i from s1)
    cases (show v2 = V.int j from s2)
    exact .inr ⟨p, i, j, rfl, q1, k _ H (.refl H) rfl⟩
theorem bo_min : bootBuiltins "min" = some (.builtin "min") := by decide +kernel
theorem se_min {e : Expr} {es : List Expr} {g : Env → Option (List D)} {p pos : Pos} (hm : X.mg "min" = none) (hc : X.calm = true) (ha : SAB X (e :: es) g) (hg : Gl X "min" := by rfl) (he : starEach (e :: es) X.env = (false, eval e X.env) :: starEach es X.env := by rfl) (hpl : (backTo pos (starEach es X.env)).any (·.1) = false := by rfl) :
    SE X (.Call (.Name "min" p) (e :: es) [] pos) (eCall min1 g) := se_callB (call_minT hc) callD_min hg hm bo_min ha (by decide) (by decide) he hpl
end
end Fn
set_option Elab.async false
set_option linter.all false
set_option maxRecDepth 100000
namespace Fn
open PySem L2 PySem.Spec PyProof.Rows
noncomputable def kI : Value → Int
  | .int k _ => k
  | _ => 0
noncomputable def keysT (T : List Cell) : List Int := (esT T).map fun e => kI e.2
structure IntSet (w : World) (h : Heap) (a : Addr) (T : List Cell) : Prop where
  obj : ∃ o ep t, h.get? a = some o ∧ o.ExactSet ∧ o.data = .set (esT T).toArray ep t ∧ TabOf t T ∧ t.led = !(w.params.followText "set-order") ∧ t.plain = true
  keys : ∀ e ∈ esT T, ∃ k t, e = (hashInt k, .int k t)
  small : (esT T).length ≤ 4
  nodup : (keysT T).Nodup
theorem free_cellT (T : List Cell) (hl : T.length = 8) (hs : (esT T).length ≤ 4) : ∃ j, j < 8 ∧ cellAt T j = none := by
  by_cases h : ∃ j, j < 8 ∧ cellAt T j = none
  · exact h
  · exfalso
    have all : ∀ c ∈ T, c.isSome = true := by
      intro c hc
      obtain ⟨j, hj, e⟩ := List.mem_iff_getElem.mp hc
      cases c with
      | some _ => rfl
      | none =>
        refine absurd ⟨j, by omega, ?_⟩ h
        unfold cellAt
        rw [List.getElem?_eq_getElem hj, e]; rfl
    have : (esT T).length = T.length := by
      unfold esT
      clear hs h hl
      induction T with
      | nil => rfl
      | cons c T ih =>
        have hc := all c List.mem_cons_self
        cases c with
        | none => cases hc
        | some e =>
          simp only [List.filterMap_cons, id, List.length_cons]
          rw [ih fun c hc => all c (List.mem_cons_of_mem _ hc)]
    omega
theorem fitsT {t : SetTable} {T : List Cell} (X : TabOf t T) (hs : (esT T).length ≤ 4) : t.fits (esT T).toArray.size = true := by
  unfold SetTable.fits SetTable.fill
  rw [X.size, X.dummies, X.mask, List.size_toArray]
  simp
  omega
theorem free_slot {t : SetTable} {T : List Cell} (X : TabOf t T) (h : Int) (e0 : Nat) (h20 : e0 ≤ 20) (hn : cellAt T (way h e0).1 = none) (hb : ∀ l, l < e0 → ∃ e, cellAt T (way h l).1 = some e) : t.freeSlot h = some ((way h e0).1, false) := by
  have cell' : ∀ j, cellAt (T.map (Option.map fun e => (h + 1, e.2))) j = (cellAt T j).map fun e => (h + 1, e.2) := by
    intro j
    unfold cellAt
    rw [List.getElem?_map]
    cases T[j]? <;> rfl
  have bits' : bitsT (T.map (Option.map fun e => (h + 1, e.2))) = bitsT T := by
    unfold bitsT
    rw [List.map_map]
    congr 1
    funext c
    cases c <;> rfl
  have X' : TabOf t (T.map (Option.map fun e => (h + 1, e.2))) := ⟨by rw [List.length_map]; exact X.len, X.mask, by rw [bits']; exact X.place, X.dummies⟩
  obtain ⟨m, m1, m2, m3, m4⟩ := X'.go (fun _ => h + 1) (fun j e hj he => by
    rw [cell' j] at he
    cases c : cellAt T j with
    | none => rw [c] at he; cases he
    | some e' => rw [c] at he; cases he; rfl) h e0 (by rw [cell' _, hn]; rfl) (10 * SetTable.turns t.mask) 0 (Nat.zero_le _) (by rw [X.mask]; unfold SetTable.turns; omega)
  have em : m = e0 := by
    by_cases z : m = e0
    · exact z
    · exfalso
      obtain ⟨e, he⟩ := hb m (by omega)
      rcases m4 with ⟨c, _⟩ | ⟨v, c, _⟩
      · rw [cell' _, he] at c; cases c
      · rw [cell' _, he] at c
        have := Option.some.inj c
        have := congrArg Prod.fst this
        simp at this
        omega
  subst em
  rcases m4 with ⟨_, c⟩ | ⟨v, c, _⟩
  · unfold SetTable.freeSlot
    rw [X.start]
    unfold SetTable.probe
    rw [c]; rfl
  · rw [cell' _, hn] at c; cases c
theorem lay_new {t : SetTable} {T : List Cell} (X : TabOf t T) (h : Int) (x : Value) (hs : (esT T).length < 4) : ∃ j, j < 8 ∧ cellAt T j = none ∧ layNew t (esT T).toArray h x = ((esT (T.set j (some (h, x)))).toArray, (t.put j).1, false, false) ∧ TabOf (t.put j).1 (T.set j (some (h, x))) ∧ (t.put j).1.led = t.led ∧ (t.put j).1.plain = t.plain ∧ (esT (T.set j (some (h, x)))).length = (esT T).length + 1 ∧ List.Perm (esT (T.set j (some (h, x)))) ((h, x) :: esT T) := by
  obtain ⟨e0, q1, q2, q3⟩ := first_free T h (free_cellT T X.len (by omega))
  have fs := free_slot X h e0 q1 q2 q3
  obtain ⟨X', i1, i2, i3, i4⟩ := X.put (way_lt h e0) q2 (h, x)
  have c0 := cell_none X.len (way_lt h e0) q2
  have pm : List.Perm (esT (T.set (way h e0).1 (some (h, x)))) ((h, x) :: esT T) := by
    unfold esT
    clear fs X' i1 i2 i3 i4 q1 q2 q3 hs X
    generalize (way h e0).1 = j at c0 ⊢
    induction T generalizing j with
    | nil => simp at c0
    | cons c T ih =>
      cases j with
      | zero =>
        have : c = none := by simpa using c0
        subst this
        simp
      | succ j =>
        have := ih j (by simpa using c0)
        cases c with
        | none => simpa using this
        | some e =>
          simp only [List.set_cons_succ, List.filterMap_cons, id]
          exact (List.Perm.cons e this).trans (List.Perm.swap _ _ _)
  have hl : (esT (T.set (way h e0).1 (some (h, x)))).length = (esT T).length + 1 := by rw [pm.length_eq]; rfl
  have hf := fitsT X' (by rw [hl]; omega)
  refine ⟨(way h e0).1, way_lt h e0, q2, ?_, X', i2, i3, hl, pm⟩
  unfold layNew
  rw [fs]
  dsimp only
  rw [i1]
  unfold SetTable.orStandIn
  rw [if_pos hf, hf]; rfl
section
variable {prog : Program} {w : World} {A : Around} {E : Value → Shared → Prop} {s : Shared}
theorem wp_addInt {a : Addr} {T : List Cell} {k : Int} {tok : Tok} {Q : Bool → Shared → Prop} (S : IntSet w s.heap a T) (hroom : k ∉ keysT T → (esT T).length < 4)
    (h : ∀ r h' T', (∀ b, b ≠ a → h'.get? b = s.heap.get? b) → h'.objs.size = s.heap.objs.size → IntSet w h' a T' → (∀ x, x ∈ keysT T' ↔ x = k ∨ x ∈ keysT T) → Q r { s with heap := h' }) :
    wpAny (model prog w) A (setAddHashed a (.int k tok) (hashInt k)) Q E s := by
  have S0 := S
  obtain ⟨⟨o, ep, t, ho, hex, hd, X, hled, hpl⟩, keys, small, nodup⟩ := S
  have hf := fitsT X small
  have hsc : byScan (.int k tok) (esT T).toArray = true := by
    unfold byScan
    rw [Bool.and_eq_true, Bool.and_eq_true, decide_eq_true_eq]
    refine ⟨⟨rfl, Nat.lt_of_le_of_lt (by rw [List.size_toArray]; exact small) (show 4 < scanBound by decide)⟩, ?_⟩
    rw [← Array.all_toList, List.all_eq_true]
    intro e he
    obtain ⟨k', t', rfl⟩ := keys e he
    rfl
  have hel : ElemsOf (intKind prog w) (esT T).toArray.toList := by
    intro e he
    obtain ⟨k', t', rfl⟩ := keys e he
    exact ⟨⟨k', by simp [intKind, Value.isInt], rfl⟩, rfl⟩
  have hsame : s = { s with heap := s.heap } := by cases s; rfl
  unfold setAddHashed setAddHashedIn
  refine wpAny_holding (wpAny_bind (wpAny_setState_of ho hd hf ?_))
  dsimp only
  rw [if_pos hsc]
  refine wpAny_bind ?_
  unfold setAddByScan
  refine wpAny_bind (wpAny_rule ?_)
  refine wpAny_bind (wpAny_setScan_of (knd := intKind prog w) (k := k) (by simp [intKind, Value.isInt]) ho hd hf hel ?_)
  cases hfi : List.findIdx? (fun e => (intKind prog w).is k e.2) (esT T).toArray.toList with
  | some j =>
    dsimp only
    have hin : k ∈ keysT T := by
      obtain ⟨e, he, hk⟩ : ∃ e ∈ esT T, (intKind prog w).is k e.2 = true := by
        have := List.findIdx?_isSome (xs := (esT T).toArray.toList) (p := fun e => (intKind prog w).is k e.2)
        rw [hfi] at this
        have := List.any_eq_true.mp this.symm
        obtain ⟨e, h1, h2⟩ := this
        exact ⟨e, h1, h2⟩
      obtain ⟨k', t', rfl⟩ := keys e he
      have : k' = k := by simpa [intKind, Value.isInt] using hk
      subst this
      exact List.mem_map.mpr ⟨_, he, rfl⟩
    refine wpAny_pure ?_
    refine wpAny_pure ?_
    rw [hsame]
    exact h _ _ T (fun _ _ => rfl) rfl S0 (fun x => ⟨.inr, fun z => z.elim (fun e => e ▸ hin) id⟩)
  | none =>
    dsimp only
    have hnot : k ∉ keysT T := by
      intro hin
      obtain ⟨e, he, hk⟩ := List.mem_map.mp hin
      have := List.findIdx?_eq_none_iff.mp hfi e he
      obtain ⟨k', t', rfl⟩ := keys e he
      have e2 : k' = k := hk
      subst e2
      simp [intKind, Value.isInt] at this
    have hlt4 := hroom hnot
    obtain ⟨j, hj, hc, el, X', i2, i3, hlen, hperm⟩ := lay_new X (hashInt k) (.int k tok) hlt4
    rw [el]
    dsimp only
    refine wpAny_bind (wpAny_of_eq (a := ()) rfl ?_)
    have hpl' : (t.put j).1.plain = true := by rw [i3]; exact hpl
    rw [if_pos hpl']
    refine wpAny_bind (wpAny_of_eq (hash_int_value (prog := prog) (w := w) 8 (k := k) (by simp [intKind, Value.isInt])) ?_)
    simp only [if_true]
    have hz : (esT (T.set j (some (hashInt k, Value.int k tok)))).toArray.size ≤ 4 := by rw [List.size_toArray, hlen]; omega
    refine wpAny_bind (wpAny_storeSet_of ho hd ?_ (by have := sizeLine_eq; omega))
    have hnf : (t.put j).1.tooFull = false := by
      unfold SetTable.tooFull SetTable.fill
      rw [X'.size, X'.dummies, X'.mask]
      rw [List.size_toArray] at hz
      simp
      omega
    rw [hnf]
    simp only [Bool.and_false, Bool.false_eq_true, if_false]
    refine wpAny_pure ?_
    refine wpAny_pure ?_
    have hsb := Heap.SameBut.update s.heap a (Obj.putSet (esT (T.set j (some (hashInt k, Value.int k tok)))).toArray (t.put j).1)
    have hg : (s.heap.update a (Obj.putSet (esT (T.set j (some (hashInt k, Value.int k tok)))).toArray (t.put j).1)).get? a = some { o with data := .set (esT (T.set j (some (hashInt k, Value.int k tok)))).toArray (ep + 1) (t.put j).1 } := by
      have := Heap.get?_update_self (Obj.putSet (esT (T.set j (some (hashInt k, Value.int k tok)))).toArray (t.put j).1) ho (by rw [putSet_of _ _ hd]; rfl)
      rw [putSet_of _ _ hd] at this; exact this
    have pm : List.Perm (keysT (T.set j (some (hashInt k, Value.int k tok)))) (k :: keysT T) := hperm.map (fun (e : Int × Value) => kI e.2)
    refine h _ _ (T.set j (some (hashInt k, Value.int k tok))) hsb.2 hsb.1 ⟨⟨_, _, _, hg, hex, rfl, X', by rw [i2]; exact hled, hpl'⟩, fun e he => ?_, by rw [List.size_toArray] at hz; exact hz, ?_⟩ fun x => by rw [pm.mem_iff, List.mem_cons]
    · rcases List.mem_cons.mp (hperm.mem_iff.mp he) with rfl | he
      · exact ⟨k, tok, rfl⟩
      · exact keys e he
    · rw [pm.nodup_iff]; exact List.nodup_cons.mpr ⟨hnot, nodup⟩
end
end Fn
set_option Elab.async false
set_option linter.all false
set_option maxRecDepth 100000
namespace Fn
open PySem L2 PySem.Spec PyProof.Rows PySem.W PySem.Calls
section
variable {prog : Program} {w : World} {A : Around} {R : Result → Shared → Prop} {I : Addr} {fp wr : List Addr} {G : Array GenState → Array GenState → Prop} {n : Nat} {P : Nat → Value → Prop} {St : Nat → Shared → Prop}
theorem IntSet.moved {h h' : Heap} {a : Addr} {T : List Cell} (S : IntSet w h a T) (ha : ∀ o, h.get? a = some o → h'.get? a = some o) : IntSet w h' a T := by
  obtain ⟨⟨o, ep, t, ho, rest⟩, keys, small, nodup⟩ := S
  exact ⟨⟨o, ep, t, ha o ho, rest⟩, keys, small, nodup⟩
theorem loop_int (W : WalksS prog w A.in1 I fp wr G n P St) (S : Addr) (hSf : S ∉ fp)
    (key : Nat → Int) (hval : ∀ i v, P i v → i < n → ∃ t, v = .int (key i) t)
    (hcap : ∀ l : List Int, l.Nodup → (∀ x ∈ l, ∃ i, i < n ∧ key i = x) → l.length ≤ 4) :
    ∀ (k i : Nat) (s : Shared) (T : List Cell), n - i = k → i ≤ n → St i s →
      IntSet w s.heap S T → (∀ x, x ∈ keysT T ↔ ∃ j, j < i ∧ key j = x) →
      (∀ s' T', Moved (S :: wr) G s s' → IntSet w s'.heap S T' → (∀ x, x ∈ keysT T' ↔ ∃ j, j < n ∧ key j = x) → R (.ok (.ret .none)) s') →
      codeAny (model prog w) A (.builtin "set.update.loop" ⟨[.ref S, .ref I], []⟩) R s := by
  have hSw : S ∉ wr := fun h => hSf (W.sub _ h)
  have hsub : ∀ b ∈ wr, b ∈ S :: wr := fun b hb => List.mem_cons_of_mem _ hb
  intro k
  induction k with
  | zero =>
    intro i s T hk hi hst hS hmem hR
    have hin : i = n := by omega
    subst hin
    refine codeAny_builtin F.entry_set_update_loop ?_
    rw [Around.under_plainId F.plain_set_update_loop _]
    show wpAny _ A.in1 (pyNext (.ref I) >>= _) _ _ s
    refine wpAny_bind (W.done s _ _ hst fun s' hm => ?_)
    show wpAny _ A.in1 (ret Value.none) _ _ s'
    exact wpAny_pure (hR s' T (hm.mono hsub) (hS.moved fun o e => hm.heap S o hSw e) hmem)
  | succ k ih =>
    intro i s T hk hi hst hS hmem hR
    have hlt : i < n := by omega
    refine codeAny_builtin F.entry_set_update_loop ?_
    rw [Around.under_plainId F.plain_set_update_loop _]
    show wpAny _ A.in1 (pyNext (.ref I) >>= _) _ _ s
    refine wpAny_bind (W.item i s _ _ hlt hst fun v s' hP hst' hm => ?_)
    obtain ⟨t, rfl⟩ := hval i v hP hlt
    have hS' : IntSet w s'.heap S T := hS.moved fun o e => hm.heap S o hSw e
    show wpAny _ A.in1 (holding [Value.int (key i) t] (setAdd S (.int (key i) t)) >>= _) _ _ s'
    refine wpAny_bind (wpAny_holding ?_)
    unfold setAdd
    refine wpAny_holding ?_
    refine wpAny_bind (wpAny_pyHash_int ?_)
    have hroom : key i ∉ keysT T → (esT T).length < 4 := by
      intro hno
      have := hcap (key i :: keysT T) (List.nodup_cons.mpr ⟨hno, hS.nodup⟩) (fun x hx => by
        rcases List.mem_cons.mp hx with rfl | hx
        · exact ⟨i, hlt, rfl⟩
        · obtain ⟨j, j1, j2⟩ := (hmem x).mp hx
          exact ⟨j, by omega, j2⟩)
      simp only [List.length_cons, keysT, List.length_map] at this
      omega
    refine wp_addInt (s := { s' with toks := s'.toks + 1 }) hS' hroom fun r h' T' hsb hsz hT hx => ?_
    refine wpAny_pure ⟨plainId_quiet F.plain_set_update_loop _, ih (i + 1) _ T' (by omega) hlt (W.frame _ s' _ _ hst' (Nat.le_add_right _ _) fun b hb o e => ?_) hT ?_ fun s'' T'' hm'' hS'' hm3 => ?_⟩
    · rw [hsb b (fun h : b = S => hSf (by rw [← h]; exact hb))]; exact e
    · intro x
      rw [hx x, hmem x]
      constructor
      · rintro (rfl | ⟨j, j1, j2⟩)
        · exact ⟨i, by omega, rfl⟩
        · exact ⟨j, by omega, j2⟩
      · rintro ⟨j, j1, j2⟩
        by_cases z : j = i
        · subst z; exact .inl j2.symm
        · exact .inr ⟨j, by omega, j2⟩
    · refine hR s'' T'' (Moved.trans W.gtrans ((hm.mono hsub).then_heap (Nat.le_add_right _ _) fun b o hb e => ?_) hm'') hS'' hm3
      rw [hsb b (fun h : b = S => hb (by rw [h]; exact List.mem_cons_self))]; exact e
end
section
variable {prog : Program} {w : World} {A : Around} {E : Value → Shared → Prop} {s : Shared}
noncomputable def noT : List Cell := [none, none, none, none, none, none, none, none]
theorem fresh_int {h : Heap} {a : Addr} (hg : h.get? a = some (bareSet w)) : IntSet w h a noT :=
  ⟨⟨_, 0, _, hg, ⟨rfl, rfl, rfl⟩, rfl, ⟨rfl, rfl, rfl, rfl⟩, rfl, rfl⟩, (fun p hp => by cases hp), by decide, List.nodup_nil⟩
theorem ints_at {vs : List Value} {ns : List Int} (h : IntsAre vs ns) : vs.length = ns.length ∧ ∀ (i : Nat) (v : Value), vs[i]? = some v → ∃ t, v = Value.int (ns.getD i 0) t := by
  induction h with
  | nil => exact ⟨rfl, fun i v h => by simp at h⟩
  | cons n t r ih =>
    obtain ⟨h1, h2⟩ := ih
    refine ⟨by simp [h1], fun i v h => ?_⟩
    cases i with
    | zero => exact ⟨t, by simpa using h.symm⟩
    | succ i => exact h2 i v (by simpa using h)
theorem nthI_mem {ks : List Int} {x : Int} : (∃ j, j < ks.length ∧ ks.getD j 0 = x) ↔ x ∈ ks := by
  constructor
  · rintro ⟨j, hj, rfl⟩
    rw [List.getD_eq_getElem?_getD, List.getElem?_eq_getElem hj]
    exact List.getElem_mem hj
  · intro hx
    obtain ⟨j, hj, e⟩ := List.mem_iff_getElem.mp hx
    exact ⟨j, hj, by rw [List.getD_eq_getElem?_getD, List.getElem?_eq_getElem hj]; exact e⟩
set_option maxHeartbeats 3200000 in
theorem call_set_ints {l : Addr} {vs : Array Value} {ks : List Int} {Q : Value → Shared → Prop}
    (hh : A.handled = none) (hl : s.heap.IsList l vs) (hK : IntsAre vs.toList ks)
    (hcap : ∀ z : List Int, z.Nodup → (∀ x ∈ z, x ∈ ks) → z.length ≤ 4)
    (h : ∀ h' tk T, IntSet w h' s.heap.objs.size T → (∀ x, x ∈ keysT T ↔ x ∈ ks) → (∀ b o, s.heap.get? b = some o → h'.get? b = some o) → s.toks ≤ tk → Q (.ref s.heap.objs.size) { s with heap := h', toks := tk }) :
    wpAny (model prog w) A (call (.type "set") [.ref l]) Q E s := by
  have C := F.called_set
  obtain ⟨c, tl, m0⟩ := C.mro
  have m1 := C.made
  have m2 := C.sub
  have m3 := C.notType
  have m4 := C.canCreate
  have m5 := F.typeCall_set_1 (.ref l)
  refine wpAny_call (codeAny_of_tree ?_)
  show wpAny _ _ (callAny (.type "set") _) _ _ _
  refine wpAny_pure ⟨Code.quiet_builtin _ (by decide +kernel), codeAny_builtin F.entry_type_call ?_⟩
  rw [Around.under_plain (weight_type_call_type "set" [.ref l] []) rfl]
  repeat (any_goals (first | assumption | wp_step))
  refine codeAny_mono (new_set_led (w := w) (.ref l) (E := E) (Q₁ := fun v s1 => v = .ref s.heap.objs.size ∧ s1 = { s with heap := s.heap.push (bareSet w) }) ⟨rfl, rfl⟩) fun r s1 hr => ?_
  cases r with
  | error e => exact hr
  | ok fl =>
    cases fl with
    | ret v =>
      obtain ⟨rfl, rfl⟩ := hr
      have g0 : (s.heap.push (bareSet w)).get? s.heap.objs.size = some (bareSet w) := Heap.get?_push_size _ rfl
      have ty : Shared.TypeIs { s with heap := s.heap.push (bareSet w) } (.ref s.heap.objs.size) "set" := ⟨_, g0, rfl⟩
      have i0 := C.init.lookup
      have i1 := C.init.bind (.ref s.heap.objs.size)
      repeat (any_goals (first | assumption | wp_step))
      refine codeAny_mono (codeAny_call_builtin (R := wants (fun r s2 => r = .none ∧ ∃ h' tk T, s2 = { s with heap := h', toks := tk } ∧ IntSet w h' s.heap.objs.size T ∧ (∀ x, x ∈ keysT T ↔ x ∈ ks) ∧ (∀ b o, s.heap.get? b = some o → h'.get? b = some o) ∧ s.toks ≤ tk) E) C.init.plain F.entry_set_init (check_set_init_1 ty ?_)) fun r2 s2 hr2 => ?_
      · have hlt : l < s.heap.objs.size := let ⟨_, q, _⟩ := hl; Heap.lt_size q
        have hl1 : (s.heap.push (bareSet w)).IsList l vs := hl.push _
        obtain ⟨ol, hol, hcl, nl, hdl⟩ := id hl1
        obtain ⟨ocls, odict, odata, oslots⟩ := ol
        simp only at hcl hdl
        subst hcl hdl
        have n1 := F.sub_list_set
        have n2 := F.sub_list_frozenset
        have n3 : (Value.type "list" == Value.type "dict") = false := by decide
        unfold Builtin.«set.__init__» noKeywords Builtin.Frozenset.updateFrom
        generalize hPI : pyIter = PI
        wp_walk
        subst hPI
        refine wpAny_pyIter_list hl1 ?_
        refine wpAny_bind (wpAny_runValue ?_)
        have eI : (s.heap.push (bareSet w)).objs.size = s.heap.objs.size + 1 := Heap.size_push _ _
        have out : ∀ b, b < s.heap.objs.size → b ∉ [s.heap.objs.size, (s.heap.push (bareSet w)).objs.size] := by
          intro b hb hm
          rw [eI] at hm
          simp only [List.mem_cons, List.mem_singleton, List.not_mem_nil, or_false] at hm
          omega
        obtain ⟨hK1, hK2⟩ := ints_at hK
        have hK1' : vs.size = ks.length := by simpa using hK1
        refine loop_int ((Walks.list (by simp [hh]) _ l (by rw [eI]; exact Nat.ne_of_lt (Nat.lt_succ_of_lt hlt)) vs).toS) s.heap.objs.size ?_ (fun i => ks.getD i 0) ?_ ?_ (vs.size - 0) 0 _ noT rfl (Nat.zero_le _)
          ⟨⟨_, Heap.get?_push_size _ rfl, rfl, rfl⟩, hl1.push _⟩ (fresh_int (Heap.get?_push_of_some _ g0))
          (fun x => ⟨fun z => (by cases z), fun ⟨j, hj, _⟩ => absurd hj (Nat.not_lt_zero _)⟩) ?_
        · rw [eI]
          simp only [List.mem_cons, List.mem_singleton, List.not_mem_nil, or_false, not_or]
          exact ⟨Nat.ne_of_lt (Nat.lt_succ_self _), Nat.ne_of_gt hlt⟩
        · intro i v hv _
          exact hK2 i v (by simpa using hv)
        · intro z hz hm
          exact hcap z hz fun x hx => nthI_mem.mp (let ⟨j, a, b⟩ := hm x hx; ⟨j, by rw [← hK1']; exact a, b⟩)
        · intro s' T' hm hS' hx
          obtain ⟨h', g', d', tk', os'⟩ := s'
          have eg : g' = s.gens := hm.gens
          have ed : d' = s.drawn := hm.drawn
          have eo : os' = s.os := hm.os
          subst eg ed eo
          show wpAny _ _ _ _ _ _
          refine wpAny_pure ?_
          show wpAny _ _ (ret Value.none) _ _ _
          refine wpAny_pure ⟨rfl, h', tk', T', rfl, hS', fun x => ?_, fun b o e => ?_, hm.toks⟩
          · rw [hx x, hK1']; exact nthI_mem
          · exact hm.heap b o (out b (Heap.lt_size e)) (Heap.get?_push_of_some _ (Heap.get?_push_of_some _ e))
      · cases r2 with
        | error e => exact hr2
        | ok fl2 =>
          cases fl2 with
          | ret r =>
            obtain ⟨rfl, h', tk, T, rfl, k1, k2, k3, k4⟩ := hr2
            repeat (any_goals (first | assumption | wp_step))
            exact h _ _ _ k1 k2 k3 k4
          | _ => exact hr2.elim
    | _ => exact hr.elim
end
end Fn
set_option Elab.async false
set_option linter.all false
set_option maxRecDepth 100000
namespace Fn
open PySem L2 PySem.Spec PyProof.Rows PySem.W PySem.Calls
section
variable {prog : Program} {w : World} {A : Around} {E : Value → Shared → Prop} {s : Shared}
theorem iter_int {a : Addr} {T : List Cell} {Q : Value → Shared → Prop} (S : IntSet w s.heap a T)
    (h : ∀ o ep t, s.heap.get? a = some o → o.data = .set (esT T).toArray ep t → TabOf t T → t.led = !(w.params.followText "set-order") → t.plain = true → Q (.ref s.heap.objs.size) { s with heap := s.heap.push { cls := .type "set_iterator", dict := none, data := .fields #[.int 0 0, .int 0 0, .ref a, .int (esT T).length 0, .int ep 0], slots := #[] } }) :
    wpAny (model prog w) A (pyIter (.ref a)) Q E s := by
  obtain ⟨⟨o, ep, t, ho, hex, hd, X, hled, hpl⟩, keys, small, nodup⟩ := S
  have hf := fitsT X small
  have ty : s.TypeIs (.ref a) "set" := ⟨o, ho, hex.1⟩
  refine wpAny_pyIter_slot ty F.slot_set_iter (wpAny_call_entry F.slot_set_iter ty iter_entry ?_ (F.args_set_iter_1 _))
  unfold Builtin.«frozenset.__iter__»
  refine wpAny_bind (m := Builtin.Frozenset.slot0 "__iter__" ⟨[.ref a], []⟩) (wpAny_of_eq (a := a) rfl ?_)
  unfold Builtin.Frozenset.sizeOf
  refine wpAny_bind (wpAny_bind (wpAny_setEntries_of ho hd hf (wpAny_pure ?_)))
  have hdr : wpAny (model prog w) A.in1 (setDrawn a) (fun r s' => r = false ∧ s' = s) E s := by
    unfold setDrawn
    refine wpAny_bind (wpAny_setState_of ho hd hf ?_)
    dsimp only
    unfold setsByText
    refine wpAny_bind (wpAny_bind (wpAny_askSetting (wpAny_pure ?_)))
    refine wpAny_pure ⟨?_, rfl⟩
    show (_ && (!t.plain && _)) = false
    rw [hpl]; simp
  refine wpAny_bind (wpAny_mono hdr (fun r s' hr => ?_) fun _ _ x => x)
  obtain ⟨rfl, rfl⟩ := hr
  simp only [Bool.false_eq_true, if_false]
  refine wpAny_bind (wpAny_pure ?_)
  refine wpAny_bind (wpAny_setEpoch_of ho hd hf ?_)
  refine wpAny_bind (wpAny_newObj_type (wpAny_pure ⟨_, rfl, "set_iterator", _, ⟨_, Heap.get?_push_size _ rfl, rfl⟩, next_slot.lookup, ?_⟩))
  have := h o ep t ho hd X hled hpl
  rw [List.size_toArray]
  exact this
set_option maxHeartbeats 4000000 in
theorem collect_int {a : Addr} {T : List Cell} {Q : List Value → Shared → Prop} (hh : A.handled = none) (S : IntSet w s.heap a T)
    (hQ : ∀ vs h' tk, List.Perm vs ((esT T).map fun e => e.2) → (∀ b o, s.heap.get? b = some o → h'.get? b = some o) → s.toks ≤ tk → Q vs { s with heap := h', toks := tk }) :
    wpAny (model prog w) A (collect (.ref a)) Q E s := by
  have hlt : a < s.heap.objs.size := let ⟨_, _, _, q, _⟩ := S.obj; Heap.lt_size q
  have hne : s.heap.objs.size ≠ a := Nat.ne_of_gt hlt
  have S1 : IntSet w (s.heap.push bareList) a T := S.moved (fun o e => Heap.get?_push_of_some _ e)
  have ty : Shared.TypeIs { s with heap := s.heap.push bareList } (.ref a) "set" := let ⟨_, _, _, q, e, _⟩ := S1.obj; ⟨_, q, e.1⟩
  unfold collect
  refine wpAny_bind (wpAny_runValue (codeAny_builtin F.entry_proto_collect ?_))
  rw [Around.under_plainId F.plain_proto_collect _]
  show wpAny _ A.in1 (newList [] >>= fun l => again (.builtin "list.__iadd__" ⟨[l, .ref a], []⟩)) _ _ s
  refine wpAny_bind (wpAny_newObj_type ?_)
  refine wpAny_pure ⟨plainId_quiet F.plain_list_iadd _, codeAny_builtin F.entry_list_iadd ?_⟩
  rw [Around.under_plainId F.plain_list_iadd _]
  show wpAny _ A.in1 (Builtin.List.listExtendWith (.ref s.heap.objs.size) (.ref a) (.ref s.heap.objs.size)) _ _ _
  unfold Builtin.List.listExtendWith
  refine wpAny_bind (wpAny_typeOf ty ?_)
  have c1 : Builtin.List.listSameRef (.ref s.heap.objs.size) (.ref a) = false := by simp [Builtin.List.listSameRef, hne]
  rw [if_neg (by rw [c1]; decide)]
  refine wpAny_bind (iter_int S1 fun o ep t ho hd X hled hpl => ?_)
  have hI : (s.heap.push bareList).objs.size = s.heap.objs.size + 1 := Heap.size_push _ _
  refine wpAny_bind (wpAny_holding (hint_set ⟨o, Heap.get?_push_of_some _ ho, ?_⟩ ?_))
  · obtain ⟨o', ho', hc⟩ := ty
    have : o = o' := Option.some.inj (ho.symm.trans ho')
    rw [this]; exact hc
  rw [if_pos (by decide +kernel)]
  refine wpAny_bind (wpAny_rule ?_)
  refine wpAny_bind ?_
  have hf := fitsT X S.small
  generalize hit : ({ cls := .type "set_iterator", dict := none, data := .fields #[.int 0 0, .int 0 0, .ref a, .int (esT T).length 0, .int ep 0], slots := #[] } : Obj) = it
  have g1 : ((s.heap.push bareList).push it).get? s.heap.objs.size = some bareList := Heap.get?_push_of_some _ (Heap.get?_push_size _ rfl)
  have g2 : ((s.heap.push bareList).push it).get? (s.heap.push bareList).objs.size = some it := Heap.get?_push_size _ (by subst hit; rfl)
  show wpAny _ A.in1 (updateSeq s.heap.objs.size (·.push .none) >>= fun _ => updateSeq s.heap.objs.size (·.pop)) _ _ _
  refine wpAny_bind (wpAny_updateSeq g1 rfl ?_)
  have g3 := Heap.get?_update_self (Obj.mapSeq (·.push Value.none)) g1 rfl
  refine wpAny_updateSeq g3 rfl ?_
  have g4 := Heap.get?_update_self (Obj.mapSeq (·.pop)) g3 rfl
  have oth : ∀ b o, b ≠ s.heap.objs.size → ((s.heap.push bareList).push it).get? b = some o → ((((s.heap.push bareList).push it).update s.heap.objs.size (Obj.mapSeq (·.push Value.none))).update s.heap.objs.size (Obj.mapSeq (·.pop))).get? b = some o :=
    fun b o hb e => (Heap.get?_update_other _ _ (Ne.symm hb)).trans ((Heap.get?_update_other _ _ (Ne.symm hb)).trans e)
  have nI : a ≠ (s.heap.push bareList).objs.size := by rw [hI]; exact Nat.ne_of_lt (Nat.lt_succ_of_lt hlt)
  have nL : s.heap.objs.size ≠ (s.heap.push bareList).objs.size := by rw [hI]; exact Nat.ne_of_lt (Nat.lt_succ_self _)
  have n8 : (esT T).length ≤ 4 := S.small
  have g5 : ∃ c, (((((s.heap.push bareList).push it).update s.heap.objs.size (Obj.mapSeq (·.push Value.none))).update s.heap.objs.size (Obj.mapSeq (·.pop))).get? s.heap.objs.size = some { cls := .type "list", dict := none, data := .seq #[] c, slots := #[] }) := ⟨_, g4⟩
  have g6 := oth _ _ (Ne.symm nL) g2
  have g7 := oth _ _ (Ne.symm hne) (Heap.get?_push_of_some it ho)
  have g8 : ∀ b o, s.heap.get? b = some o → (((((s.heap.push bareList).push it).update s.heap.objs.size (Obj.mapSeq (·.push Value.none))).update s.heap.objs.size (Obj.mapSeq (·.pop))).get? b = some o) := fun b o e => oth b o (Nat.ne_of_lt (Heap.lt_size e)) (Heap.get?_push_of_some _ (Heap.get?_push_of_some _ e))
  clear g3 g4 oth g1 g2
  generalize (((s.heap.push bareList).push it).update s.heap.objs.size (Obj.mapSeq (·.push Value.none))).update s.heap.objs.size (Obj.mapSeq (·.pop)) = H at g5 g6 g7 g8 ⊢
  generalize (s.heap.push bareList).objs.size = I at hI nI nL g6 ⊢
  obtain ⟨c, g5⟩ := g5
  have st0 : (∃ slot, SetIt H I a slot 0 (esT T).length ep ∧ (w.params.followText "set-order" = false → SetTable.below t.place slot = 0)) ∧ H.get? a = some o :=
    ⟨⟨0, by unfold SetIt; rw [g6, ← hit]; rfl, fun _ => first_place X⟩, g7⟩
  refine wpAny_pure ⟨plainId_quiet F.plain_extend_loop _, codeAny_extend_loopS (walk_tup (A := A.in1) (by simp [hh]) nI hd X hf hled hpl).toS (by have := sizeLine_eq; omega) s.heap.objs.size ?_ _ (esT T).length 0 _ #[] c rfl (Nat.zero_le _) st0 g5 (ItemsOf.nil _) fun s' acc' c' hm hS' hacc => ?_⟩
  · simp only [List.mem_cons, List.mem_singleton, List.not_mem_nil, or_false, not_or]
    exact ⟨nL, hne⟩
  · show wpAny _ A (load s.heap.objs.size >>= _) _ _ s'
    refine wpAny_bind (wpAny_load hS' ?_)
    refine wpAny_pure ?_
    obtain ⟨h', g', d', tk', os'⟩ := s'
    have eg : g' = s.gens := hm.gens
    have ed : d' = s.drawn := hm.drawn
    have eo : os' = s.os := hm.os
    subst eg ed eo
    have hacc' : acc' = outs w a ep (esT T).toArray := by
      apply Array.ext_getElem?
      intro i
      by_cases z : i < acc'.size
      · rw [hacc.2 i _ (Array.getElem?_eq_getElem z), Array.getElem?_eq_getElem z]
      · rw [Array.getElem?_eq_none (by omega), Array.getElem?_eq_none (by rw [outs_size, List.size_toArray, ← hacc.1]; omega)]
    refine hQ _ h' tk' ?_ (fun b o e => ?_) hm.toks
    · rw [hacc']
      exact outs_perm w a ep _
    · have hb : b ≠ s.heap.objs.size := Nat.ne_of_lt (Heap.lt_size e)
      have hb2 : b ≠ I := by rw [hI]; exact Nat.ne_of_lt (Nat.lt_succ_of_lt (Heap.lt_size e))
      exact hm.heap b o (by simp only [List.mem_cons, List.mem_singleton, List.not_mem_nil, or_false, not_or]; exact ⟨hb, hb2⟩) (g8 b o e)
theorem ints_of_keys : ∀ {es : List (Int × Value)}, (∀ e ∈ es, ∃ k t, e = (hashInt k, Value.int k t)) → IntsAre (es.map fun e => e.2) (es.map fun e => kI e.2)
  | [], _ => .nil
  | e :: es, h => by
    obtain ⟨k, t, rfl⟩ := h e List.mem_cons_self
    exact .cons k t (ints_of_keys fun e he => h e (List.mem_cons_of_mem _ he))
theorem sorted_intset {a : Addr} {T : List Cell} {Q : Value → Shared → Prop} (hh : A.handled = none) (S : IntSet w s.heap a T)
    (h : ∀ D out h' tk c ns, (∀ b o, s.heap.get? b = some o → b < D) → h'.get? D = some (seqObj "list" (List.toArray out) c) → (∀ b o, s.heap.get? b = some o → h'.get? b = some o) → IntsAre out ns → List.Perm ns (keysT T) → ns.Pairwise (· ≤ ·) → s.toks ≤ tk → Q (.ref D) { s with heap := h', toks := tk }) :
    wpAny (model prog w) A (call (.builtin "sorted") [.ref a]) Q E s := by
  refine Calls.call_function_entry kind_sorted plain_sorted entry_sorted (args_sorted1 _) ?_
  unfold Builtin.«sorted»
  refine wpAny_bind (m := checkCount "sorted" 1 1 _) (wpAny_pure ?_)
  refine wpAny_bind (collect_int hh S fun vs h1 tk hp hk ht => ?_)
  obtain ⟨ps, p1, rfl⟩ := perm_lift hp
  have hl4 : ps.length ≤ 4 := by rw [p1.length_eq]; exact S.small
  refine wpAny_bind (wpAny_newList ?_ (by rw [List.length_map, sizeLine_eq]; omega))
  have g0 : (h1.push (seqObj "list" (List.toArray (ps.map fun e => e.2)) 0)).get? h1.objs.size = some (seqObj "list" (List.toArray (ps.map fun e => e.2)) 0) := Heap.get?_push_size _ rfl
  have k0 : ∀ b o, s.heap.get? b = some o → (h1.push (seqObj "list" (List.toArray (ps.map fun e => e.2)) 0)).get? b = some o := fun b o e => Heap.get?_push_of_some _ (hk b o e)
  have IA : IntsAre (ps.map fun e => e.2) (ps.map fun e => kI e.2) := ints_of_keys fun e he => S.keys e (p1.mem_iff.mp he)
  have kp : List.Perm (ps.map fun e => kI e.2) (keysT T) := p1.map (fun (e : Int × Value) => kI e.2)
  show wpAny _ _ _ _ _ { s with heap := h1.push (seqObj "list" (List.toArray (ps.map fun e => e.2)) 0), toks := tk }
  refine wpAny_bind (wpAny_holding (wpAny_call_entry slot_list_sort ⟨_, g0, rfl⟩ entry_list_sort ?body (args_list_sort _)))
  case body =>
    refine list_sort_tree (s := { s with heap := h1.push (seqObj "list" (List.toArray (ps.map fun e => e.2)) 0), toks := tk }) g0 IA (by rw [List.length_map]; omega) fun out ns' i1 i2 i3 => ?_
    refine ⟨_, rfl, wpAny_pure ⟨_, rfl, ?_⟩⟩
    obtain ⟨c, g2⟩ : ∃ c, (sortedHeap (h1.push (seqObj "list" (List.toArray (ps.map fun e => e.2)) 0)) h1.objs.size (ps.map fun e => e.2) out).get? h1.objs.size = some (seqObj "list" (List.toArray out.toList) c) := by
      obtain ⟨e, q⟩ := sortedHeap_at (out := out) g0
      exact ⟨e, by simpa using q⟩
    have k2 : ∀ b o, b ≠ h1.objs.size → (h1.push (seqObj "list" (List.toArray (ps.map fun e => e.2)) 0)).get? b = some o → (sortedHeap (h1.push (seqObj "list" (List.toArray (ps.map fun e => e.2)) 0)) h1.objs.size (ps.map fun e => e.2) out).get? b = some o := fun b o hb e => (sortedHeap_old hb (Heap.lt_size e)).trans e
    exact h _ out.toList _ tk c ns' (fun b o e => Heap.lt_size (hk b o e)) g2 (fun b o e => k2 b o (Nat.ne_of_lt (Heap.lt_size (hk b o e))) (k0 b o e)) i1 (i2.trans kp) i3 ht
end
end Fn
set_option Elab.async false
set_option linter.all false
set_option maxRecDepth 100000
namespace Fn
open PySem L2 PySem.Spec PyProof.Rows PySem.W
noncomputable def insZ (k : Int) : List Int → List Int
  | [] => [k]
  | x :: r => if k < x then k :: x :: r else if k = x then x :: r else x :: insZ k r
noncomputable def sortZ (ks : List Int) : List Int := ks.foldr insZ []
theorem insZ_mem (k y : Int) : ∀ l, y ∈ insZ k l ↔ y = k ∨ y ∈ l
  | [] => by simp [insZ]
  | x :: r => by
    unfold insZ
    split
    · simp
    · split
      · rename_i h; subst h; simp
      · have := insZ_mem k y r
        simp only [List.mem_cons, this]
        constructor
        · rintro (h | h | h)
          · exact .inr (.inl h)
          · exact .inl h
          · exact .inr (.inr h)
        · rintro (h | h | h)
          · exact .inr (.inl h)
          · exact .inl h
          · exact .inr (.inr h)
theorem insZ_up (k : Int) : ∀ l : List Int, l.Pairwise (· < ·) → (insZ k l).Pairwise (· < ·)
  | [], _ => by simp [insZ]
  | x :: r, h => by
    obtain ⟨h1, h2⟩ := List.pairwise_cons.mp h
    unfold insZ
    split
    · rename_i c
      exact List.pairwise_cons.mpr ⟨fun y hy => by
        rcases List.mem_cons.mp hy with rfl | z
        · exact c
        · have := h1 y z; omega, h⟩
    · split
      · exact h
      · refine List.pairwise_cons.mpr ⟨fun y hy => ?_, insZ_up k r h2⟩
        rcases (insZ_mem k y r).mp hy with rfl | z
        · omega
        · exact h1 y z
theorem sortZ_mem (y : Int) : ∀ ks, y ∈ sortZ ks ↔ y ∈ ks
  | [] => by simp [sortZ]
  | k :: ks => by
    have := sortZ_mem y ks
    show y ∈ insZ k (sortZ ks) ↔ _
    rw [insZ_mem, this, List.mem_cons]
theorem sortZ_up : ∀ ks, (sortZ ks).Pairwise (· < ·)
  | [] => List.Pairwise.nil
  | k :: ks => insZ_up k _ (sortZ_up ks)
theorem upZ_eq : ∀ l l' : List Int, l.Pairwise (· < ·) → l'.Pairwise (· < ·) → (∀ x, x ∈ l ↔ x ∈ l') → l = l'
  | [], [], _, _, _ => rfl
  | [], y :: l', _, _, h => by have := (h y).mpr List.mem_cons_self; cases this
  | x :: l, [], _, _, h => by have := (h x).mp List.mem_cons_self; cases this
  | x :: l, y :: l', h1, h2, h => by
    obtain ⟨a1, a2⟩ := List.pairwise_cons.mp h1
    obtain ⟨b1, b2⟩ := List.pairwise_cons.mp h2
    have e : x = y := by
      rcases List.mem_cons.mp ((h x).mp List.mem_cons_self) with q | q
      · exact q
      · rcases List.mem_cons.mp ((h y).mpr List.mem_cons_self) with q' | q'
        · exact q'.symm
        · have := b1 x q; have := a1 y q'; omega
    subst e
    rw [upZ_eq l l' a2 b2 fun z => ⟨fun hz => by
      rcases List.mem_cons.mp ((h z).mp (List.mem_cons_of_mem _ hz)) with q | q
      · subst q; have := a1 z hz; omega
      · exact q, fun hz => by
      rcases List.mem_cons.mp ((h z).mpr (List.mem_cons_of_mem _ hz)) with q | q
      · subst q; have := b1 z hz; omega
      · exact q⟩]
theorem nodup_leA {α : Type} [DecidableEq α] : ∀ (l m : List α), l.Nodup → (∀ x ∈ l, x ∈ m) → l.length ≤ m.length
  | [], m, _, _ => Nat.zero_le _
  | a :: l, m, hn, hs => by
    obtain ⟨h1, h2⟩ := List.nodup_cons.mp hn
    have ha := hs a List.mem_cons_self
    have := nodup_leA l (m.erase a) h2 fun x hx => (List.mem_erase_of_ne (fun e : x = a => h1 (e ▸ hx))).mpr (hs x (List.mem_cons_of_mem _ hx))
    have e := List.length_erase_of_mem ha
    have hp := List.length_pos_of_mem ha
    simp only [List.length_cons]
    omega
noncomputable def sortSetI : D → Option D
  | .list ds => match intsL ds with
    | some ks => if (sortZ ks).length ≤ 4 then some (.list ((sortZ ks).map PyData.int)) else none
    | none => none
  | _ => none
noncomputable def eSortSetI (f : Env → Option D) : Env → Option D := fun ρ => match f ρ with
  | some d => sortSetI d
  | none => none
theorem intsA_of {K : PySem.W.Frag} {H : Hp} : ∀ {ds : List D} {ks : List Int} {xs : List V} {its : List Value}, intsL ds = some ks → Reps K H ds xs → Vals xs its → IntsAre its ks
  | [], ks, xs, its, e, r, v => by
    cases e
    have : xs = [] := r
    subst this
    cases v
    exact .nil
  | d :: ds, ks, xs, its, e, r, v => by
    obtain ⟨x, t, rfl, r1, r2⟩ := r
    have hd := intsL_map e
    cases ks with
    | nil => cases hd
    | cons k ks =>
      obtain ⟨h1, h2⟩ := List.cons.inj hd
      subst h1
      have e' : intsL ds = some ks := by
        have e2 : (match intsL ds with
          | some ns => some (k :: ns)
          | none => none) = some (k :: ks) := e
        cases q : intsL ds with
        | none => rw [q] at e2; cases e2
        | some ns => rw [q] at e2; cases e2; rfl
      cases v with
      | cons a b =>
        have hx : x = V.int k := r1
        subst hx
        obtain ⟨tk, rfl⟩ := a
        exact .cons k tk (intsA_of e' r2 b)
theorem vals_ints {out : List Value} {ns : List Int} (h : IntsAre out ns) : Vals (ns.map V.int) out := by
  induction h with
  | nil => exact .nil
  | cons n t r ih => exact .cons ⟨t, rfl⟩ ih
theorem reps_intsZ {K : PySem.W.Frag} {H : Hp} : ∀ ns : List Int, Reps K H (ns.map PyData.int) (ns.map V.int)
  | [] => rfl
  | n :: ns => ⟨_, _, rfl, rfl, reps_intsZ ns⟩
theorem se_sortedsetI {X : Cx} {k : Nat} {a : Expr} {f : Env → Option D} {p1 p2 q1 q2 : Pos} (hm : X.mg "sorted" = none) (hm2 : X.mg "set" = none) (hr : Room k X.A) (ha : SB X a f)
    (hg : Gl X "sorted" := by rfl) (hg2 : Gl X "set" := by rfl)
    (he : starEach [.Call (.Name "set" p2) [a] [] q1] X.env = [(false, eval (.Call (.Name "set" p2) [a] [] q1) X.env)] := by rfl)
    (he2 : starEach [a] X.env = [(false, eval a X.env)] := by rfl) :
    SE X (.Call (.Name "sorted" p1) [.Call (.Name "set" p2) [a] [] q1] [] q2) (eSortSetI f) := by
  intro pins s σ H Q I h
  obtain ⟨O, W, ρ, d, sr, ef, kk⟩ := h
  unfold eSortSetI at ef
  cases e1 : f ρ with
  | none => rw [e1] at ef; cases ef
  | some d1 =>
    rw [e1] at ef
    refine wpAny_Call_Name_kw (ld_blt I hg hm rfl ?_)
    refine PyProof.Rows.callWith_builtin1 ?_ he rfl
    rw [he]
    show wpAny _ _ (spliced ((false, eval (.Call (.Name "set" p2) [a] [] q1) X.env) :: backTo q2 [])) _ _ s
    refine Calls.spliced_cons ?_
    refine wpAny_Call_Name_kw (ld_blt I hg2 hm2 rfl ?_)
    refine PyProof.Rows.callWith_type1 ?_ he2 rfl
    rw [he2]
    show wpAny _ _ (spliced ((false, eval a X.env) :: backTo q1 [])) _ _ s
    refine Calls.spliced_cons (thn (ha pins s σ H (fun v H1 => Same H H1 ∧ RepB X.K O W H1 d1 v) I ⟨O, W, ρ, d1, sr, e1, fun v H1 s1 rb => ⟨s1, rb⟩⟩) fun u s1 ⟨v, H1, I1, rv, sm, rb⟩ => Calls.spliced_nil ?_)
    cases d1 with
    | list ds =>
      have rl : ∃ a xs, v = .ref a ∧ SqL X.K H1 a xs ∧ Reps X.K (hid (O ++ W) H1) ds xs := by
        rcases rb with ⟨a, xs, q1, q2, q3⟩ | ⟨ds', a, xs, q0, q1, q2, q3⟩
        · exact ⟨a, xs, q1, Same.sqL (hid_le _ _) q2, q3⟩
        · cases q0; exact ⟨a, xs, q1, .inl (.inl q2), q3⟩
      obtain ⟨l, xs, rfl, sq, rs⟩ := rl
      cases rv
      obtain ⟨its, vs, pl, _⟩ := I1.list sq
      simp only [sortSetI] at ef
      cases e2 : intsL ds with
      | none => rw [e2] at ef; cases ef
      | some ks =>
        rw [e2] at ef
        by_cases c : (sortZ ks).length ≤ 4
        · have ef' : some (PyData.list ((sortZ ks).map PyData.int)) = some d := by rw [← ef]; exact (if_pos c).symm
          cases ef'
          have IA := intsA_of e2 rs vs
          have hl1 : s1.heap.IsList l its.toArray := by
            obtain ⟨o, n, g1, g2, g3, g4⟩ := pl
            exact ⟨o, g1, by first | exact g2 | exact g3 | exact g4, n, by first | exact g2 | exact g3 | exact g4⟩
          refine call_set_ints (ks := ks) hr.hd hl1 (by simpa using IA) (fun z hz hm => Nat.le_trans (nodup_leA z _ hz fun x hx => (sortZ_mem x ks).mpr (hm x hx)) c) fun h1 tk T S hmT hk ht => Calls.spliced_nil ?_
          refine sorted_intset (s := { s1 with heap := h1, toks := tk }) hr.hd S fun D out h' tk' cc ns hD g k2 K2 pm srt ht2 => ?_
          obtain ⟨o, _, _, ho, _⟩ := S.obj
          have hDs : s1.heap.objs.size ≤ D := Nat.le_of_lt (hD _ o ho)
          have kept : ∀ b o, s1.heap.get? b = some o → h'.get? b = some o := fun b o q => k2 b o (hk b o q)
          have en : ns = sortZ ks := by
            refine upZ_eq _ _ ?_ (sortZ_up ks) fun x => by rw [pm.mem_iff, hmT x, sortZ_mem]
            have nd : ns.Nodup := pm.nodup_iff.mpr S.nodup
            exact (srt.and nd).imp fun {a b} h => by obtain ⟨h1, h2⟩ := h; omega
          subst en
          have zl : ((sortZ ks).map V.int).length ≤ sizeLine := by rw [List.length_map, sizeLine_eq]; omega
          have np := I1.hok.fresh hDs
          have I2 := I1.laid (a := D) (o := .lst ((sortZ ks).map V.int)) (t' := tk') kept hDs ⟨zl, out, cc, vals_ints K2, g⟩
          obtain ⟨n1, n2⟩ := new_lst np (fun a ha => Same.live sm (sr.live a ha)) (reps_intsZ (K := X.K) (H := hid (O ++ W) H1) (sortZ ks))
          exact ⟨.ref D, _, I2, rfl, kk _ _ (fun b o q => n1 b o (sm b o q)) n2⟩
        · have ef' : none = some d := by rw [← ef]; exact (if_neg c).symm
          cases ef'
    | _ => cases ef
end Fn
set_option Elab.async false
set_option linter.all false
set_option maxRecDepth 100000
namespace Fn
open PySem L2 PySem.Spec PyProof.Rows
noncomputable def sItem (i : Nat) (fi f : Env → Option D) : Env → Option Fl := fun ρ => match f ρ, ρ[i]?, fi ρ with
  | some d, some (.own ds), some (.int k) => (match ixN ds.length k with
    | some j => some (.nx (ρ.set i (.own (ds.set j d))))
    | none => none)
  | _, _, _ => none
section
variable {X : Cx} {e ie : Expr} {f fi : Env → Option D} {pos : Pos}
theorem ss_item {i : Nat} {x : Str} {p spos : Pos} (hv : Vis X.env.scope x) (he : SE X e f) (hie : SE X ie fi) (hN : X.N[i]? = some x := by rfl)
    (hs : swapsWithSole [.Subscript (.Name x p) ie spos] e pos.line X.env = pure false := by rfl) (hw : swappedStores [.Subscript (.Name x p) ie spos] e X.env = pure none := by rfl)
    (h1 : (assignEach [.Subscript (.Name x p) ie spos] X.env).map (·.2) = [assign (.Subscript (.Name x p) ie spos) X.env] := by rfl)
    (ha : ∀ v, assign (.Subscript (.Name x p) ie spos) X.env v = (do
      let ov ← holding [v] (eval (.Name x p) X.env)
      let iv ← holding [v, ov] (eval ie X.env)
      standAt spos
      holding [v, ov, iv] (setItem ov iv v)
      release [v, ov, iv] []) := by intro _; rfl)
    (hd : (x == ("__debug__" : Str)) = false := by decide) (hcd : (x == ("__classdict__" : Str)) = false := by decide) :
    SS X (.Assign [.Subscript (.Name x p) ie spos] e pos) (sItem i fi f) := by
  refine ps_conv (ps_asg he (pg_sub (pe_var (pos := p) hN hv hd hcd) hie set_list ha) hs hw h1) fun D σ H h_0 => ?_
  obtain ⟨O, W, ρ, fl, sr, e, k⟩ := h_0
  unfold sItem at e
  cases e1 : f ρ with
  | none => rw [e1] at e; cases e
  | some d =>
    cases c : ρ[i]? with
    | none => rw [e1, c] at e; cases e
    | some c' =>
      cases e2 : fi ρ with
      | none => rw [e1, c, e2] at e; cases c' <;> cases e
      | some dk =>
        rw [e1, c, e2] at e
        cases c' with
        | emp => cases e
        | ref _ => cases e
        | val d' => cases e
        | own ds =>
          cases dk with
          | int kk =>
            simp only at e
            cases ej : ixN ds.length kk with
            | none => rw [ej] at e; cases e
            | some j =>
              rw [ej] at e
              cases e
              obtain ⟨a, xs, f1, hw', ho, ha', r⟩ := sr.rel i _ c
              refine ⟨O, W, ρ, d, sr, e1, fun v H1 s1 r1 => ?_⟩
              refine ⟨.ref a, f1, O, W, ρ, .int kk, sr.mono s1, e2, fun u H2 s2 r2 => ?_⟩
              have hu : u = V.int kk := r2
              subst hu
              have s12 : Same H H2 := fun b o q => s2 b o (s1 b o q)
              have sr2 := sr.mono s12
              have rr := Reps.set (r1.mono (hid_same s2)) j (r.mono (hid_same s12))
              refine ⟨a, xs, kk, j, rfl, rfl, s12 _ _ ha', ?_, ?_⟩
              · rw [← r.length]; exact ej
              · obtain ⟨sr3, fm⟩ := sr2.upd c f1 (s12 _ _ ha') rr
                exact k W σ _ sr3 (Fm.trans (.of_same s12) fm)
          | _ => cases e
end
theorem none_ofS {H H1 : Hp} (sm : Same H H1) {p : Addr} (np : H1 p = none) : H p = none := by
  cases q : H p with
  | none => rfl
  | some o => rw [sm p o q] at np; cases np
noncomputable def nLRng (f : Env → Option D) : Env → Option (List D) := fun ρ => match f ρ with
  | some (.int n) => if (decide (0 ≤ n) && decide (n ≤ 1000)) = true then some (rngD 0 n.toNat) else none
  | _ => none
theorem sn_lrng {X : Cx} {a : Expr} {f : Env → Option D} {p1 p2 q1 q2 : Pos} (hm : X.mg "list" = none) (hm2 : X.mg "range" = none) (ha : SE X a f) (hc : X.calm = true := by rfl) (hg : Gl X "list" := by rfl) (hg2 : Gl X "range" := by rfl)
    (he : starEach [.Call (.Name "range" p2) [a] [] q1] X.env = [(false, eval (.Call (.Name "range" p2) [a] [] q1) X.env)] := by rfl)
    (he2 : starEach [a] X.env = [(false, eval a X.env)] := by rfl) : SN X (.Call (.Name "list" p1) [.Call (.Name "range" p2) [a] [] q1] [] q2) (nLRng f) := by
  intro pins s σ H Q I h
  obtain ⟨O, W, ρ, d, sr, ef, kk⟩ := h
  unfold nLRng at ef
  cases e1 : f ρ with
  | none => rw [e1] at ef; cases ef
  | some d1 =>
    rw [e1] at ef
    refine wpAny_Call_Name_kw (ld_blt I hg hm rfl ?_)
    refine PyProof.Rows.callWith_type1 ?_ he rfl
    rw [he]
    show wpAny _ _ (spliced ((false, eval (.Call (.Name "range" p2) [a] [] q1) X.env) :: backTo q2 [])) _ _ s
    refine Calls.spliced_cons ?_
    refine wpAny_Call_Name_kw (ld_blt I hg2 hm2 boot_range ?_)
    refine PyProof.Rows.callWith_type1 ?_ he2 rfl
    rw [he2]
    show wpAny _ _ (spliced ((false, eval a X.env) :: backTo q1 [])) _ _ s
    refine Calls.spliced_cons (thn (ha pins s σ H (fun v H1 => Same H H1 ∧ Rep X.K (hid (O ++ W) H1) d1 v) I ⟨O, W, ρ, d1, sr, e1, fun v H1 s1 rb => ⟨s1, rb⟩⟩) fun u s1 ⟨v, H1, I1, rv, sm, rb⟩ => Calls.spliced_nil ?_)
    cases d1 with
    | int j =>
      have hv : v = .int j := rb
      subst hv
      obtain ⟨t, rfl⟩ := rv
      by_cases c : (decide (0 ≤ j) && decide (j ≤ 1000)) = true
      · have ef' : some (rngD 0 j.toNat) = some d := by rw [← ef]; exact (if_pos c).symm
        cases ef'
        simp at c
        refine call_range_1 ?_
        refine Calls.spliced_nil ?_
        refine call_list_range (n := j.toNat) (I1.ok.hd hc) (IsRange.new ..) (small_one (by omega) (by omega) (by omega) (by omega)) (by rw [rangeSize_one]; split <;> omega) (by omega) fun h' tk acc c' kp g it => ?_
        obtain ⟨al, ai⟩ := it
        have vv := vals_from acc.toList 0 fun k v e => by
          obtain ⟨t, e2⟩ := ai k v (by simpa using e)
          exact ⟨t, by rw [e2]; congr 1; omega⟩
        rw [← List.range_eq_range', Array.length_toList, al] at vv
        have kp' : ∀ b o, s1.heap.get? b = some o → h'.get? b = some o := fun b o e => kp b o (Heap.get?_push_of_some _ e)
        have hD : s1.heap.objs.size ≤ (s1.heap.push { cls := .type "range", data := .fields #[.int 0 s1.toks, .int j t, .int 1 (s1.toks + 1)] }).objs.size := by rw [Heap.size_push]; omega
        have np := I1.hok.fresh hD
        have I2 := I1.laid (o := .lst ((List.range j.toNat).map fun (i : Nat) => V.int i)) (t' := tk) kp' hD ⟨by rw [sizeLine_eq]; simp; omega, acc.toList, c', vv, g⟩
        have np0 := none_ofS sm np
        exact ⟨.ref _, _, I2, rfl, kk _ _ _ np0 (sm.trans (same_upd np _)) upd_same (new_own np (reps_ints (K := X.K) (H := hid (O ++ W) H1) j.toNat))⟩
      · have ef' : none = some d := by rw [← ef]; exact (if_neg c).symm
        cases ef'
    | _ => cases ef
end Fn
set_option Elab.async false
set_option linter.all false
set_option maxRecDepth 100000
namespace Fn
open PySem L2 PySem.Spec PyProof.Rows
noncomputable def cellsIn (names : List (Str × NameKind)) : List Str := (names.filter fun y => y.2 == .cell).map (·.1)
section
variable {M : Model} {A : Around} {E : Value → Shared → Prop} {s : Shared}
noncomputable abbrev bareCell : Obj := { cls := .type "cell", data := .cell none }
theorem for_cells0 {acc : List (Str × Addr)} {Q : List (Str × Addr) → Shared → Prop} : ∀ {names : List (Str × NameKind)}, cellsIn names = [] → Q acc s →
    wpAny M A (forIn names acc fun (x : Str × NameKind) (r : List (Str × Addr)) => (match x with | (name, kind) => if (kind == .cell) = true then (do let c ← alloc bareCell; pure (ForInStep.yield ((name, c) :: r))) else pure (ForInStep.yield r) : Sem (ForInStep (List (Str × Addr))))) Q E s
  | [], _, h => wpAny_pure h
  | (n, k) :: names, hc, h => by
    rw [List.forIn_cons]
    cases hk : k == NameKind.cell with
    | true => simp [cellsIn, hk] at hc
    | false =>
      simp only [hk]
      exact wpAny_bind (wpAny_pure (for_cells0 (names := names) (by simpa [cellsIn, hk] using hc) h))
theorem for_cells1 {acc : List (Str × Addr)} {z : Str} {Q : List (Str × Addr) → Shared → Prop} : ∀ {names : List (Str × NameKind)}, cellsIn names = [z] → Q ((z, s.heap.objs.size) :: acc) { s with heap := s.heap.push bareCell } →
    wpAny M A (forIn names acc fun (x : Str × NameKind) (r : List (Str × Addr)) => (match x with | (name, kind) => if (kind == .cell) = true then (do let c ← alloc bareCell; pure (ForInStep.yield ((name, c) :: r))) else pure (ForInStep.yield r) : Sem (ForInStep (List (Str × Addr))))) Q E s
  | [], hc, _ => by simp [cellsIn] at hc
  | (n, k) :: names, hc, h => by
    rw [List.forIn_cons]
    cases hk : k == NameKind.cell with
    | true =>
      simp only [hk, if_true]
      have hc' : n = z ∧ cellsIn names = [] := by simpa [cellsIn, hk] using hc
      obtain ⟨rfl, hc'⟩ := hc'
      exact wpAny_bind (wpAny_bind (wpAny_alloc (wpAny_pure (for_cells0 hc' h))))
    | false =>
      simp only [hk]
      exact wpAny_bind (wpAny_pure (for_cells1 (names := names) (by simpa [cellsIn, hk] using hc) h))
theorem newEnvZ {scope : Scope} {globals : Addr} {cl : List (Str × Addr)} {qual : Str} {around : PySem.Env} {z : Str} {Q : PySem.Env → Shared → Prop} (hc : cellsIn scope.names = [z])
    (h : ∀ h' : Heap, (h'.Ns s.heap.objs.size fun _ => none) → (∀ b u, s.heap.get? b = some u → h'.get? b = some u) → h'.IsCell (s.heap.objs.size + 1) none →
      Q (newEnv scope s.heap.objs.size globals ((z, s.heap.objs.size + 1) :: cl) qual none .none (some around) builtinsNs) { s with heap := h', toks := s.toks + ([] : List (Str × Value)).length }) :
    wpAny M A (newFunctionEnv scope globals cl [] qual none .none (some around)) Q E s := by
  unfold newFunctionEnv
  refine wpAny_bind (wpAny_alloc (wpAny_bind (for_cells1 hc ?_)))
  refine wpAny_bind (wpAny_pure (wpAny_pure ?_))
  have e : (s.heap.push { cls := Value.type (if (some around).isSome = true then "dict" else "frame"), data := Data.dict #[] }).objs.size = s.heap.objs.size + 1 := Heap.size_push _ _
  simp only [e]
  refine h _ ?_ (fun b u q => Heap.get?_push_of_some _ (Heap.get?_push_of_some _ q)) ?_
  · exact ⟨_, #[], _, Heap.get?_push_of_some _ (Heap.get?_push_size _ rfl), rfl, (fun e he => by simp at he), fun name => rfl⟩
  · exact ⟨_, by rw [← e]; exact Heap.get?_push_size _ rfl, rfl⟩
end
theorem lookZ {zz x : Str} {c0 c : Addr} {cl : List (Str × Addr)} (h : ((zz, c0) :: cl).lookup x = some c) : (x = zz ∧ c = c0) ∨ cl.lookup x = some c := by
  rw [List.lookup_cons] at h
  by_cases e : x = zz
  · subst e
    simp at h
    exact .inl ⟨rfl, h.symm⟩
  · have : (x == zz) = false := by simpa using e
    rw [this] at h
    exact .inr h
theorem lookZ_self {zz : Str} {c0 : Addr} {cl : List (Str × Addr)} : ((zz, c0) :: cl).lookup zz = some c0 := by simp
theorem lookZ_of {zz x : Str} {c0 c : Addr} {cl : List (Str × Addr)} (e : x ≠ zz) (h : cl.lookup x = some c) : ((zz, c0) :: cl).lookup x = some c := by
  rw [List.lookup_cons]
  have : (x == zz) = false := by simpa using e
  rw [this]; exact h
theorem lookZ_has {zz x : Str} {c0 c : Addr} {cl : List (Str × Addr)} (h : cl.lookup x = some c) : ∃ c', ((zz, c0) :: cl).lookup x = some c' := by
  by_cases e : x = zz
  · subst e; exact ⟨c0, by simp⟩
  · exact ⟨c, lookZ_of e h⟩
noncomputable abbrev cxCompZ (X : Cx) (Nc : List Str) (scope : Scope) (zz : Str) (cl : List (Str × Addr)) (C : Addr) (s₀ : Shared) (H₀ : Hp) (ex : List Addr) : Cx :=
  { X with N := Nc, s₀ := s₀, H₀ := H₀, env := compEnvC scope cl C X.env, outer := X.stack, ex := ex, fn := fun x => x == zz, pn := [], xe := fun _ _ => False }
structure CompOkZ (X : Cx) (scope : Scope) (Nc : List Str) (cap : List (Option Nat)) (zz : Str) : Prop where
  kind : scope.kind = .function
  one : cellsIn scope.names = [zz]
  zc : scope.names.lookup zz = some .cell
  loc : ∀ y ∈ scope.names, y.2 = .local → scope.names.lookup y.1 = some .local
  free : ∀ y ∈ scope.names, y.2 = .free → X.env.kindOf y.1 = some .cell ∨ X.env.kindOf y.1 = some .free
  len : cap.length = Nc.length
  at_ : ∀ (i j : Nat) (x : Str), cap[i]? = some (some j) → Nc[i]? = some x → X.N[j]? = some x ∧ scope.names.lookup x = some .free
theorem CompOkZ.only {X : Cx} {scope : Scope} {Nc : List Str} {cap : List (Option Nat)} {zz : Str} (C : CompOkZ X scope Nc cap zz) (x : Str) (h : (x, NameKind.cell) ∈ scope.names) : x = zz := by
  have : x ∈ cellsIn scope.names := List.mem_map.mpr ⟨_, List.mem_filter.mpr ⟨h, rfl⟩, rfl⟩
  rw [C.one] at this
  simpa using this
section
variable {X : Cx} {tg iter elt : Expr} {ifs : List Expr} {scope : Scope} {Nc : List Str} {cap : List (Option Nat)} {pos : Pos} {f : Env → Option (List D)} {g : Env → D → Option Env} {t : Env → Option Bool} {fe : Env → Option D}
theorem comp_coreZ {zz : Str} (C : CompOkZ X scope Nc cap zz) (tame : Tame cap g) (hc : X.calm = true) (hi : SI X tg iter f)
    (hb : ∀ cl C s₀ H₀ ex, SG (cxCompZ X Nc scope zz cl C s₀ H₀ ex) tg g ∧ Tests (cxCompZ X Nc scope zz cl C s₀ H₀ ex) ifs t ∧ SE (cxCompZ X Nc scope zz cl C s₀ H₀ ex) elt fe)
    (hs : ∀ x, foldedSetIterable iter X.env x = pure x) {pos' : Pos}
    {use : Option (Value → Sem Unit)} {pins : List (Addr × Obj)} {s : Shared} {σ : L2.St} {H : Hp} {Q : Value → Shared → Prop} {O W : List Addr} {ρ : Env} {ds ys : List D} (I : Inv X pins σ H s) (sr : SR X.K O W ρ σ H) (e : f ρ = some ds) (ec : compF g t fe (selF cap ρ) ds = some ys) (z : ys.length ≤ big)
    (fin : ∀ (L Ca : Addr) (xs : List V) (H' : Hp) (s' : Shared) (m : Str → Option Value), Inv X pins σ H' s' → H L = none → Same H H' → H' L = some (.lst xs) → Reps X.K (hid (O ++ (W ++ [L])) H') ys xs → s'.heap.Ns Ca m → FpOk X pins H' Ca →
      compPost (model X.prog X.w) X.A X.xe use Q (.ref L) Ca (.ok .next) s') :
    wpAny (model X.prog X.w) X.A (comprehension (.ListComp elt [⟨tg, iter, ifs, 0⟩] scope pos) scope X.env pos' (newList []) false (eval iter X.env) use) Q X.xe s := by
  have hcl : closureFor scope X.env = pure (clOf X.env scope.names []) := closureFor_of fun y hy hf => I.ok.has y.1 (C.free y hy hf)
  refine wpAny_comprehension_free (use := use) (gs := []) rfl hs hcl C.kind C.loc ?_
  refine thn (hi pins s σ H (fun J H1 => Same H H1 ∧ Yields X.K O W J ds H1) I ⟨O, W, ρ, ds, sr, e, fun J H1 s1 y => ⟨s1, y⟩⟩) fun v s1 h1 => thn h1 fun itv s2 h2 => ?_
  obtain ⟨it, fp, tn, J, H2, rfl, I2, T, st2, f2, sm, y⟩ := h2
  refine wpAny_newObj_type (newEnvZ C.one (fun h₁ hns₁ hsb₁ hcl₁ => ?_))
  dsimp only at hns₁ hsb₁ hcl₁ ⊢
  generalize eH3 : s2.heap.push { cls := .type "list", dict := none, data := .seq ([] : List Value).toArray } = h3 at hns₁ hsb₁ hcl₁ ⊢
  have I3 : Inv X pins σ (upd H2 s2.heap.objs.size (.lst [])) { s2 with heap := h3 } := by
    rw [← eH3]
    exact I2.laid (t' := s2.toks) (fun b u e => Heap.get?_push_of_some _ e) (Nat.le_refl _) ⟨by simp, [], 0, .nil, Heap.get?_push_size _ rfl⟩
  have nL : H2 s2.heap.objs.size = none := I2.hok.fresh (Nat.le_refl _)
  have nLH : H s2.heap.objs.size = none := by
    cases q : H s2.heap.objs.size with
    | none => rfl
    | some o => rw [sm _ o q] at nL; cases nL
  generalize eL : s2.heap.objs.size = L at I3 nL nLH ⊢
  have hlt3 : ∀ {b : Addr} {o : Obj}, h3.get? b = some o → b < h3.objs.size := fun e => Heap.lt_size e
  have kp : ∀ b u, h3.get? b = some u → h₁.get? b = some u := hsb₁
  have objs : ∀ b ∈ fp, b < s2.heap.objs.size := fun b hb => by
    obtain ⟨o, e, _⟩ := T.obj _ _ st2 b hb
    exact Heap.lt_size e
  have sz3 : s2.heap.objs.size < h3.objs.size := by rw [← eH3, Heap.size_push]; exact Nat.lt_succ_self _
  have keep3 : ∀ b u, s2.heap.get? b = some u → h3.get? b = some u := fun b u e => by rw [← eH3]; exact Heap.get?_push_of_some _ e
  have fpL : ∀ b ∈ fp, b ≠ L := fun b hb q => by rw [← eL] at q; exact absurd (objs b hb) (by rw [q]; exact Nat.lt_irrefl _)
  obtain ⟨hg, ht, he⟩ := hb ((zz, h3.objs.size + 1) :: clOf X.env scope.names []) h3.objs.size { s2 with heap := h3 } (upd H2 L (.lst [])) fp
  have old : ∀ (x : Str) (c : Addr), (clOf X.env scope.names []).lookup x = some c → c < h3.objs.size := fun x c h => by
    obtain ⟨v, o, eo, ed⟩ := I3.cell x c (clOf_some h)
    exact Heap.lt_size eo
  have ok : (cxCompZ X Nc scope zz ((zz, h3.objs.size + 1) :: clOf X.env scope.names []) h3.objs.size { s2 with heap := h3 } (upd H2 L (.lst [])) fp).Ok := by
    refine ⟨I3.ok.mod, C.kind, I3.ok.glob, I3.ok.blt, Nat.le_refl _, fun x y c h1 h2 => ?_, fun x hx => ?_, (fun x c hf hcx => ?_), I3.ok.hd, I3.ok.frames, .inl rfl, fun b hb => ⟨?_, fun x c h => ?_⟩, I3.bs, Nat.le_trans I3.ok.bsz I3.sz, fun b o hb hx => ?_, fun b hb hx => ?_, I3.stack, I3.stkFree⟩
    · rcases lookZ h1 with ⟨rfl, rfl⟩ | q1
      · rcases lookZ h2 with ⟨rfl, _⟩ | q2
        · rfl
        · exact absurd (old _ _ q2) (Nat.lt_asymm (Nat.lt_succ_self _))
      · rcases lookZ h2 with ⟨rfl, rfl⟩ | q2
        · exact absurd (old _ _ q1) (Nat.lt_asymm (Nat.lt_succ_self _))
        · exact I3.ok.inj x y c (clOf_some q1) (clOf_some q2)
    · have hx' : (x, NameKind.free) ∈ scope.names ∨ (x, NameKind.cell) ∈ scope.names := by
        rcases hx with q | q
        · exact relabel_inv (env := X.env) q (.inl rfl)
        · exact relabel_inv (env := X.env) q (.inr rfl)
      rcases hx' with q | q
      · obtain ⟨c, hcc⟩ := I3.ok.has x (C.free _ q rfl)
        exact lookZ_has (clOf_lookup q hcc)
      · have e := C.only _ q
        subst e
        exact ⟨_, lookZ_self⟩
    · have e : x = zz := by simpa using hf
      subst e
      have e2 : h3.objs.size + 1 = c := Option.some.inj ((lookZ_self (zz := x) (c0 := h3.objs.size + 1) (cl := clOf X.env scope.names [])).symm.trans hcx)
      rw [← e2]; exact Nat.le_succ _
    · exact Nat.ne_of_lt (Nat.lt_trans (objs b hb) sz3)
    · rcases lookZ h with ⟨rfl, rfl⟩ | q
      · intro q; exact absurd (Nat.lt_trans (objs b hb) sz3) (by rw [← q]; exact Nat.lt_asymm (Nat.lt_succ_self _))
      · exact (f2 b hb).2.2.2.2.1 x c (clOf_some q)
    · rcases (f2 b hx).2.2.2.1 with q | q
      · exact I3.ok.noex b o hb q
      · exact absurd (Nat.lt_of_lt_of_le (Heap.lt_size (I3.ok.bs b o hb).1) q) (Nat.lt_irrefl _)
    · rcases List.mem_cons.mp (I3.stkSub b hx) with q | q
      · exact (f2 b hb).2.1 q
      · exact (f2 b hb).2.2.1 q
  have I4 : Inv (cxCompZ X Nc scope zz ((zz, h3.objs.size + 1) :: clOf X.env scope.names []) h3.objs.size { s2 with heap := h3 } (upd H2 L (.lst [])) fp) [] (selV cap σ) (upd H2 L (.lst [])) { s2 with heap := h₁, toks := s2.toks + ([] : List (Str × Value)).length } := by
    refine ⟨ok, rfl, I3.bare, Un.kept kp, ⟨_, hns₁, fun i x v hN hσ hv => ?_⟩, fun x c h => ?_, ?_, fun x c h => ?_, fun p hp => absurd (show p ∈ ([] : List (Addr × Obj)) from hp) (by simp), I3.hok.kept kp, ?_⟩
    · unfold selV at hσ
      rw [List.getElem?_map] at hσ
      cases q : cap[i]? with
      | none => rw [q] at hσ; cases hσ
      | some o =>
        rw [q] at hσ
        cases o with
        | none => cases hσ
        | some j =>
          obtain ⟨hNj, hfree⟩ := C.at_ i j x q hN
          have hσj : σ[j]? = some (some v) := by
            cases r : σ[j]? with
            | none => simp [r] at hσ
            | some o => simp [r] at hσ; rw [hσ]
          obtain ⟨m, hn, hl⟩ := I3.loc
          have mem := PySem.mem_of_lookup hfree
          have hk := C.free _ mem rfl
          have hvx : Vis X.env.scope x := .inr hk
          obtain ⟨u, ru, lk⟩ := hl j x v hNj hσj hvx
          refine ⟨u, ru, ?_⟩
          rcases lk with ⟨k1, _⟩ | ⟨k1, c, e1, e2⟩
          · rcases hk with k2 | k2
            · rw [k1] at k2; cases k2
            · rw [k1] at k2; cases k2
          · have hkY := relabel_free (env := X.env) hfree
            have nz : x ≠ zz := fun e => by
              rw [e, C.zc] at hfree; cases hfree
            refine .inr ⟨hkY, c, lookZ_of nz (clOf_lookup mem e1), ?_⟩
            obtain ⟨o, eo, ed⟩ := e2
            exact ⟨o, kp c o eo, ed⟩
    · rcases lookZ h with ⟨rfl, rfl⟩ | q
      · exact ⟨none, hcl₁⟩
      · obtain ⟨v, o, eo, ed⟩ := I3.cell x c (clOf_some q)
        exact ⟨v, o, kp c o eo, ed⟩
    · exact I3.hok.fresh (Nat.le_refl _)
    · rcases lookZ h with ⟨rfl, rfl⟩ | q
      · exact I3.hok.fresh (Nat.le_succ _)
      · exact I3.freeC x c (clOf_some q)
    · simp [selV, C.len]
  have srY : ∀ H', Same H2 H' → H' L ≠ none → SR X.K (O ++ (W ++ [L])) [] (selF cap ρ) (selV cap σ) H' := fun H' s' hl => (sel_sr cap sr).hide nLH (sm.trans s') hl (fun a ha => by
    rcases List.mem_append.mp ha with q | q
    · exact .inl (List.mem_append_left _ q)
    · rcases List.mem_append.mp q with q | q
      · exact .inl (List.mem_append_right _ q)
      · exact .inr (by simpa using q)) fun a ha => by
    rcases List.mem_append.mp ha with q | q
    · exact List.mem_append_left _ q
    · exact List.mem_append_right _ (List.mem_append_left _ q)
  have fmW : ∀ H', Same H2 H' → Fm W H2 H' (W ++ [L]) := fun H' s' => ⟨fun b o e _ => s' b o e, fun a ha => by
    rcases List.mem_append.mp ha with q | q
    · exact .inl q
    · have : a = L := by simpa using q
      subst this
      exact .inr nL⟩
  have stat : ∀ {H' : Hp}, (∀ b ∈ fp, H' b = none) → ∀ b ∈ fp, FpOk (cxCompZ X Nc scope zz ((zz, h3.objs.size + 1) :: clOf X.env scope.names []) h3.objs.size { s2 with heap := h3 } (upd H2 L (.lst [])) fp) [] H' b := fun hn b hb =>
    ⟨hn b hb, (ok.exf b hb).1, ok.exfs b hb, .inl hb, fun x c h q => (ok.exf b hb).2 x c h q, fun p hp => absurd (show p ∈ ([] : List (Addr × Obj)) from hp) (by simp)⟩
  have loop : ∀ s4 : Shared, s4 = { s2 with heap := h₁, toks := s2.toks + ([] : List (Str × Value)).length } →
      codeAny (model X.prog X.w) X.A (.compLoop (.ListComp elt [⟨tg, iter, ifs, 0⟩] scope pos) 0 (.ref it) (.ref L) (compEnvC scope ((zz, h3.objs.size + 1) :: clOf X.env scope.names []) h3.objs.size X.env)) (compPost (model X.prog X.w) X.A X.xe use Q (.ref L) h3.objs.size) s4 := by
    rintro s4 rfl
    refine comp_loop (fun n s' => ∃ i σ' H' xs ys1 ys2, Inv (cxCompZ X Nc scope zz ((zz, h3.objs.size + 1) :: clOf X.env scope.names []) h3.objs.size { s2 with heap := h3 } (upd H2 L (.lst [])) fp) [] σ' H' s' ∧ SR X.K (O ++ (W ++ [L])) [] (selF cap ρ) σ' H' ∧ tn i s'.heap ∧ (∀ b ∈ fp, H' b = none) ∧ i ≤ ds.length ∧ n = ds.length - i ∧
      Same H2 H' ∧ H' L = some (.lst xs) ∧ Reps X.K (hid (O ++ (W ++ [L])) H') ys1 xs ∧ compF g t fe (selF cap ρ) (ds.drop i) = some ys2 ∧ ys = ys1 ++ ys2) ?_ ds.length ?_
    · rintro n s5 ⟨i, σ5, H5, xs, ys1, ys2, I5, sr5, st5, fr5, hi5, rfl, sm5, hL5, r5, ec5, ey5⟩
      obtain ⟨yi, ystop⟩ := y (W ++ [L]) H5 (fmW H5 sm5) fun a ha => sr5.live a (List.mem_append_left _ ha)
      by_cases hlt : i < ds.length
      · have ed : ds.drop i = ds[i] :: ds.drop (i + 1) := List.drop_eq_getElem_cons hlt
        obtain ⟨go, yld⟩ := yi i ds[i] (by simp [hlt])
        rw [ed] at ec5
        refine thn (T.item (cxCompZ X Nc scope zz ((zz, h3.objs.size + 1) :: clOf X.env scope.names []) h3.objs.size { s2 with heap := h3 } (upd H2 L (.lst [])) fp) rfl rfl rfl hc i [] s5 σ5 H5 (fun _ _ => False) I5 (stat fr5) st5 go) fun r s6 h6 => ?_
        obtain ⟨u, rfl, h6⟩ := h6
        refine thn h6 fun _ s7 h7 => ?_
        obtain ⟨x, H7, I7, rx, y7, st7, fr7⟩ := h7
        obtain ⟨s57, rep7⟩ := yld x H7 y7
        have I7' := I7.pinned (stat fr7) (T.obj _ _ st7)
        unfold compF at ec5
        cases eg : g (selF cap ρ) ds[i] with
        | none => rw [eg] at ec5; cases ec5
        | some ρ1 =>
          rw [eg] at ec5
          obtain ⟨tl, tm⟩ := tame ρ ds[i] ρ1 eg
          refine thn (hg _ s7 σ5 H7 x u (fun σ' H' => SR X.K (O ++ (W ++ [L])) [] ρ1 σ' H' ∧ Same H7 H') I7' rx ⟨O ++ (W ++ [L]), [], selF cap ρ, ds[i], ρ1, sr5.mono s57, by rw [List.append_nil]; exact rep7, eg, fun σ' H' a b => ⟨a, b⟩⟩) fun _ s8 h8 => ?_
          obtain ⟨σ8, H8, I8, sr8, s78⟩ := h8
          have again : ∀ {σ9 : L2.St} {H9 : Hp} {s9 : Shared} (xs9 : List V) (ys9 ysr : List D), Inv (cxCompZ X Nc scope zz ((zz, h3.objs.size + 1) :: clOf X.env scope.names []) h3.objs.size { s2 with heap := h3 } (upd H2 L (.lst [])) fp) ([] ++ pinsAt fp s7.heap) σ9 H9 s9 → SR X.K (O ++ (W ++ [L])) [] ρ1 σ9 H9 → Same H2 H9 → H9 L = some (.lst xs9) →
              Reps X.K (hid (O ++ (W ++ [L])) H9) ys9 xs9 → compF g t fe (selF cap ρ) (ds.drop (i + 1)) = some ysr → ys = ys9 ++ ysr → ∃ m, m < ds.length - i ∧ ∃ i' σ' H' xs' ys1' ys2', Inv (cxCompZ X Nc scope zz ((zz, h3.objs.size + 1) :: clOf X.env scope.names []) h3.objs.size { s2 with heap := h3 } (upd H2 L (.lst [])) fp) [] σ' H' s9 ∧ SR X.K (O ++ (W ++ [L])) [] (selF cap ρ) σ' H' ∧ tn i' s9.heap ∧ (∀ b ∈ fp, H' b = none) ∧ i' ≤ ds.length ∧ m = ds.length - i' ∧
              Same H2 H' ∧ H' L = some (.lst xs') ∧ Reps X.K (hid (O ++ (W ++ [L])) H') ys1' xs' ∧ compF g t fe (selF cap ρ) (ds.drop i') = some ys2' ∧ ys = ys1' ++ ys2' := fun {σ9 H9 s9} xs9 ys9 ysr I9 sr9 sm9 hL9 r9 ec9 ey9 => by
            refine ⟨ds.length - (i + 1), by omega, i + 1, σ9, H9, xs9, ys9, ysr, I9.unpinned, sr9.weak tl tm, T.keep _ _ _ st7 fun b hb o e => (I9.pin (b, o) (List.mem_append_right _ (List.mem_append_right _ (mem_pinsAt hb e)))).1, fun b hb => ?_, hlt, rfl, sm9, hL9, r9, ec9, ey9⟩
            obtain ⟨o, e, d⟩ := T.obj _ _ st7 b hb
            exact (I9.pin (b, o) (List.mem_append_right _ (List.mem_append_right _ (mem_pinsAt hb e)))).2.1
          have sm8 : Same H5 H8 := s57.trans s78
          have tests : ∀ (b : Bool), t ρ1 = some b → wpAny (model X.prog X.w) X.A (forIn ifs true fun c r => if r = true then do let ok ← isTrue c (compEnvC scope ((zz, h3.objs.size + 1) :: clOf X.env scope.names []) h3.objs.size X.env) (eval c (compEnvC scope ((zz, h3.objs.size + 1) :: clOf X.env scope.names []) h3.objs.size X.env)); pure (ForInStep.yield ok) else pure (ForInStep.yield r))
              (fun b' s' => b' = b ∧ ∃ H', Inv (cxCompZ X Nc scope zz ((zz, h3.objs.size + 1) :: clOf X.env scope.names []) h3.objs.size { s2 with heap := h3 } (upd H2 L (.lst [])) fp) ([] ++ pinsAt fp s7.heap) σ8 H' s' ∧ Same H8 H') (fun _ _ => False) s8 := fun b hbt => by
            cases ht with
            | nil =>
              cases hbt
              exact wpAny_tests_nil ⟨rfl, H8, I8, .refl H8⟩
            | one hT =>
              refine wpAny_tests_one (thn (hT _ s8 σ8 H8 (fun b' H' => b' = b ∧ Same H8 H') I8 ⟨O ++ (W ++ [L]), [], ρ1, b, sr8, hbt, fun H' s' => ⟨rfl, s'⟩⟩) fun b' s' h' => ?_)
              obtain ⟨H', I', e', s''⟩ := h'
              exact ⟨e', H', I', s''⟩
          cases et : t ρ1 with
          | none => simp [et] at ec5
          | some b =>
            simp only [et] at ec5
            refine thn (tests b et) fun b' s9 h9 => ?_
            obtain ⟨rfl, H9, I9, s89⟩ := h9
            have sm9 : Same H5 H9 := sm8.trans s89
            cases b' with
            | false =>
              rw [if_neg Bool.false_ne_true]
              exact again xs ys1 ys2 I9 (sr8.mono s89) (sm5.trans sm9) (sm9 _ _ hL5) (r5.mono (hid_same sm9)) ec5 ey5
            | true =>
              rw [if_pos rfl]
              cases ee : fe ρ1 with
              | none => simp [ee] at ec5
              | some yd =>
                cases er : compF g t fe (selF cap ρ) (ds.drop (i + 1)) with
                | none => simp [ee, er] at ec5
                | some yr =>
                  simp only [ee, er] at ec5
                  have ec5' : yd :: yr = ys2 := Option.some.inj ec5
                  subst ec5'
                  refine thn (he _ s9 σ8 H9 (fun v' H' => Same H9 H' ∧ Rep X.K (hid (O ++ (W ++ [L])) H') yd v') I9 ⟨O ++ (W ++ [L]), [], ρ1, yd, sr8.mono s89, ee, fun v' H' s' r' => ⟨s', by rw [List.append_nil] at r'; exact r'⟩⟩) fun u' s10 h10 => ?_
                  obtain ⟨v', H10, I10, rv', s910, r10⟩ := h10
                  have sm10 : Same H5 H10 := sm9.trans s910
                  have hL10 := sm10 _ _ hL5
                  refine thn (mt_append _ s10 σ8 H10 (.ref L) [v'] (.ref L) [u'] (fun _ H' => H' = upd H10 L (.lst (xs ++ [v']))) I10 rfl (.cons rv' .nil) ⟨L, xs, v', rfl, rfl, hL10, ?_, rfl⟩) fun _ s11 h11 => ?_
                  · rw [← r5.length]
                    have : ys1.length < ys.length := by rw [ey5]; simp
                    exact Nat.lt_of_lt_of_le (Nat.lt_of_lt_of_le this z) (by rw [sizeLine_eq]; decide)
                  · obtain ⟨_, H11, I11, _, rfl⟩ := h11
                    have hideq : hid (O ++ (W ++ [L])) (upd H10 L (.lst (xs ++ [v']))) = hid (O ++ (W ++ [L])) H10 := by
                      funext c
                      by_cases zc : c ∈ O ++ (W ++ [L])
                      · rw [hid_in zc, hid_in zc]
                      · rw [hid_out zc, hid_out zc, upd_ne]
                        rintro rfl
                        exact zc (List.mem_append_right _ (List.mem_append_right _ List.mem_cons_self))
                    have sr10 : SR X.K (O ++ (W ++ [L])) [] ρ1 σ8 H10 := sr8.mono (s89.trans s910)
                    refine again (xs ++ [v']) (ys1 ++ [yd]) yr I11 ⟨sr10.len, fun i' c ei => ?_, fun i' j' ds' es' a' n' => sr10.apart i' j' ds' es' a' n', fun a' ha' => ?_⟩ (fun b o eb => ?_) upd_same ?_ er (by rw [ey5]; simp)
                    · have q := sr10.rel i' c ei
                      cases c with
                      | emp => trivial
                      | ref _ => exact q
                      | val d' =>
                        obtain ⟨v0, e0, r0⟩ := q
                        refine ⟨v0, e0, ?_⟩
                        rw [List.append_nil] at r0 ⊢
                        rw [hideq]
                        exact r0
                      | own ds' => obtain ⟨_, _, _, w', _⟩ := q; cases w'
                    · by_cases za : a' = L
                      · subst za; rw [upd_same]; intro q; cases q
                      · rw [upd_ne za]; exact sr10.live a' ha'
                    · rw [upd_ne]
                      · exact sm10 _ _ (sm5 b o eb)
                      · rintro rfl; rw [nL] at eb; cases eb
                    · rw [hideq]
                      exact Reps.append (r5.mono (hid_same sm10)) (.cons r10 .nil)
      · have ei : i = ds.length := by omega
        subst ei
        rw [List.drop_length] at ec5
        have ec5' : ([] : List D) = ys2 := Option.some.inj ec5
        subst ec5'
        rw [List.append_nil] at ey5
        subst ey5
        refine thn (T.done (cxCompZ X Nc scope zz ((zz, h3.objs.size + 1) :: clOf X.env scope.names []) h3.objs.size { s2 with heap := h3 } (upd H2 L (.lst [])) fp) rfl rfl rfl hc ds.length [] s5 σ5 H5 (fun _ _ => False) I5 (stat fr5) st5 ystop) fun r s6 h6 => ?_
        obtain ⟨rfl, I6⟩ := h6
        obtain ⟨m, hnm, _⟩ := I6.loc
        refine fin L h3.objs.size xs H5 s6 m (I3.call' I6.os I6.base I6.hok I6.bare fun b hb => ⟨(f2 b hb).2.2.2.1, (f2 b hb).2.1, (f2 b hb).2.2.2.2.1, (f2 b hb).2.2.2.2.2⟩) nLH (sm.trans sm5) hL5 r5 hnm (I3.fpOk (Nat.le_refl _) I6.free)
    · refine ⟨0, selV cap σ, upd H2 L (.lst []), [], [], ys, I4, srY _ (same_upd nL _) (by rw [upd_same]; intro q; cases q), T.keep _ _ _ st2 fun b hb o e => kp b o (keep3 b o e), fun b hb => ?_, Nat.zero_le _, rfl, same_upd nL _, upd_same, rfl, ec, rfl⟩
      rw [upd_ne (fpL b hb)]
      exact (f2 b hb).1
  have st4 : tn 0 h₁ := T.keep _ _ _ st2 fun b hb o e => kp b o (keep3 b o e)
  rw [← eL] at loop ⊢
  exact codeAny_compStart_list (loop _ rfl) (T.self _ 0 _ _ _ st4 (loop _ rfl))
end
section
variable {X : Cx} {tg iter elt : Expr} {ifs : List Expr} {scope : Scope} {Nc : List Str} {cap : List (Option Nat)} {pos : Pos} {f : Env → Option (List D)} {g : Env → D → Option Env} {t : Env → Option Bool} {fe : Env → Option D}
theorem ss_setCZ {i : Nat} {x : Str} {py spos : Pos} (hN : X.N.Nodup) (hi' : X.N[i]? = some x) (hx : Loc X.env.scope x) {zz : Str} (C : CompOkZ X scope Nc cap zz) (tame : Tame cap g) (hc : X.calm = true) (hi : SI X tg iter f)
    (hb : ∀ cl C s₀ H₀ ex, SG (cxCompZ X Nc scope zz cl C s₀ H₀ ex) tg g ∧ Tests (cxCompZ X Nc scope zz cl C s₀ H₀ ex) ifs t ∧ SE (cxCompZ X Nc scope zz cl C s₀ H₀ ex) elt fe)
    (hsw : swapsWith (.ListComp elt [⟨tg, iter, ifs, 0⟩] scope pos) (some (.Name x py)) spos.line X.env = pure true := by rfl)
    (hf : X.fn x = true ∨ X.env.scope.names.lookup x = some .local := by first | exact .inl rfl | exact .inr rfl | assumption)
    (hs : ∀ x, foldedSetIterable iter X.env x = pure x := by intro _; rfl) : SS X (.Assign [.Name x py] (.ListComp elt [⟨tg, iter, ifs, 0⟩] scope pos) spos) (sSet i (eComp f cap g t fe)) := by
  intro pins s σ H D I ⟨O, W, ρ, fl, sr, e, k⟩
  unfold sSet at e
  cases e0 : eComp f cap g t fe ρ with
  | none => rw [e0] at e; cases e
  | some dy =>
    rw [e0] at e
    cases e
    unfold eComp at e0
    cases e00 : nComp f cap g t fe ρ with
    | none => rw [e00] at e0; cases e0
    | some ys =>
      rw [e00] at e0
      cases e0
      obtain ⟨ds, e1, e2, z⟩ := nComp_some e00
      rw [exec_Assign_Name_used _ _ _ _ hsw]
      refine wpAny_bind (wpAny_standAt (wpAny_bind ?_))
      show wpAny _ X.A (do let _ ← comprehension (.ListComp elt [⟨tg, iter, ifs, 0⟩] scope pos) scope X.env _ (newList []) false (eval iter X.env) (some (assign (.Name x py) X.env))) _ _ s
      refine wpAny_bind (thn (comp_coreZ (use := some (assign (.Name x py) X.env)) (Q := fun _ s' => SP X pins D .next s') C tame hc hi hb hs I sr e1 e2 z fun L Ca xs H' s' m I' nL sm hL r hn fp => ?_) fun _ s' hq => wpAny_pure (wpAny_pure hq))
      show wpAny _ X.A (assign (.Name x py) X.env (.ref L)) _ _ _
      refine wpAny_assign_Name (store_ok2 (v := .ref L) I' hN hi' hx rfl (fun s'' I'' h_0 => ?_) hf)
      obtain ⟨a, sb, ha⟩ := h_0
      have neC : Ca ≠ a := by
        rcases ha with rfl | ha
        · exact fp.2.1
        · exact fun q => fp.2.2.2.2.1 x a ha q.symm
      refine ⟨m, hn.sameBut sb neC, fun h' sb' => ⟨σ.set i (some (.ref L)), H', back_x I'' fp sb', ?_⟩⟩
      exact k W _ H' ((sr.mono sm).put (own_rep sr nL hL r)) (.of_same sm)
end
end Fn
set_option Elab.async false
set_option linter.all false
set_option maxRecDepth 100000
namespace Fn
open PySem L2 PySem.Spec PyProof.Rows
noncomputable def compOkZB (N : List Str) (sc scope : Scope) (Nc : List Str) (cap : List (Option Nat)) (zz : Str) : Bool :=
  decide (scope.kind = .function) && decide (cellsIn scope.names = [zz]) && decide (scope.names.lookup zz = some .cell) && scope.names.all (fun y => decide (y.2 ≠ .local) || decide (scope.names.lookup y.1 = some .local)) &&
  scope.names.all (fun y => decide (y.2 ≠ .free) || decide (sc.names.lookup y.1 = some .cell) || decide (sc.names.lookup y.1 = some .free)) && decide (cap.length = Nc.length) &&
  (List.range Nc.length).all (fun i => match cap[i]?, Nc[i]? with | some (some j), some x => decide (N[j]? = some x) && decide (scope.names.lookup x = some .free) | _, _ => true)
theorem comp_okZ {X : Cx} {N : List Str} {sc scope : Scope} {Nc : List Str} {cap : List (Option Nat)} {zz : Str} (hN : X.N = N) (hsc : X.env.scope = sc) (h : compOkZB N sc scope Nc cap zz = true) : CompOkZ X scope Nc cap zz := by
  subst hN hsc
  unfold compOkZB at h
  simp only [Bool.and_eq_true, List.all_eq_true, Bool.or_eq_true, decide_eq_true_eq] at h
  obtain ⟨⟨⟨⟨⟨⟨h1, h2⟩, h2'⟩, h3⟩, h4⟩, h5⟩, h6⟩ := h
  refine ⟨h1, h2, h2', fun y hy hl => ?_, fun y hy hf => ?_, h5, fun i j x e1 e2 => ?_⟩
  · rcases h3 y hy with q | q
    · exact absurd hl q
    · exact q
  · rcases h4 y hy with (q | q) | q
    · exact absurd hf q
    · exact .inl q
    · exact .inr q
  · have hi : i < Nc.length := (List.getElem?_eq_some_iff.mp e2).1
    have q := h6 i (List.mem_range.mpr hi)
    rw [e1, e2] at q
    simpa using q
theorem relabel_cell {env : PySem.Env} : ∀ {names : List (Str × NameKind)} {x : Str}, names.lookup x = some .cell →
    (names.map fun (n, k) => if (k == NameKind.free && env.scope.kind == .function && env.kindOf n == some .cell) then (n, NameKind.cell) else (n, k)).lookup x = some .cell
  | [], _, h => by simp at h
  | (n, k) :: r, x, h => by
    show List.lookup x ((if (k == NameKind.free && env.scope.kind == .function && env.kindOf n == some .cell) = true then (n, NameKind.cell) else (n, k)) :: _) = _
    rw [List.lookup_cons] at h
    by_cases c : (k == NameKind.free && env.scope.kind == .function && env.kindOf n == some .cell) = true
    · rw [if_pos c, List.lookup_cons]
      cases q : x == n with
      | true => rfl
      | false => rw [q] at h; exact relabel_cell h
    · rw [if_neg c, List.lookup_cons]
      cases q : x == n with
      | true => rw [q] at h; exact h
      | false => rw [q] at h; exact relabel_cell h
theorem comp_ok_in {X : Cx} {sc scope : Scope} {Nz Nc : List Str} {cap : List (Option Nat)} {zz : Str} {cl : List (Str × Addr)} {C : Addr} {s₀ : Shared} {H₀ : Hp} {ex : List Addr} (h : compOkB Nz sc scope Nc cap = true) : CompOk (cxCompZ X Nz sc zz cl C s₀ H₀ ex) scope Nc cap := by
  unfold compOkB at h
  simp only [Bool.and_eq_true, List.all_eq_true, Bool.or_eq_true, decide_eq_true_eq] at h
  obtain ⟨⟨⟨⟨⟨h1, h2⟩, h3⟩, h4⟩, h5⟩, h6⟩ := h
  refine ⟨h1, h2, fun y hy hl => ?_, fun y hy hf => ?_, h5, fun i j x e1 e2 => ?_⟩
  · rcases h3 y hy with q | q
    · exact absurd hl q
    · exact q
  · rcases h4 y hy with (q | q) | q
    · exact absurd hf q
    · exact .inl (relabel_cell (env := X.env) q)
    · exact relabel_free (env := X.env) q
  · have hi : i < Nc.length := (List.getElem?_eq_some_iff.mp e2).1
    have q := h6 i (List.mem_range.mpr hi)
    rw [e1, e2] at q
    simpa using q
noncomputable def tFSN (K : PySem.W.Frag) (f : Env → Option (List D)) : TS := fun Dn σ H => ∃ O W ρ ys, SR K O W ρ σ H ∧ f ρ = some ys ∧
  ∀ W' p xs H', Fm W H H' W' → (∀ o, H p = some o → p ∈ W) → H' p = some (.lst xs) → Reps K (hid (O ++ [p]) H') ys xs → Dn.rt (.ref p) H'
noncomputable abbrev SSsN (X : Cx) (sts : List Stmt) (f : Env → Option (List D)) : Prop := PSs X sts (tFSN X.K f)
noncomputable def nSeq (s : Env → Option Fl) (f : Env → Option (List D)) : Env → Option (List D) := fun ρ => match s ρ with
  | some (.nx ρ') => f ρ'
  | _ => none
section
variable {X : Cx} {st : Stmt} {rest : List Stmt} {s : Env → Option Fl} {n f : Env → Option (List D)} {e : Expr} {pos : Pos}
theorem sssN_ret (he : SN X e n) : SSsN X [.Return (some e) pos] n := pss_conv (pss_one (ps_ret he)) fun D σ H ⟨O, W, ρ, ys, sr, e, k⟩ =>
  ⟨O, W, ρ, ys, sr, e, fun p xs H' np sm hp r => k W p xs H' (.of_same sm) (fun o q => by rw [np] at q; cases q) hp (r.mono (hid_less fun a ha => by
    rcases List.mem_append.mp ha with q | q
    · exact List.mem_append_left _ q
    · exact List.mem_append_right _ (List.mem_append_right _ q)))⟩
theorem sssN_cons (h1 : SS X st s) (h2 : SSsN X rest f) : SSsN X (st :: rest) (nSeq s f) := pss_conv (pss_cons h1 h2) fun D σ H h_0 => by
  obtain ⟨O, W, ρ, ys, sr, e, k⟩ := h_0
  unfold nSeq at e
  cases e1 : s ρ with
  | none => rw [e1] at e; cases e
  | some fl1 =>
    rw [e1] at e
    refine ⟨O, W, ρ, fl1, sr, e1, ?_⟩
    cases fl1 with
    | nx ρ' => exact fun W' σ' H' sr' fm => ⟨O, W', ρ', ys, sr', e, fun W2 p xs H2 fm2 hp hx r => k W2 p xs H2 (fm.trans fm2) (fun o q => by
        by_cases z : p ∈ W
        · exact z
        · have := hp o (fm.keep p o q z)
          rcases fm.new p this with y | y
          · exact y
          · rw [y] at q; cases q) hx r⟩
    | rt d => cases e
    | bk ρ' => cases e
    | ct ρ' => cases e
end
noncomputable def runN (n N : Nat) (b : Env → Option (List D)) : List D → Option (List D) := fun ds => if ds.length = n then b (ds.map Cel.val ++ List.replicate (N - n) Cel.emp) else none
noncomputable def spN (K : PySem.W.Frag) (G : List D → Option (List D)) : Sp := fun vs H Q _ => ∃ O ds ys, (∀ a ∈ O, H a ≠ none) ∧ Reps K (hid O H) ds vs ∧ G ds = some ys ∧ ∀ p xs H', H p = none → Same H H' → H' p = some (.lst xs) → Reps K (hid (O ++ [p]) H') ys xs → Q (.ref p) H'
theorem fn_defN {P : Program} {w : World} {K : PySem.W.Frag} {mg : Str → Option Value} {base : Heap} {x qual : Str} {st : Stmt} {f : Addr} {fd : FuncData} {N ps : List Str} {k : Nat} {b : Env → Option (List D)} (F : Fun K x qual st f fd) (S : FnScope N ps (defScope st))
    (hbody : ∀ (cdv : Value) (A : Around) (outer : List PySem.Env) (s : Shared) (H : Hp) (E : XK), Room k (A.deeper (envOfC qual (defScope st) s.heap.objs.size f cdv)) → SSsN (cxOf CX0 P w K mg base N qual (defScope st) f cdv A outer s H E).nox (defBody st) b) :
    FnOk P w K mg base CX0 (k + 1) f fd ps (spN K (runN ps.length N.length b)) := by
  refine F.ok S (fun vs H Q E h => ?_) (fun cdv A outer s H vs Q E hr h => ⟨_, hbody cdv A outer s H E hr, ?_⟩)
  · obtain ⟨O, ds, d, _, r, e, _⟩ := h
    unfold runN at e
    by_cases z : ds.length = ps.length
    · rw [← r.length]; exact z
    · rw [if_neg z] at e; cases e
  · obtain ⟨O, ds, ys, lv, r, e, kk⟩ := h
    unfold runN at e
    by_cases z : ds.length = ps.length
    · rw [if_pos z] at e
      rw [← z] at e
      refine ⟨O, [], _, ys, start_sr lv r, e, fun W' p xs H' fm hp hx rr => kk p xs H' ?_ fm.same hx rr⟩
      cases q : H p with
      | none => rfl
      | some o => exact absurd (hp o q) (by simp)
    · rw [if_neg z] at e; cases e
noncomputable def HasN (P : Program) (w : World) (K : PySem.W.Frag) (mg : Str → Option Value) (base : Heap) (x : Str) (k : Nat) (G : List D → Option (List D)) : Prop :=
  ∃ f fd ps, mg x = some (.ref f) ∧ PySem.W.keepIn K (.ref f) = true ∧ Binds K fd ps [] ∧ FnOk P w K mg base CX0 k f fd ps (spN K G)
theorem hasN_of {P : Program} {w : World} {K : PySem.W.Frag} {mg : Str → Option Value} {base : Heap} {x : Str} {st : Stmt} {f : Addr} {fd : FuncData} {N ps : List Str} {k n m : Nat} {b : Env → Option (List D)} (F : DefIn K mg x st ps f fd) (S : FnScope N ps (defScope st))
    (hbody : ∀ (cdv : Value) (A : Around) (outer : List PySem.Env) (s : Shared) (H : Hp) (E : XK), Room k (A.deeper (envOfC x (defScope st) s.heap.objs.size f cdv)) → SSsN (cxOf CX0 P w K mg base N x (defScope st) f cdv A outer s H E).nox (defBody st) b)
    (hn : ps.length = n := by rfl) (hm : N.length = m := by rfl) : HasN P w K mg base x (k + 1) (runN n m b) := by
  subst hn hm
  exact ⟨f, fd, ps, F.mg, F.fn.kp, F.bd, fn_defN F.fn S hbody⟩
noncomputable def nCall (G : List D → Option (List D)) (g : Env → Option (List D)) : Env → Option (List D) := fun ρ => match g ρ with
  | some ds => G ds
  | none => none
section
variable {X : Cx} {k : Nat} {x : Str} {p pos : Pos} {e : Expr} {es : List Expr} {g : Env → Option (List D)} {G : List D → Option (List D)}
theorem sn_callG (h : HasN X.prog X.w X.K X.mg X.base x k G) (hr : Room k X.A) (ha : SA X (e :: es) g) (hg : Gl X x := by rfl) (hdb : (x == ("__debug__" : Str)) = false := by decide) (he : starEach (e :: es) X.env = (false, eval e X.env) :: starEach es X.env := by rfl) (hpl : (backTo pos (starEach es X.env)).any (·.1) = false := by rfl) :
    SN X (.Call (.Name x p) (e :: es) [] pos) (nCall G g) := by
  obtain ⟨f, fd, ps, h1, h2, h3, h4⟩ := h
  refine pe_conv (pe_call (E := E0) h4 hr hg h1 h2 h3 .nil pass0 ha hdb he hpl) fun σ H Q h_0 => ?_
  obtain ⟨O, W, ρ, ys, sr, e, kk⟩ := h_0
  unfold nCall at e
  cases e1 : g ρ with
  | none => rw [e1] at e; cases e
  | some ds =>
    rw [e1] at e
    refine ⟨O, W, ρ, ds, sr, e1, fun vs H1 s1 r1 => ?_⟩
    refine ⟨O ++ W, ds, ys, (sr.mono s1).live, by rw [List.append_nil]; exact r1, e, fun p xs H' np sm hp r => ?_⟩
    exact kk p xs H' (none_ofS s1 np) (s1.trans sm) hp (by rw [← List.append_assoc]; exact r)
end
end Fn
set_option Elab.async false
set_option linter.all false
set_option maxRecDepth 100000
namespace Fn
open PySem L2 PySem.Spec PyProof.Rows
section
variable {X : Cx} {tg iter elt : Expr} {ifs : List Expr} {scope : Scope} {Nc : List Str} {cap : List (Option Nat)} {pos : Pos} {f : Env → Option (List D)} {g : Env → D → Option Env} {t : Env → Option Bool} {fe : Env → Option D} {i : Nat} {x : Str} {py spos : Pos}
theorem ss_asgCZ {zz : Str} (hN : X.N.Nodup) (C : CompOkZ X scope Nc cap zz) (tame : Tame cap g) (hc : X.calm = true) (hi : SI X tg iter f)
    (hb : ∀ cl C s₀ H₀ ex, SG (cxCompZ X Nc scope zz cl C s₀ H₀ ex) tg g ∧ Tests (cxCompZ X Nc scope zz cl C s₀ H₀ ex) ifs t ∧ SE (cxCompZ X Nc scope zz cl C s₀ H₀ ex) elt fe)
    (hi' : X.N[i]? = some x := by rfl) (hx : Loc X.env.scope x := by first | exact Or.inl rfl | exact Or.inr rfl)
    (hsw : swapsWith (.ListComp elt [⟨tg, iter, ifs, 0⟩] scope pos) (some (.Name x py)) spos.line X.env = pure true := by rfl)
    (hf : X.fn x = true ∨ X.env.scope.names.lookup x = some .local := by first | exact .inl rfl | exact .inr rfl | assumption)
    (hs : ∀ x, foldedSetIterable iter X.env x = pure x := by intro _; rfl) : SS X (.Assign [.Name x py] (.ListComp elt [⟨tg, iter, ifs, 0⟩] scope pos) spos) (sSet i (eComp f cap g t fe)) := ss_setCZ hN hi' hx C tame hc hi hb hsw hf hs
end
section
variable {X : Cx} {e ie : Expr} {f fi : Env → Option D} {pos : Pos}
theorem ss_itm {i : Nat} {x : Str} {p spos : Pos} (he : SE X e f) (hie : SE X ie fi) (hN : X.N[i]? = some x := by rfl) (hv : Vis X.env.scope x := by first | exact Or.inl rfl | exact Or.inr (Or.inl rfl))
    (hs : swapsWithSole [.Subscript (.Name x p) ie spos] e pos.line X.env = pure false := by rfl) (hw : swappedStores [.Subscript (.Name x p) ie spos] e X.env = pure none := by rfl)
    (h1 : (assignEach [.Subscript (.Name x p) ie spos] X.env).map (·.2) = [assign (.Subscript (.Name x p) ie spos) X.env] := by rfl)
    (ha : ∀ v, assign (.Subscript (.Name x p) ie spos) X.env v = (do
      let ov ← holding [v] (eval (.Name x p) X.env)
      let iv ← holding [v, ov] (eval ie X.env)
      standAt spos
      holding [v, ov, iv] (setItem ov iv v)
      release [v, ov, iv] []) := by intro _; rfl)
    (hd : (x == ("__debug__" : Str)) = false := by decide) (hcd : (x == ("__classdict__" : Str)) = false := by decide) :
    SS X (.Assign [.Subscript (.Name x p) ie spos] e pos) (sItem i fi f) := ss_item hv he hie hN hs hw h1 ha hd hcd
end
end Fn
set_option Elab.async false
set_option linter.all false
set_option maxRecDepth 100000
namespace Fn
open PySem L2 PySem.Spec PyProof.Rows PySem.W
noncomputable def ItnL (K : PySem.W.Frag) (t : Addr) : It :=
  ⟨fun i H => ∃ xs x, SqL K H t xs ∧ xs[i]? = some x,
   fun i H v H' => ∃ p x, (∀ xs, SqL K H t xs → xs[i]? = some x) ∧ v = .ref p ∧ H p = none ∧ H' = upd H p (.tup [.int i, x]),
   fun i H => ∃ xs, SqL K H t xs ∧ i = xs.length⟩
theorem turn_enumL {P : Program} {w : World} {K : PySem.W.Frag} {elts : List Expr} {kk : Nat} {pos : Pos} {e it t : Addr} (hei : e ≠ it) (het : e ≠ t) (hti : t ≠ it) :
    Turn P w K (.Tuple elts kk pos) (ItnL K t) [e, it] e (fun i h => (∃ old, IsEnum h e it i old) ∧ h.IsListIter it t i) where
  mem := by simp
  obj := fun i h ⟨⟨old, he⟩, ⟨o1, e1, c1, d1⟩⟩ b hb => by
    rcases (by simpa using hb : b = e ∨ b = it) with q | q <;> subst q
    · exact ⟨_, he, fun v y => by cases y⟩
    · exact ⟨o1, e1, fun v y => by rw [d1] at y; cases y⟩
  keep := fun i h h' ⟨⟨old, he⟩, h1⟩ k => ⟨⟨old, k e (by simp) _ he⟩, h1.at fun o y => k it (by simp) o y⟩
  item := by
    intro X hP hw hK hc i pins s σ H E I hf ⟨he, h1⟩ ⟨xs, x, q1, ex⟩
    subst hP hw hK
    obtain ⟨its, rv, pl, _⟩ := I.list q1
    have p1 := pl.isList
    obtain ⟨u, hu, ru⟩ := rv.get ex
    have WE := WalksT.enumerateD (A := X.A) (Draws.list (prog := X.prog) (w := X.w) (A := X.A.in1) (I.ok.hd hc) it t hti its.toArray) e hei (by simp [hei, het]) (by simp)
    have l1 : i < its.length := (List.getElem?_eq_some_iff.mp hu).1
    refine WE.item i s _ _ (by simpa using l1) ⟨he, h1, p1⟩ fun T vals h' tk ⟨tt, a1, g1, ev⟩ hs ht mid k1 => ⟨_, rfl, ?_⟩
    have e1 : a1 = u := by
      have : its[i]? = some a1 := by simpa using g1
      rw [hu] at this; cases this; rfl
    subst e1 ev
    have hTf := I.fpOk hs (I.hok.fresh hs)
    have apart := WE.apart _ _ _ mid
    refine WE.go elts kk pos i T { s with heap := h', toks := tk } _ _ mid fun hB ⟨b1, b2, _⟩ k2 => ?_
    have hT2 : hB.IsTuple T #[.int i tt, a1] := by
      obtain ⟨o, y, r⟩ := ht
      exact ⟨o, k2 _ _ apart y, r⟩
    refine ⟨.ref T, upd H T (.tup [.int i, x]), turn_tup (s := s) (h' := hB) (ch := [e, it]) (t' := tk) I hf hTf (fun b o hb y => k2 b o hb (k1 b o hb y)) hs (.cons ⟨tt, rfl⟩ (.cons ru .nil)) hT2 (by rw [sizeLine_eq]; simp),
      rfl, ⟨T, x, fun zs hzs => by rw [I.list_inj hzs q1]; exact ex, rfl, hTf.1, rfl⟩, ⟨b1, b2⟩, fun b hb => ?_⟩
    have hex : ∃ o, s.heap.get? b = some o := by
      obtain ⟨old, he⟩ := he
      obtain ⟨o1, g1, _⟩ := h1
      rcases (by simpa using hb : b = e ∨ b = it) with q | q <;> subst q
      · exact ⟨_, he⟩
      · exact ⟨_, g1⟩
    obtain ⟨o, y⟩ := hex
    rw [upd_ne (Nat.ne_of_lt (Nat.lt_of_lt_of_le (Heap.lt_size y) hs))]; exact (hf b hb).1
  done := by
    intro X hP hw hK hc i pins s σ H E I hf ⟨he, h1⟩ ⟨xs, q1, ei⟩
    subst hP hw hK
    obtain ⟨its, rv, pl, _⟩ := I.list q1
    have p1 := pl.isList
    have WE := WalksT.enumerateD (A := X.A) (Draws.list (prog := X.prog) (w := X.w) (A := X.A.in1) (I.ok.hd hc) it t hti its.toArray) e hei (by simp [hei, het]) (by simp)
    have ee : i = its.toArray.size := by rw [ei, rv.length]; simp
    subst ee
    exact WE.done s _ _ ⟨he, h1, p1⟩ fun h' tk k => ⟨rfl, turn_many (ch := [e, it]) I hf k⟩
  self := fun _ _ _ _ _ st h => let ⟨_, he⟩ := st.1; wpAny_pyIter_enum he h
theorem yields_enumL {K : PySem.W.Frag} {O W : List Addr} {t : Addr} {xs : List V} {ds : List D} {H1 : Hp} (q1 : SqL K (hid (O ++ W) H1) t xs) (r1 : Reps K (hid (O ++ W) H1) ds xs) : Yields K O W (ItnL K t) (enumL 0 ds) H1 := by
  intro W2 H2 fm lv
  have s := fm.hid (O := O)
  have a1 : SqL K H2 t xs := Same.sqL (hid_le _ _) (Same.sqL s q1)
  refine ⟨fun i d e => ?_, xs, a1, by rw [enumL_len, r1.length]⟩
  obtain ⟨da, e1, rfl⟩ := enumL_get e
  obtain ⟨v1, ev1, rv1⟩ := r1.get e1
  refine ⟨⟨xs, v1, a1, ev1⟩, fun x H3 h_0 => ?_⟩
  obtain ⟨p, x1, b1, ex, np, eH⟩ := h_0
  have g1 := b1 xs a1
  rw [ev1] at g1; cases g1
  subst ex eH
  exact new_tup np lv ⟨_, _, rfl, by show V.int i = V.int (0 + i); rw [Int.zero_add], _, _, rfl, rv1.mono s, rfl⟩
noncomputable def eEnumL (f : Env → Option D) : Env → Option (List D) := fun ρ => match f ρ with
  | some (.list xs) => if xs.length ≤ 1000 then some (enumL 0 xs) else none
  | _ => none
theorem eEnumL_some {f : Env → Option D} {ρ : Env} {ds : List D} (h : eEnumL f ρ = some ds) : ∃ xs, f ρ = some (.list xs) ∧ ds = enumL 0 xs := by
  unfold eEnumL at h
  cases e1 : f ρ with
  | none => rw [e1] at h; cases h
  | some d1 =>
    rw [e1] at h
    cases d1 with
    | list xs =>
      by_cases c : xs.length ≤ 1000
      · have : some (enumL 0 xs) = some ds := by rw [← h]; exact (if_pos c).symm
        exact ⟨xs, rfl, (Option.some.inj this).symm⟩
      · have : none = some ds := by rw [← h]; exact (if_neg c).symm
        cases this
    | _ => cases h
section
variable {X : Cx} {elts : List Expr} {kk : Nat} {pt p pos : Pos} {a : Expr} {fa : Env → Option D}
theorem si_enumL (hm : X.mg "enumerate" = none) (ha : SE X a fa) (hg : Gl X "enumerate" := by rfl) (hs : starEach [a] X.env = [(false, eval a X.env)] := by rfl) :
    SI X (.Tuple elts kk pt) (.Call (.Name "enumerate" p) [a] [] pos) (eEnumL fa) := by
  intro pins s σ H R I ⟨O, W, ρ, ds, sr, e, k⟩
  obtain ⟨ds1, e1, rfl⟩ := eEnumL_some e
  have PAb := pa_cons ha (pa_nil (X := X)) hs
  refine Call_ (ld_blt I hg hm boot_enumerate (PyProof.Rows.callWith_type1 (thn (PAb pos pins s σ H (fun vs H1 => ∃ v1, vs = [v1] ∧ Same H H1 ∧ Rep X.K (hid (O ++ W) H1) (.list ds1) v1) I ?_) fun us s1 ⟨vs, H1, I1, r1, v1, ev, sm, rp1⟩ => ?_) hs rfl))
  · exact ⟨O, W, ρ, .list ds1, sr, e1, fun v H1 s1 r1 => ⟨v, rfl, s1, r1⟩⟩
  · obtain ⟨t1, xs, rfl, q1, rr1⟩ := rp1
    subst ev
    cases r1 with
    | cons g1 r1 =>
      cases r1
      cases g1
      obtain ⟨its1, rv1, pl1, _⟩ := I1.list (Same.sqL (hid_le (O ++ W) H1) q1)
      have p1 := pl1.isList
      have l1 : t1 < s1.heap.objs.size := by obtain ⟨o, e, _⟩ := p1; exact Heap.lt_size e
      refine call_enumerate_list (show s1.heap.IsList t1 its1.toArray from p1) fun h' z1 z2 _ kp => ?_
      refine wpAny_pyIter_enum z1 ?_
      refine ⟨s1.heap.objs.size + 1, [s1.heap.objs.size + 1, s1.heap.objs.size], _, _, H1, rfl, I1.kept (t' := s1.toks) kp, turn_enumL (Nat.ne_of_gt (Nat.lt_succ_self _)) (Nat.ne_of_gt (Nat.lt_succ_of_lt l1)) (Nat.ne_of_lt l1), ⟨⟨_, z1⟩, z2⟩, fun b hb => ?_, k _ H1 sm (yields_enumL q1 rr1)⟩
      have hb' : s1.heap.objs.size ≤ b := by
        rcases (by simpa using hb : b = s1.heap.objs.size + 1 ∨ b = s1.heap.objs.size) with q | q <;> subst q <;> first | exact Nat.le_refl _ | exact Nat.le_add_right _ _
      exact I1.fpOk hb' (I1.hok.fresh hb')
end
end Fn
set_option Elab.async false
set_option linter.all false
set_option maxRecDepth 100000
set_option maxHeartbeats 4000000
namespace KK
open PySem L2 Fn PySem.Spec PyProof.Rows
local macro_rules | `(tactic| simp_arith [$ls,*]) => `(tactic| simp [sSeq, sSet, sRet, sIf, sNil, eLst, eTup, aCons, aNil, eIsx, e2, addD, countD, indexD, tOrF, tNotF, eT, neD, eC, eVar, bVar, dI, bI, big, $ls,*])
noncomputable def top (i : Nat) : Stmt := PySem.Challenge.pw_daytellings_k52_groups.main.body.getD i (.Pass ⟨0, 0, 0, 0⟩)
structure Blt (mg : Str → Option Value) : Prop where
  ValueError_ : mg "ValueError" = none
  all_ : mg "all" = none
  bool_ : mg "bool" = none
  enumerate_ : mg "enumerate" = none
  int_ : mg "int" = none
  isinstance_ : mg "isinstance" = none
  len_ : mg "len" = none
  list_ : mg "list" = none
  min_ : mg "min" = none
  range_ : mg "range" = none
  set_ : mg "set" = none
  sorted_ : mg "sorted" = none
  tuple_ : mg "tuple" = none
noncomputable def k_GREATEST_LAST : D := .int 9
noncomputable def k_LONGEST_WAY : D := .int 4
noncomputable def k_MOST_PERSONS : D := .int 3
noncomputable def k_MOST_PLACES : D := .int 5
noncomputable def k_MOST_TELLINGS : D := .int 6
noncomputable def k_PERSON_WORDS : D := .tuple [.str "met", .str "apart"]
noncomputable def k_PLACE_WORDS : D := .tuple [.str "there", .str "seen", .str "never"]
structure Exs (K : PySem.W.Frag) (mg : Str → Option Value) (T_ C_NoCase C_NoTelling C_NoPlace C_Nothing : Addr) : Prop where
  mT : mg "TellingError" = some (.ref T_)
  m_NoCase : mg "NoCase" = some (.ref C_NoCase)
  q_NoCase : PySem.W.excIn K C_NoCase bmV "ValueError.__new__" = true
  k_NoCase : ExK K C_NoCase
  u_NoCase : ExUp K C_NoCase T_
  v_NoCase : PySem.W.kitOne K (.ref C_NoCase) (.type "ValueError") = some true
  i_NoCase_NoCase : PySem.W.kitOne K (.ref C_NoCase) (.ref C_NoCase) = some true
  i_NoCase_NoTelling : PySem.W.kitOne K (.ref C_NoCase) (.ref C_NoTelling) = some false
  i_NoCase_NoPlace : PySem.W.kitOne K (.ref C_NoCase) (.ref C_NoPlace) = some false
  i_NoCase_Nothing : PySem.W.kitOne K (.ref C_NoCase) (.ref C_Nothing) = some false
  m_NoTelling : mg "NoTelling" = some (.ref C_NoTelling)
  q_NoTelling : PySem.W.excIn K C_NoTelling bmV "ValueError.__new__" = true
  k_NoTelling : ExK K C_NoTelling
  u_NoTelling : ExUp K C_NoTelling T_
  v_NoTelling : PySem.W.kitOne K (.ref C_NoTelling) (.type "ValueError") = some true
  i_NoTelling_NoCase : PySem.W.kitOne K (.ref C_NoTelling) (.ref C_NoCase) = some false
  i_NoTelling_NoTelling : PySem.W.kitOne K (.ref C_NoTelling) (.ref C_NoTelling) = some true
  i_NoTelling_NoPlace : PySem.W.kitOne K (.ref C_NoTelling) (.ref C_NoPlace) = some false
  i_NoTelling_Nothing : PySem.W.kitOne K (.ref C_NoTelling) (.ref C_Nothing) = some false
  m_NoPlace : mg "NoPlace" = some (.ref C_NoPlace)
  q_NoPlace : PySem.W.excIn K C_NoPlace bmV "ValueError.__new__" = true
  k_NoPlace : ExK K C_NoPlace
  u_NoPlace : ExUp K C_NoPlace T_
  v_NoPlace : PySem.W.kitOne K (.ref C_NoPlace) (.type "ValueError") = some true
  i_NoPlace_NoCase : PySem.W.kitOne K (.ref C_NoPlace) (.ref C_NoCase) = some false
  i_NoPlace_NoTelling : PySem.W.kitOne K (.ref C_NoPlace) (.ref C_NoTelling) = some false
  i_NoPlace_NoPlace : PySem.W.kitOne K (.ref C_NoPlace) (.ref C_NoPlace) = some true
  i_NoPlace_Nothing : PySem.W.kitOne K (.ref C_NoPlace) (.ref C_Nothing) = some false
  m_Nothing : mg "Nothing" = some (.ref C_Nothing)
  q_Nothing : PySem.W.excIn K C_Nothing bmV "ValueError.__new__" = true
  k_Nothing : ExK K C_Nothing
  u_Nothing : ExUp K C_Nothing T_
  v_Nothing : PySem.W.kitOne K (.ref C_Nothing) (.type "ValueError") = some true
  i_Nothing_NoCase : PySem.W.kitOne K (.ref C_Nothing) (.ref C_NoCase) = some false
  i_Nothing_NoTelling : PySem.W.kitOne K (.ref C_Nothing) (.ref C_NoTelling) = some false
  i_Nothing_NoPlace : PySem.W.kitOne K (.ref C_Nothing) (.ref C_NoPlace) = some false
  i_Nothing_Nothing : PySem.W.kitOne K (.ref C_Nothing) (.ref C_Nothing) = some true
structure Cns (w : World) (K : PySem.W.Frag) (mg : Str → Option Value) : Prop where
  c_GREATEST_LAST : ∃ t, mg "GREATEST_LAST" = some (.int 9 t)
  c_LONGEST_WAY : ∃ t, mg "LONGEST_WAY" = some (.int 4 t)
  c_MOST_PERSONS : ∃ t, mg "MOST_PERSONS" = some (.int 3 t)
  c_MOST_PLACES : ∃ t, mg "MOST_PLACES" = some (.int 5 t)
  c_MOST_TELLINGS : ∃ t, mg "MOST_TELLINGS" = some (.int 6 t)
  c_PERSON_WORDS : ∃ a, mg "PERSON_WORDS" = some (.ref a) ∧ ∀ H, Rep K H k_PERSON_WORDS (.ref a)
  c_PLACE_WORDS : ∃ a, mg "PLACE_WORDS" = some (.ref a) ∧ ∀ H, Rep K H k_PLACE_WORDS (.ref a)
  ex : ∃ T_ C_NoCase C_NoTelling C_NoPlace C_Nothing, Exs K mg T_ C_NoCase C_NoTelling C_NoPlace C_Nothing
section
variable {P : Program} {w : World} {K : PySem.W.Frag} {mg : Str → Option Value} {base : Heap}
noncomputable abbrev st_is_whole : Stmt := top 14
theorem sc_is_whole : FnScope ["thing"] ["thing"] (defScope st_is_whole) := ⟨rfl, rfl, rfl, by decide +kernel, rfl, by decide +kernel, by decide +kernel⟩
noncomputable def b_is_whole : Fn.Env → Option Fl := (sRet (eAndV (eInst isi_int (bVar 0)) (eNotV (eInst isi_bool (bVar 0)))))
noncomputable def G_is_whole : List D → Option D := runF 1 1 b_is_whole
theorem ok_is_whole {f : Addr} {fd : FuncData} (F : DefIn K mg "is_whole" st_is_whole ["thing"] f fd) (T : Cns w K mg) (B : Blt mg)  : Has P w K mg base "is_whole" 1 G_is_whole := by
  refine has_of (k := 0) F sc_is_whole ?_
  intro cdv A outer s H E hr
  refine sss_one ?_
  refine ss_ret ?_
  refine se_and ?_ ?_
  refine se_isi_int ?_ ?_ ?_
  exact B.isinstance_
  exact B.int_
  exact sb_var 0
  refine se_one ?_
  refine se_not ?_
  refine se_isi_bool ?_ ?_ ?_
  exact B.isinstance_
  exact B.bool_
  exact sb_var 0
noncomputable abbrev st_is_whole_within : Stmt := top 15
theorem sc_is_whole_within : FnScope ["thing", "least", "most"] ["thing", "least", "most"] (defScope st_is_whole_within) := ⟨rfl, rfl, rfl, by decide +kernel, rfl, by decide +kernel, by decide +kernel⟩
noncomputable def b_is_whole_within : Fn.Env → Option Fl := (sRet (eAndV (eCall G_is_whole (aCons (eVar 0) aNil)) (e3 leI leI (bVar 1) (bVar 0) (bVar 2))))
noncomputable def G_is_whole_within : List D → Option D := runF 3 3 b_is_whole_within
theorem ok_is_whole_within {f : Addr} {fd : FuncData} (F : DefIn K mg "is_whole_within" st_is_whole_within ["thing", "least", "most"] f fd) (T : Cns w K mg) (B : Blt mg) (h_is_whole : Has P w K mg base "is_whole" 1 G_is_whole) : Has P w K mg base "is_whole_within" 2 G_is_whole_within := by
  refine has_of (k := 1) F sc_is_whole_within ?_
  intro cdv A outer s H E hr
  refine sss_one ?_
  refine ss_ret ?_
  refine se_and ?_ ?_
  refine se_callG (k := 1) ?_ ?_ ?_
  exact h_is_whole
  exact hr.mono (by decide)
  refine sa_cons ?_ ?_
  exact se_var 0
  exact sa_nil
  refine se_one ?_
  refine se_le_le ?_ ?_ ?_
  exact sb_var 1
  exact sb_var 0
  exact sb_var 2
noncomputable abbrev st_is_tuple_of : Stmt := top 16
theorem sc_is_tuple_of : FnScope ["thing", "length"] ["thing", "length"] (defScope st_is_tuple_of) := ⟨rfl, rfl, rfl, by decide +kernel, rfl, by decide +kernel, by decide +kernel⟩
noncomputable def b_is_tuple_of : Fn.Env → Option Fl := (sRet (eAndV (eInst isi_tuple (bVar 0)) (e2 eqD (eCall len1 (aCons (bVar 0) aNil)) (bVar 1))))
noncomputable def G_is_tuple_of : List D → Option D := runF 2 2 b_is_tuple_of
theorem ok_is_tuple_of {f : Addr} {fd : FuncData} (F : DefIn K mg "is_tuple_of" st_is_tuple_of ["thing", "length"] f fd) (T : Cns w K mg) (B : Blt mg)  : Has P w K mg base "is_tuple_of" 1 G_is_tuple_of := by
  refine has_of (k := 0) F sc_is_tuple_of ?_
  intro cdv A outer s H E hr
  refine sss_one ?_
  refine ss_ret ?_
  refine se_and ?_ ?_
  refine se_isi_tuple ?_ ?_ ?_
  exact B.isinstance_
  exact B.tuple_
  exact sb_var 0
  refine se_one ?_
  refine se_eq (k := 0) ?_ ?_ ?_
  exact hr
  refine sb_of ?_
  refine se_len ?_ ?_
  exact B.len_
  refine sab_cons ?_ ?_
  exact sb_var 0
  exact sab_nil
  exact sb_var 1
noncomputable abbrev st_is_way : Stmt := top 17
theorem sc_is_way : FnScope ["places", "thing"] ["places", "thing"] (defScope st_is_way) := ⟨rfl, rfl, rfl, by decide +kernel, rfl, by decide +kernel, by decide +kernel⟩
noncomputable def b_is_way : Fn.Env → Option Fl := (sRet (eAndV (eCall G_is_tuple_of (aCons (eVar 1) (aCons (eC (.int 3)) aNil))) (eAndV (eCall G_is_whole_within (aCons (e2 ixD (bVar 1) (eC (.int 0))) (aCons (eC (.int 0)) (aCons (e2 (iI fun i j => i - j) (bVar 0) (eC (.int 1))) aNil)))) (eAndV (eCall G_is_whole_within (aCons (e2 ixD (bVar 1) (eC (.int 1))) (aCons (e2 addD (e2 ixD (bVar 1) (eC (.int 0))) (eC (.int 1))) (aCons (e2 (iI fun i j => i - j) (bVar 0) (eC (.int 1))) aNil)))) (eCall G_is_whole_within (aCons (e2 ixD (bVar 1) (eC (.int 2))) (aCons (eC (.int 1)) (aCons (eC k_LONGEST_WAY) aNil))))))))
noncomputable def G_is_way : List D → Option D := runF 2 2 b_is_way
theorem ok_is_way {f : Addr} {fd : FuncData} (F : DefIn K mg "is_way" st_is_way ["places", "thing"] f fd) (T : Cns w K mg) (B : Blt mg) (h_is_tuple_of : Has P w K mg base "is_tuple_of" 1 G_is_tuple_of) (h_is_whole_within : Has P w K mg base "is_whole_within" 2 G_is_whole_within) : Has P w K mg base "is_way" 3 G_is_way := by
  refine has_of (k := 2) F sc_is_way ?_
  intro cdv A outer s H E hr
  refine sss_one ?_
  refine ss_ret ?_
  refine se_and ?_ ?_
  refine se_callG (k := 1) ?_ ?_ ?_
  exact h_is_tuple_of
  exact hr.mono (by decide)
  refine sa_cons ?_ ?_
  exact se_var 1
  refine sa_cons ?_ ?_
  exact se_int
  exact sa_nil
  refine se_and ?_ ?_
  refine se_callG (k := 2) ?_ ?_ ?_
  exact h_is_whole_within
  exact hr.mono (by decide)
  refine sa_cons ?_ ?_
  refine se_at ?_ ?_
  exact sb_var 1
  refine sb_of ?_
  exact se_int
  refine sa_cons ?_ ?_
  exact se_int
  refine sa_cons ?_ ?_
  refine se_sub ?_ ?_
  exact sb_var 0
  refine sb_of ?_
  exact se_int
  exact sa_nil
  refine se_and ?_ ?_
  refine se_callG (k := 2) ?_ ?_ ?_
  exact h_is_whole_within
  exact hr.mono (by decide)
  refine sa_cons ?_ ?_
  refine se_at ?_ ?_
  exact sb_var 1
  refine sb_of ?_
  exact se_int
  refine sa_cons ?_ ?_
  refine se_add ?_ ?_
  refine sb_of ?_
  refine se_at ?_ ?_
  exact sb_var 1
  refine sb_of ?_
  exact se_int
  refine sb_of ?_
  exact se_int
  refine sa_cons ?_ ?_
  refine se_sub ?_ ?_
  exact sb_var 0
  refine sb_of ?_
  exact se_int
  exact sa_nil
  refine se_one ?_
  refine se_callG (k := 2) ?_ ?_ ?_
  exact h_is_whole_within
  exact hr.mono (by decide)
  refine sa_cons ?_ ?_
  refine se_at ?_ ?_
  exact sb_var 1
  refine sb_of ?_
  exact se_int
  refine sa_cons ?_ ?_
  exact se_int
  refine sa_cons ?_ ?_
  refine se_kI ?_
  exact T.c_LONGEST_WAY
  exact sa_nil
noncomputable abbrev st_are_ways : Stmt := top 18
theorem sc_are_ways : FnScope ["places", "thing", "ends"] ["places", "thing"] (defScope st_are_ways) := ⟨rfl, rfl, rfl, by decide +kernel, rfl, by decide +kernel, by decide +kernel⟩
noncomputable def b_are_ways : Fn.Env → Option Fl := (sSeq (sIf (tOrF (tNotF (eT (eInst isi_tuple (bVar 1)))) (tNotF (eT (eCall all1 (aCons (eComp (eAny (eVar 1)) [none, some 0] (gVar 0) (fun _ => some true) (eCall G_is_way (aCons (eVar 1) (aCons (eVar 0) aNil)))) aNil))))) (sRet (eC (.bool false))) sNil) (sSeq (sSet 2 (eComp (eAny (eVar 1)) [none] (gVar 0) (fun _ => some true) (eSlice (bVar 0) oNone (oSome (eC (.int 2)))))) (sRet (e2 eqD (bVar 2) (eSortSetN (bVar 2))))))
noncomputable def G_are_ways : List D → Option D := runF 2 3 b_are_ways
theorem ok_are_ways {f : Addr} {fd : FuncData} (F : DefIn K mg "are_ways" st_are_ways ["places", "thing"] f fd) (T : Cns w K mg) (B : Blt mg) (h_is_way : Has P w K mg base "is_way" 3 G_is_way) : Has P w K mg base "are_ways" 4 G_are_ways := by
  refine has_of (k := 3) F sc_are_ways ?_
  intro cdv A outer s H E hr
  refine sss_cons ?_ ?_
  refine ss_if ?_ ?_ ?_
  refine st_sw ?_
  refine sw_or ?_ ?_
  refine st_not ?_
  refine st_val ?_
  refine se_isi_tuple ?_ ?_ ?_
  exact B.isinstance_
  exact B.tuple_
  exact sb_var 1
  refine sw_or1 ?_
  refine st_not ?_
  refine st_val ?_
  refine se_all ?_ ?_ ?_
  exact B.all_
  rfl
  refine sab_cons ?_ ?_
  refine sb_of ?_
  refine se_comp (Nc := ["way", "places"]) (cap := [none, some 0]) ?_ ?_ ?_ ?_ ?_
  exact comp_ok (N := ["places", "thing", "ends"]) (sc := defScope st_are_ways) rfl rfl (by decide +kernel)
  exact tame_var rfl
  rfl
  refine si_any ?_
  exact se_var 1
  intro cl C s₀ H₀ ex
  refine ⟨?_, ?_, ?_⟩
  refine sg_var (i := 0) ?_
  exact (show (["way", "places"] : List Str).Nodup by decide +kernel)
  exact .nil
  refine se_callG (k := 3) ?_ ?_ ?_
  exact h_is_way
  exact hr.mono (by decide)
  refine sa_cons ?_ ?_
  exact se_var 1
  refine sa_cons ?_ ?_
  exact se_var 0
  exact sa_nil
  exact sab_nil
  refine sss_one ?_
  refine ss_ret ?_
  exact se_bl
  exact sss_nil
  refine sss_cons ?_ ?_
  refine ss_asgC (i := 2) (Nc := ["way"]) (cap := [none]) ?_ ?_ ?_ ?_ ?_ ?_
  exact sc_are_ways.nd
  exact comp_ok (N := ["places", "thing", "ends"]) (sc := defScope st_are_ways) rfl rfl (by decide +kernel)
  exact tame_var rfl
  rfl
  refine si_any ?_
  exact se_var 1
  intro cl C s₀ H₀ ex
  refine ⟨?_, ?_, ?_⟩
  refine sg_var (i := 0) ?_
  exact (show (["way"] : List Str).Nodup by decide +kernel)
  exact .nil
  refine se_slice ?_ ?_ ?_
  exact sb_var 0
  exact so_none
  refine so_some ?_
  exact se_int
  refine sss_one ?_
  refine ss_ret ?_
  refine se_eq (k := 3) ?_ ?_ ?_
  exact hr
  exact sb_var 2
  refine sb_of ?_
  refine se_sortedset (k := 3) ?_ ?_ ?_ ?_
  exact B.sorted_
  exact B.set_
  exact hr
  exact sb_var 2
noncomputable abbrev st_is_town : Stmt := top 19
theorem sc_is_town : FnScope ["thing"] ["thing"] (defScope st_is_town) := ⟨rfl, rfl, rfl, by decide +kernel, rfl, by decide +kernel, by decide +kernel⟩
noncomputable def b_is_town : Fn.Env → Option Fl := (sRet (eAndV (eCall G_is_tuple_of (aCons (eVar 0) (aCons (eC (.int 2)) aNil))) (eAndV (eCall G_is_whole_within (aCons (e2 ixD (bVar 0) (eC (.int 0))) (aCons (eC (.int 1)) (aCons (eC k_MOST_PLACES) aNil)))) (eCall G_are_ways (aCons (e2 ixD (bVar 0) (eC (.int 0))) (aCons (e2 ixD (bVar 0) (eC (.int 1))) aNil))))))
noncomputable def G_is_town : List D → Option D := runF 1 1 b_is_town
theorem ok_is_town {f : Addr} {fd : FuncData} (F : DefIn K mg "is_town" st_is_town ["thing"] f fd) (T : Cns w K mg) (B : Blt mg) (h_are_ways : Has P w K mg base "are_ways" 4 G_are_ways) (h_is_tuple_of : Has P w K mg base "is_tuple_of" 1 G_is_tuple_of) (h_is_whole_within : Has P w K mg base "is_whole_within" 2 G_is_whole_within) : Has P w K mg base "is_town" 5 G_is_town := by
  refine has_of (k := 4) F sc_is_town ?_
  intro cdv A outer s H E hr
  refine sss_one ?_
  refine ss_ret ?_
  refine se_and ?_ ?_
  refine se_callG (k := 1) ?_ ?_ ?_
  exact h_is_tuple_of
  exact hr.mono (by decide)
  refine sa_cons ?_ ?_
  exact se_var 0
  refine sa_cons ?_ ?_
  exact se_int
  exact sa_nil
  refine se_and ?_ ?_
  refine se_callG (k := 2) ?_ ?_ ?_
  exact h_is_whole_within
  exact hr.mono (by decide)
  refine sa_cons ?_ ?_
  refine se_at ?_ ?_
  exact sb_var 0
  refine sb_of ?_
  exact se_int
  refine sa_cons ?_ ?_
  exact se_int
  refine sa_cons ?_ ?_
  refine se_kI ?_
  exact T.c_MOST_PLACES
  exact sa_nil
  refine se_one ?_
  refine se_callG (k := 4) ?_ ?_ ?_
  exact h_are_ways
  exact hr.mono (by decide)
  refine sa_cons ?_ ?_
  refine se_at ?_ ?_
  exact sb_var 0
  refine sb_of ?_
  exact se_int
  refine sa_cons ?_ ?_
  refine se_at ?_ ?_
  exact sb_var 0
  refine sb_of ?_
  exact se_int
  exact sa_nil
noncomputable abbrev st_is_what : Stmt := top 20
theorem sc_is_what : FnScope ["frame", "word", "who", "what"] ["frame", "word", "who", "what"] (defScope st_is_what) := ⟨rfl, rfl, rfl, by decide +kernel, rfl, by decide +kernel, by decide +kernel⟩
noncomputable def b_is_what : Fn.Env → Option Fl := (sSeq (sIf (eT (e2 inD (bVar 1) (eC k_PERSON_WORDS))) (sRet (eAndV (eCall G_is_whole_within (aCons (eVar 3) (aCons (eC (.int 0)) (aCons (e2 (iI fun i j => i - j) (e2 ixD (bVar 0) (eC (.int 1))) (eC (.int 1))) aNil)))) (e2 neD (bVar 3) (bVar 2)))) sNil) (sRet (eAndV (e2 inD (bVar 1) (eC k_PLACE_WORDS)) (eCall G_is_whole_within (aCons (eVar 3) (aCons (eC (.int 0)) (aCons (e2 (iI fun i j => i - j) (e2 ixD (e2 ixD (bVar 0) (eC (.int 0))) (eC (.int 0))) (eC (.int 1))) aNil)))))))
noncomputable def G_is_what : List D → Option D := runF 4 4 b_is_what
theorem ok_is_what {f : Addr} {fd : FuncData} (F : DefIn K mg "is_what" st_is_what ["frame", "word", "who", "what"] f fd) (T : Cns w K mg) (B : Blt mg) (h_is_whole_within : Has P w K mg base "is_whole_within" 2 G_is_whole_within) : Has P w K mg base "is_what" 3 G_is_what := by
  refine has_of (k := 2) F sc_is_what ?_
  intro cdv A outer s H E hr
  refine sss_cons ?_ ?_
  refine ss_if ?_ ?_ ?_
  refine st_in (k := 2) ?_ ?_ ?_
  exact hr
  exact sb_var 1
  refine sb_of ?_
  refine se_kT ?_
  exact T.c_PERSON_WORDS
  refine sss_one ?_
  refine ss_ret ?_
  refine se_and ?_ ?_
  refine se_callG (k := 2) ?_ ?_ ?_
  exact h_is_whole_within
  exact hr.mono (by decide)
  refine sa_cons ?_ ?_
  exact se_var 3
  refine sa_cons ?_ ?_
  exact se_int
  refine sa_cons ?_ ?_
  refine se_sub ?_ ?_
  refine sb_of ?_
  refine se_at ?_ ?_
  exact sb_var 0
  refine sb_of ?_
  exact se_int
  refine sb_of ?_
  exact se_int
  exact sa_nil
  refine se_one ?_
  refine se_ne (k := 2) ?_ ?_ ?_
  exact hr
  exact sb_var 3
  exact sb_var 2
  exact sss_nil
  refine sss_one ?_
  refine ss_ret ?_
  refine se_and ?_ ?_
  refine se_in (k := 2) ?_ ?_ ?_
  exact hr
  exact sb_var 1
  refine sb_of ?_
  refine se_kT ?_
  exact T.c_PLACE_WORDS
  refine se_one ?_
  refine se_callG (k := 2) ?_ ?_ ?_
  exact h_is_whole_within
  exact hr.mono (by decide)
  refine sa_cons ?_ ?_
  exact se_var 3
  refine sa_cons ?_ ?_
  exact se_int
  refine sa_cons ?_ ?_
  refine se_sub ?_ ?_
  refine sb_of ?_
  refine se_at ?_ ?_
  refine sb_of ?_
  refine se_at ?_ ?_
  exact sb_var 0
  refine sb_of ?_
  exact se_int
  refine sb_of ?_
  exact se_int
  refine sb_of ?_
  exact se_int
  exact sa_nil
noncomputable abbrev st_fits_frame : Stmt := top 21
theorem sc_fits_frame : FnScope ["frame", "thing"] ["frame", "thing"] (defScope st_fits_frame) := ⟨rfl, rfl, rfl, by decide +kernel, rfl, by decide +kernel, by decide +kernel⟩
noncomputable def b_fits_frame : Fn.Env → Option Fl := (sRet (eAndV (eCall G_is_tuple_of (aCons (eVar 1) (aCons (eC (.int 5)) aNil))) (eAndV (eCall G_is_whole_within (aCons (e2 ixD (bVar 1) (eC (.int 1))) (aCons (eC (.int 0)) (aCons (e2 (iI fun i j => i - j) (e2 ixD (bVar 0) (eC (.int 1))) (eC (.int 1))) aNil)))) (eAndV (eCall G_is_what (aCons (eVar 0) (aCons (e2 ixD (bVar 1) (eC (.int 0))) (aCons (e2 ixD (bVar 1) (eC (.int 1))) (aCons (e2 ixD (bVar 1) (eC (.int 2))) aNil))))) (eAndV (eCall G_is_whole_within (aCons (e2 ixD (bVar 1) (eC (.int 3))) (aCons (eC (.int 0)) (aCons (e2 ixD (bVar 0) (eC (.int 2))) aNil)))) (eCall G_is_whole_within (aCons (e2 ixD (bVar 1) (eC (.int 4))) (aCons (e2 ixD (bVar 1) (eC (.int 3))) (aCons (e2 ixD (bVar 0) (eC (.int 2))) aNil)))))))))
noncomputable def G_fits_frame : List D → Option D := runF 2 2 b_fits_frame
theorem ok_fits_frame {f : Addr} {fd : FuncData} (F : DefIn K mg "fits_frame" st_fits_frame ["frame", "thing"] f fd) (T : Cns w K mg) (B : Blt mg) (h_is_tuple_of : Has P w K mg base "is_tuple_of" 1 G_is_tuple_of) (h_is_what : Has P w K mg base "is_what" 3 G_is_what) (h_is_whole_within : Has P w K mg base "is_whole_within" 2 G_is_whole_within) : Has P w K mg base "fits_frame" 4 G_fits_frame := by
  refine has_of (k := 3) F sc_fits_frame ?_
  intro cdv A outer s H E hr
  refine sss_one ?_
  refine ss_ret ?_
  refine se_and ?_ ?_
  refine se_callG (k := 1) ?_ ?_ ?_
  exact h_is_tuple_of
  exact hr.mono (by decide)
  refine sa_cons ?_ ?_
  exact se_var 1
  refine sa_cons ?_ ?_
  exact se_int
  exact sa_nil
  refine se_and ?_ ?_
  refine se_callG (k := 2) ?_ ?_ ?_
  exact h_is_whole_within
  exact hr.mono (by decide)
  refine sa_cons ?_ ?_
  refine se_at ?_ ?_
  exact sb_var 1
  refine sb_of ?_
  exact se_int
  refine sa_cons ?_ ?_
  exact se_int
  refine sa_cons ?_ ?_
  refine se_sub ?_ ?_
  refine sb_of ?_
  refine se_at ?_ ?_
  exact sb_var 0
  refine sb_of ?_
  exact se_int
  refine sb_of ?_
  exact se_int
  exact sa_nil
  refine se_and ?_ ?_
  refine se_callG (k := 3) ?_ ?_ ?_
  exact h_is_what
  exact hr.mono (by decide)
  refine sa_cons ?_ ?_
  exact se_var 0
  refine sa_cons ?_ ?_
  refine se_at ?_ ?_
  exact sb_var 1
  refine sb_of ?_
  exact se_int
  refine sa_cons ?_ ?_
  refine se_at ?_ ?_
  exact sb_var 1
  refine sb_of ?_
  exact se_int
  refine sa_cons ?_ ?_
  refine se_at ?_ ?_
  exact sb_var 1
  refine sb_of ?_
  exact se_int
  exact sa_nil
  refine se_and ?_ ?_
  refine se_callG (k := 2) ?_ ?_ ?_
  exact h_is_whole_within
  exact hr.mono (by decide)
  refine sa_cons ?_ ?_
  refine se_at ?_ ?_
  exact sb_var 1
  refine sb_of ?_
  exact se_int
  refine sa_cons ?_ ?_
  exact se_int
  refine sa_cons ?_ ?_
  refine se_at ?_ ?_
  exact sb_var 0
  refine sb_of ?_
  exact se_int
  exact sa_nil
  refine se_one ?_
  refine se_callG (k := 2) ?_ ?_ ?_
  exact h_is_whole_within
  exact hr.mono (by decide)
  refine sa_cons ?_ ?_
  refine se_at ?_ ?_
  exact sb_var 1
  refine sb_of ?_
  exact se_int
  refine sa_cons ?_ ?_
  refine se_at ?_ ?_
  exact sb_var 1
  refine sb_of ?_
  exact se_int
  refine sa_cons ?_ ?_
  refine se_at ?_ ?_
  exact sb_var 0
  refine sb_of ?_
  exact se_int
  exact sa_nil
noncomputable abbrev st_are_tellings : Stmt := top 22
theorem sc_are_tellings : FnScope ["frame", "thing"] ["frame", "thing"] (defScope st_are_tellings) := ⟨rfl, rfl, rfl, by decide +kernel, rfl, by decide +kernel, by decide +kernel⟩
noncomputable def b_are_tellings : Fn.Env → Option Fl := (sRet (eAndV (eInst isi_tuple (bVar 1)) (eAndV (e2 leI (eCall len1 (aCons (bVar 1) aNil)) (eC k_MOST_TELLINGS)) (eCall all1 (aCons (eComp (eAny (eVar 1)) [none, some 0] (gVar 0) (fun _ => some true) (eCall G_fits_frame (aCons (eVar 1) (aCons (eVar 0) aNil)))) aNil)))))
noncomputable def G_are_tellings : List D → Option D := runF 2 2 b_are_tellings
theorem ok_are_tellings {f : Addr} {fd : FuncData} (F : DefIn K mg "are_tellings" st_are_tellings ["frame", "thing"] f fd) (T : Cns w K mg) (B : Blt mg) (h_fits_frame : Has P w K mg base "fits_frame" 4 G_fits_frame) : Has P w K mg base "are_tellings" 5 G_are_tellings := by
  refine has_of (k := 4) F sc_are_tellings ?_
  intro cdv A outer s H E hr
  refine sss_one ?_
  refine ss_ret ?_
  refine se_and ?_ ?_
  refine se_isi_tuple ?_ ?_ ?_
  exact B.isinstance_
  exact B.tuple_
  exact sb_var 1
  refine se_and ?_ ?_
  refine se_le ?_ ?_
  refine sb_of ?_
  refine se_len ?_ ?_
  exact B.len_
  refine sab_cons ?_ ?_
  exact sb_var 1
  exact sab_nil
  refine sb_of ?_
  refine se_kI ?_
  exact T.c_MOST_TELLINGS
  refine se_one ?_
  refine se_all ?_ ?_ ?_
  exact B.all_
  rfl
  refine sab_cons ?_ ?_
  refine sb_of ?_
  refine se_comp (Nc := ["telling", "frame"]) (cap := [none, some 0]) ?_ ?_ ?_ ?_ ?_
  exact comp_ok (N := ["frame", "thing"]) (sc := defScope st_are_tellings) rfl rfl (by decide +kernel)
  exact tame_var rfl
  rfl
  refine si_any ?_
  exact se_var 1
  intro cl C s₀ H₀ ex
  refine ⟨?_, ?_, ?_⟩
  refine sg_var (i := 0) ?_
  exact (show (["telling", "frame"] : List Str).Nodup by decide +kernel)
  exact .nil
  refine se_callG (k := 4) ?_ ?_ ?_
  exact h_fits_frame
  exact hr.mono (by decide)
  refine sa_cons ?_ ?_
  exact se_var 1
  refine sa_cons ?_ ?_
  exact se_var 0
  exact sa_nil
  exact sab_nil
noncomputable abbrev st_is_case : Stmt := top 23
theorem sc_is_case : FnScope ["thing"] ["thing"] (defScope st_is_case) := ⟨rfl, rfl, rfl, by decide +kernel, rfl, by decide +kernel, by decide +kernel⟩
noncomputable def b_is_case : Fn.Env → Option Fl := (sRet (eAndV (eCall G_is_tuple_of (aCons (eVar 0) (aCons (eC (.int 4)) aNil))) (eAndV (eCall G_is_town (aCons (e2 ixD (bVar 0) (eC (.int 0))) aNil)) (eAndV (eCall G_is_whole_within (aCons (e2 ixD (bVar 0) (eC (.int 1))) (aCons (eC (.int 1)) (aCons (eC k_MOST_PERSONS) aNil)))) (eAndV (eCall G_is_whole_within (aCons (e2 ixD (bVar 0) (eC (.int 2))) (aCons (eC (.int 0)) (aCons (eC k_GREATEST_LAST) aNil)))) (eCall G_are_tellings (aCons (eVar 0) (aCons (e2 ixD (bVar 0) (eC (.int 3))) aNil))))))))
noncomputable def G_is_case : List D → Option D := runF 1 1 b_is_case
theorem ok_is_case {f : Addr} {fd : FuncData} (F : DefIn K mg "is_case" st_is_case ["thing"] f fd) (T : Cns w K mg) (B : Blt mg) (h_are_tellings : Has P w K mg base "are_tellings" 5 G_are_tellings) (h_is_town : Has P w K mg base "is_town" 5 G_is_town) (h_is_tuple_of : Has P w K mg base "is_tuple_of" 1 G_is_tuple_of) (h_is_whole_within : Has P w K mg base "is_whole_within" 2 G_is_whole_within) : Has P w K mg base "is_case" 6 G_is_case := by
  refine has_of (k := 5) F sc_is_case ?_
  intro cdv A outer s H E hr
  refine sss_one ?_
  refine ss_ret ?_
  refine se_and ?_ ?_
  refine se_callG (k := 1) ?_ ?_ ?_
  exact h_is_tuple_of
  exact hr.mono (by decide)
  refine sa_cons ?_ ?_
  exact se_var 0
  refine sa_cons ?_ ?_
  exact se_int
  exact sa_nil
  refine se_and ?_ ?_
  refine se_callG (k := 5) ?_ ?_ ?_
  exact h_is_town
  exact hr.mono (by decide)
  refine sa_cons ?_ ?_
  refine se_at ?_ ?_
  exact sb_var 0
  refine sb_of ?_
  exact se_int
  exact sa_nil
  refine se_and ?_ ?_
  refine se_callG (k := 2) ?_ ?_ ?_
  exact h_is_whole_within
  exact hr.mono (by decide)
  refine sa_cons ?_ ?_
  refine se_at ?_ ?_
  exact sb_var 0
  refine sb_of ?_
  exact se_int
  refine sa_cons ?_ ?_
  exact se_int
  refine sa_cons ?_ ?_
  refine se_kI ?_
  exact T.c_MOST_PERSONS
  exact sa_nil
  refine se_and ?_ ?_
  refine se_callG (k := 2) ?_ ?_ ?_
  exact h_is_whole_within
  exact hr.mono (by decide)
  refine sa_cons ?_ ?_
  refine se_at ?_ ?_
  exact sb_var 0
  refine sb_of ?_
  exact se_int
  refine sa_cons ?_ ?_
  exact se_int
  refine sa_cons ?_ ?_
  refine se_kI ?_
  exact T.c_GREATEST_LAST
  exact sa_nil
  refine se_one ?_
  refine se_callG (k := 5) ?_ ?_ ?_
  exact h_are_tellings
  exact hr.mono (by decide)
  refine sa_cons ?_ ?_
  exact se_var 0
  refine sa_cons ?_ ?_
  refine se_at ?_ ?_
  exact sb_var 0
  refine sb_of ?_
  exact se_int
  exact sa_nil
noncomputable abbrev st_demand_case : Stmt := top 24
theorem sc_demand_case : FnScope ["thing"] ["thing"] (defScope st_demand_case) := ⟨rfl, rfl, rfl, by decide +kernel, rfl, by decide +kernel, by decide +kernel⟩
noncomputable def b_demand_case : Fn.Env → Option Fl := (sIf (tNotF (eT (eCall G_is_case (aCons (eVar 0) aNil)))) sNo sNil)
noncomputable def G_demand_case : List D → Option D := runF 1 1 b_demand_case
theorem ok_demand_case {f : Addr} {fd : FuncData} (F : DefIn K mg "demand_case" st_demand_case ["thing"] f fd) (T : Cns w K mg) (B : Blt mg) (h_is_case : Has P w K mg base "is_case" 6 G_is_case) : Has P w K mg base "demand_case" 7 G_demand_case := by
  refine has_of (k := 6) F sc_demand_case ?_
  intro cdv A outer s H E hr
  refine sss_one ?_
  refine ss_if ?_ ?_ ?_
  refine st_not ?_
  refine st_val ?_
  refine se_callG (k := 6) ?_ ?_ ?_
  exact h_is_case
  exact hr.mono (by decide)
  refine sa_cons ?_ ?_
  exact se_var 0
  exact sa_nil
  refine sss_one ?_
  exact ss_no
  exact sss_nil
noncomputable def y_demand_case : Fn.Env → Option Str := (xIf (tNotF (eT (eCall G_is_case (aCons (eVar 0) aNil)))) (xRz (eC (.str "this is no case")) "NoCase") xNo)
noncomputable def X_demand_case : List D → Option Str := runX 1 1 y_demand_case
theorem okx_demand_case {f : Addr} {fd : FuncData} (F : DefIn K mg "demand_case" st_demand_case ["thing"] f fd) (T : Cns w K mg) (B : Blt mg) (h_is_case : Has P w K mg base "is_case" 6 G_is_case) : HasX P w K mg base "demand_case" 7 X_demand_case := by
  obtain ⟨T_, C_NoCase, C_NoTelling, C_NoPlace, C_Nothing, X_⟩ := T.ex
  refine hasX_of (k := 6) F sc_demand_case ?_
  intro cdv A outer s H E hr
  refine rss_here ?_
  refine rs_if ?_ ?_ ?_
  refine st_not ?_
  refine st_val ?_
  refine se_callG (k := 6) ?_ ?_ ?_
  exact h_is_case
  exact hr.mono (by decide)
  refine sa_cons ?_ ?_
  exact se_var 0
  exact sa_nil
  refine rss_here ?_
  refine rs_rz (C := C_NoCase) ?_ ?_ ?_ ?_
  exact ⟨X_.m_NoCase, X_.q_NoCase⟩
  exact raises_cx
  exact hr.hd
  exact se_str
  exact rss_no
noncomputable abbrev st_labels_joined : Stmt := top 26
theorem sc_labels_joined : FnScope ["labels", "one", "other", "both"] ["labels", "one", "other"] (defScope st_labels_joined) := ⟨rfl, rfl, rfl, by decide +kernel, rfl, by decide +kernel, by decide +kernel⟩
noncomputable def b_labels_joined : Fn.Env → Option Fl := (sSeq (sSet 3 (eTup (aCons (e2 ixD (bVar 0) (bVar 1)) (aCons (e2 ixD (bVar 0) (bVar 2)) aNil)))) (sRet (eComp (eAny (eVar 0)) [none, some 3] (gVar 0) (fun _ => some true) (eIf (eT (e2 inD (bVar 0) (bVar 1))) (eCall min1 (aCons (bVar 1) aNil)) (eVar 0)))))
noncomputable def G_labels_joined : List D → Option D := runF 3 4 b_labels_joined
theorem ok_labels_joined {f : Addr} {fd : FuncData} (F : DefIn K mg "labels_joined" st_labels_joined ["labels", "one", "other"] f fd) (T : Cns w K mg) (B : Blt mg)  : Has P w K mg base "labels_joined" 1 G_labels_joined := by
  refine has_of (k := 0) F sc_labels_joined ?_
  intro cdv A outer s H E hr
  refine sss_cons ?_ ?_
  refine ss_asg (i := 3) ?_ ?_
  exact sc_labels_joined.nd
  refine se_tup ?_
  refine sa_cons ?_ ?_
  refine se_at ?_ ?_
  exact sb_var 0
  exact sb_var 1
  refine sa_cons ?_ ?_
  refine se_at ?_ ?_
  exact sb_var 0
  exact sb_var 2
  exact sa_nil
  refine sss_one ?_
  refine ss_ret ?_
  refine se_comp (Nc := ["label", "both"]) (cap := [none, some 3]) ?_ ?_ ?_ ?_ ?_
  exact comp_ok (N := ["labels", "one", "other", "both"]) (sc := defScope st_labels_joined) rfl rfl (by decide +kernel)
  exact tame_var rfl
  rfl
  refine si_any ?_
  exact se_var 0
  intro cl C s₀ H₀ ex
  refine ⟨?_, ?_, ?_⟩
  refine sg_var (i := 0) ?_
  exact (show (["label", "both"] : List Str).Nodup by decide +kernel)
  exact .nil
  refine se_ifExp ?_ ?_ ?_
  refine st_in (k := 0) ?_ ?_ ?_
  exact hr
  exact sb_var 0
  exact sb_var 1
  refine se_min ?_ ?_ ?_
  exact B.min_
  rfl
  refine sab_cons ?_ ?_
  exact sb_var 1
  exact sab_nil
  exact se_var 0
noncomputable abbrev st_persons_with : Stmt := top 27
theorem sc_persons_with : FnScope ["labels", "wanted"] ["labels", "wanted"] (defScope st_persons_with) := ⟨rfl, rfl, rfl, by decide +kernel, rfl, by decide +kernel, by decide +kernel⟩
noncomputable def b_persons_with : Fn.Env → Option Fl := (sRet (eComp (eEnumL (eVar 0)) [none, none, some 1] (gTupF [0, 1]) (eT (e2 eqD (bVar 1) (bVar 2))) (eVar 0)))
noncomputable def G_persons_with : List D → Option D := runF 2 2 b_persons_with
theorem ok_persons_with {f : Addr} {fd : FuncData} (F : DefIn K mg "persons_with" st_persons_with ["labels", "wanted"] f fd) (T : Cns w K mg) (B : Blt mg)  : Has P w K mg base "persons_with" 1 G_persons_with := by
  refine has_of (k := 0) F sc_persons_with ?_
  intro cdv A outer s H E hr
  refine sss_one ?_
  refine ss_ret ?_
  refine se_comp (Nc := ["person", "label", "wanted"]) (cap := [none, none, some 1]) ?_ ?_ ?_ ?_ ?_
  exact comp_ok (N := ["labels", "wanted"]) (sc := defScope st_persons_with) rfl rfl (by decide +kernel)
  exact tame_vars (by decide)
  rfl
  refine si_enumL ?_ ?_
  exact B.enumerate_
  exact se_var 0
  intro cl C s₀ H₀ ex
  refine ⟨?_, ?_, ?_⟩
  refine sg_tup ?_ ?_
  rfl
  refine sgs_var (i := 0) ?_ ?_
  exact (show (["person", "label", "wanted"] : List Str).Nodup by decide +kernel)
  refine sgs_var (i := 1) ?_ ?_
  exact (show (["person", "label", "wanted"] : List Str).Nodup by decide +kernel)
  exact sgs_nil
  refine .one ?_
  refine st_eq (k := 0) ?_ ?_ ?_
  exact hr
  exact sb_var 1
  exact sb_var 2
  exact se_var 0
noncomputable abbrev st_groups_of : Stmt := top 28
theorem sc_groups_of : FnScope ["case", "labels", "telling"] ["case"] (defScope st_groups_of) := ⟨rfl, rfl, rfl, by decide +kernel, rfl, by decide +kernel, by decide +kernel⟩
noncomputable def b_groups_of : Fn.Env → Option Fl := (sSeq (sSet 1 (eLRng (e2 ixD (bVar 0) (eC (.int 1))))) (sSeq (sFor (eAny (e2 ixD (bVar 0) (eC (.int 3)))) (gVar 2) (sIf (eT (e2 inD (e2 ixD (bVar 2) (eC (.int 0))) (eC k_PERSON_WORDS))) (sSet 1 (eCall G_labels_joined (aCons (eVar 1) (aCons (e2 ixD (bVar 2) (eC (.int 1))) (aCons (e2 ixD (bVar 2) (eC (.int 2))) aNil))))) sNil)) (sRet (eComp (eAny (eSortSetI (bVar 1))) [none, some 1] (gVar 0) (fun _ => some true) (eCall G_persons_with (aCons (eVar 1) (aCons (eVar 0) aNil)))))))
noncomputable def G_groups_of : List D → Option D := runF 1 3 b_groups_of
theorem ok_groups_of {f : Addr} {fd : FuncData} (F : DefIn K mg "groups_of" st_groups_of ["case"] f fd) (T : Cns w K mg) (B : Blt mg) (h_labels_joined : Has P w K mg base "labels_joined" 1 G_labels_joined) (h_persons_with : Has P w K mg base "persons_with" 1 G_persons_with) : Has P w K mg base "groups_of" 2 G_groups_of := by
  refine has_of (k := 1) F sc_groups_of ?_
  intro cdv A outer s H E hr
  refine sss_cons ?_ ?_
  refine ss_asg (i := 1) ?_ ?_
  exact sc_groups_of.nd
  refine se_lrng ?_ ?_ ?_
  exact B.list_
  exact B.range_
  refine se_at ?_ ?_
  exact sb_var 0
  refine sb_of ?_
  exact se_int
  refine sss_cons ?_ ?_
  refine ss_for ?_ ?_ ?_ ?_ ?_
  exact PassesOwn.never
  rfl
  refine si_any ?_
  refine se_at ?_ ?_
  exact sb_var 0
  refine sb_of ?_
  exact se_int
  refine sg_var (i := 2) ?_
  exact sc_groups_of.nd
  refine sss_one ?_
  refine ss_if ?_ ?_ ?_
  refine st_in (k := 1) ?_ ?_ ?_
  exact hr
  refine sb_of ?_
  refine se_at ?_ ?_
  exact sb_var 2
  refine sb_of ?_
  exact se_int
  refine sb_of ?_
  refine se_kT ?_
  exact T.c_PERSON_WORDS
  refine sss_one ?_
  refine ss_asg (i := 1) ?_ ?_
  exact sc_groups_of.nd
  refine se_callG (k := 1) ?_ ?_ ?_
  exact h_labels_joined
  exact hr.mono (by decide)
  refine sa_cons ?_ ?_
  exact se_var 1
  refine sa_cons ?_ ?_
  refine se_at ?_ ?_
  exact sb_var 2
  refine sb_of ?_
  exact se_int
  refine sa_cons ?_ ?_
  refine se_at ?_ ?_
  exact sb_var 2
  refine sb_of ?_
  exact se_int
  exact sa_nil
  exact sss_nil
  refine sss_one ?_
  refine ss_ret ?_
  refine se_comp (Nc := ["label", "labels"]) (cap := [none, some 1]) ?_ ?_ ?_ ?_ ?_
  exact comp_ok (N := ["case", "labels", "telling"]) (sc := defScope st_groups_of) rfl rfl (by decide +kernel)
  exact tame_var rfl
  rfl
  refine si_any ?_
  refine se_sortedsetI (k := 1) ?_ ?_ ?_ ?_
  exact B.sorted_
  exact B.set_
  exact hr
  exact sb_var 1
  intro cl C s₀ H₀ ex
  refine ⟨?_, ?_, ?_⟩
  refine sg_var (i := 0) ?_
  exact (show (["label", "labels"] : List Str).Nodup by decide +kernel)
  exact .nil
  refine se_callG (k := 1) ?_ ?_ ?_
  exact h_persons_with
  exact hr.mono (by decide)
  refine sa_cons ?_ ?_
  exact se_var 1
  refine sa_cons ?_ ?_
  exact se_var 0
  exact sa_nil
noncomputable def bn_groups_of : Fn.Env → Option (List D) := (nSeq (sSet 1 (eLRng (e2 ixD (bVar 0) (eC (.int 1))))) (nSeq (sFor (eAny (e2 ixD (bVar 0) (eC (.int 3)))) (gVar 2) (sIf (eT (e2 inD (e2 ixD (bVar 2) (eC (.int 0))) (eC k_PERSON_WORDS))) (sSet 1 (eCall G_labels_joined (aCons (eVar 1) (aCons (e2 ixD (bVar 2) (eC (.int 1))) (aCons (e2 ixD (bVar 2) (eC (.int 2))) aNil))))) sNil)) (nComp (eAny (eSortSetI (bVar 1))) [none, some 1] (gVar 0) (fun _ => some true) (eCall G_persons_with (aCons (eVar 1) (aCons (eVar 0) aNil))))))
noncomputable def N_groups_of : List D → Option (List D) := runN 1 3 bn_groups_of
theorem okn_groups_of {f : Addr} {fd : FuncData} (F : DefIn K mg "groups_of" st_groups_of ["case"] f fd) (T : Cns w K mg) (B : Blt mg) (h_labels_joined : Has P w K mg base "labels_joined" 1 G_labels_joined) (h_persons_with : Has P w K mg base "persons_with" 1 G_persons_with) : HasN P w K mg base "groups_of" 2 N_groups_of := by
  refine hasN_of (k := 1) F sc_groups_of ?_
  intro cdv A outer s H E hr
  refine sssN_cons ?_ ?_
  refine ss_asg (i := 1) ?_ ?_
  exact sc_groups_of.nd
  refine se_lrng ?_ ?_ ?_
  exact B.list_
  exact B.range_
  refine se_at ?_ ?_
  exact sb_var 0
  refine sb_of ?_
  exact se_int
  refine sssN_cons ?_ ?_
  refine ss_for ?_ ?_ ?_ ?_ ?_
  exact PassesOwn.never
  rfl
  refine si_any ?_
  refine se_at ?_ ?_
  exact sb_var 0
  refine sb_of ?_
  exact se_int
  refine sg_var (i := 2) ?_
  exact sc_groups_of.nd
  refine sss_one ?_
  refine ss_if ?_ ?_ ?_
  refine st_in (k := 1) ?_ ?_ ?_
  exact hr
  refine sb_of ?_
  refine se_at ?_ ?_
  exact sb_var 2
  refine sb_of ?_
  exact se_int
  refine sb_of ?_
  refine se_kT ?_
  exact T.c_PERSON_WORDS
  refine sss_one ?_
  refine ss_asg (i := 1) ?_ ?_
  exact sc_groups_of.nd
  refine se_callG (k := 1) ?_ ?_ ?_
  exact h_labels_joined
  exact hr.mono (by decide)
  refine sa_cons ?_ ?_
  exact se_var 1
  refine sa_cons ?_ ?_
  refine se_at ?_ ?_
  exact sb_var 2
  refine sb_of ?_
  exact se_int
  refine sa_cons ?_ ?_
  refine se_at ?_ ?_
  exact sb_var 2
  refine sb_of ?_
  exact se_int
  exact sa_nil
  exact sss_nil
  refine sssN_ret ?_
  refine sn_comp (Nc := ["label", "labels"]) (cap := [none, some 1]) ?_ ?_ ?_ ?_ ?_
  exact comp_ok (N := ["case", "labels", "telling"]) (sc := defScope st_groups_of) rfl rfl (by decide +kernel)
  exact tame_var rfl
  rfl
  refine si_any ?_
  refine se_sortedsetI (k := 1) ?_ ?_ ?_ ?_
  exact B.sorted_
  exact B.set_
  exact hr
  exact sb_var 1
  intro cl C s₀ H₀ ex
  refine ⟨?_, ?_, ?_⟩
  refine sg_var (i := 0) ?_
  exact (show (["label", "labels"] : List Str).Nodup by decide +kernel)
  exact .nil
  refine se_callG (k := 1) ?_ ?_ ?_
  exact h_persons_with
  exact hr.mono (by decide)
  refine sa_cons ?_ ?_
  exact se_var 1
  refine sa_cons ?_ ?_
  exact se_var 0
  exact sa_nil
noncomputable abbrev st_renumbered : Stmt := top 29
theorem sc_renumbered : FnScope ["telling", "group", "what"] ["telling", "group"] (defScope st_renumbered) := ⟨rfl, rfl, rfl, by decide +kernel, rfl, by decide +kernel, by decide +kernel⟩
noncomputable def b_renumbered : Fn.Env → Option Fl := (sSeq (sSet 2 (eIf (eT (e2 inD (e2 ixD (bVar 0) (eC (.int 0))) (eC k_PERSON_WORDS))) (e2 indexD (bVar 1) (e2 ixD (bVar 0) (eC (.int 2)))) (e2 ixD (bVar 0) (eC (.int 2))))) (sRet (eTup (aCons (e2 ixD (bVar 0) (eC (.int 0))) (aCons (e2 indexD (bVar 1) (e2 ixD (bVar 0) (eC (.int 1)))) (aCons (eVar 2) (aCons (e2 ixD (bVar 0) (eC (.int 3))) (aCons (e2 ixD (bVar 0) (eC (.int 4))) aNil))))))))
noncomputable def G_renumbered : List D → Option D := runF 2 3 b_renumbered
theorem ok_renumbered {f : Addr} {fd : FuncData} (F : DefIn K mg "renumbered" st_renumbered ["telling", "group"] f fd) (T : Cns w K mg) (B : Blt mg)  : Has P w K mg base "renumbered" 1 G_renumbered := by
  refine has_of (k := 0) F sc_renumbered ?_
  intro cdv A outer s H E hr
  refine sss_cons ?_ ?_
  refine ss_asg (i := 2) ?_ ?_
  exact sc_renumbered.nd
  refine se_ifExp ?_ ?_ ?_
  refine st_in (k := 0) ?_ ?_ ?_
  exact hr
  refine sb_of ?_
  refine se_at ?_ ?_
  exact sb_var 0
  refine sb_of ?_
  exact se_int
  refine sb_of ?_
  refine se_kT ?_
  exact T.c_PERSON_WORDS
  refine se_index ?_ ?_
  exact sb_var 1
  refine se_at ?_ ?_
  exact sb_var 0
  refine sb_of ?_
  exact se_int
  refine se_at ?_ ?_
  exact sb_var 0
  refine sb_of ?_
  exact se_int
  refine sss_one ?_
  refine ss_ret ?_
  refine se_tup ?_
  refine sa_cons ?_ ?_
  refine se_at ?_ ?_
  exact sb_var 0
  refine sb_of ?_
  exact se_int
  refine sa_cons ?_ ?_
  refine se_index ?_ ?_
  exact sb_var 1
  refine se_at ?_ ?_
  exact sb_var 0
  refine sb_of ?_
  exact se_int
  refine sa_cons ?_ ?_
  exact se_var 2
  refine sa_cons ?_ ?_
  refine se_at ?_ ?_
  exact sb_var 0
  refine sb_of ?_
  exact se_int
  refine sa_cons ?_ ?_
  refine se_at ?_ ?_
  exact sb_var 0
  refine sb_of ?_
  exact se_int
  exact sa_nil
noncomputable abbrev st_part_of : Stmt := top 30
theorem sc_part_of : FnScope ["case", "group", "tellings"] ["case", "group"] (defScope st_part_of) := ⟨rfl, rfl, rfl, by decide +kernel, rfl, by decide +kernel, by decide +kernel⟩
noncomputable def b_part_of : Fn.Env → Option Fl := (sSeq (sSet 2 (eComp (eAny (e2 ixD (bVar 0) (eC (.int 3)))) [none, some 1] (gVar 0) (eT (e2 inD (e2 ixD (bVar 0) (eC (.int 1))) (bVar 1))) (eCall G_renumbered (aCons (eVar 0) (aCons (eVar 1) aNil))))) (sRet (eTup (aCons (e2 ixD (bVar 0) (eC (.int 0))) (aCons (eCall len1 (aCons (bVar 1) aNil)) (aCons (e2 ixD (bVar 0) (eC (.int 2))) (aCons (eCall tuple1 (aCons (bVar 2) aNil)) aNil)))))))
noncomputable def G_part_of : List D → Option D := runF 2 3 b_part_of
theorem ok_part_of {f : Addr} {fd : FuncData} (F : DefIn K mg "part_of" st_part_of ["case", "group"] f fd) (T : Cns w K mg) (B : Blt mg) (h_renumbered : Has P w K mg base "renumbered" 1 G_renumbered) : Has P w K mg base "part_of" 2 G_part_of := by
  refine has_of (k := 1) F sc_part_of ?_
  intro cdv A outer s H E hr
  refine sss_cons ?_ ?_
  refine ss_asgC (i := 2) (Nc := ["telling", "group"]) (cap := [none, some 1]) ?_ ?_ ?_ ?_ ?_ ?_
  exact sc_part_of.nd
  exact comp_ok (N := ["case", "group", "tellings"]) (sc := defScope st_part_of) rfl rfl (by decide +kernel)
  exact tame_var rfl
  rfl
  refine si_any ?_
  refine se_at ?_ ?_
  exact sb_var 0
  refine sb_of ?_
  exact se_int
  intro cl C s₀ H₀ ex
  refine ⟨?_, ?_, ?_⟩
  refine sg_var (i := 0) ?_
  exact (show (["telling", "group"] : List Str).Nodup by decide +kernel)
  refine .one ?_
  refine st_in (k := 1) ?_ ?_ ?_
  exact hr
  refine sb_of ?_
  refine se_at ?_ ?_
  exact sb_var 0
  refine sb_of ?_
  exact se_int
  exact sb_var 1
  refine se_callG (k := 1) ?_ ?_ ?_
  exact h_renumbered
  exact hr.mono (by decide)
  refine sa_cons ?_ ?_
  exact se_var 0
  refine sa_cons ?_ ?_
  exact se_var 1
  exact sa_nil
  refine sss_one ?_
  refine ss_ret ?_
  refine se_tup ?_
  refine sa_cons ?_ ?_
  refine se_at ?_ ?_
  exact sb_var 0
  refine sb_of ?_
  exact se_int
  refine sa_cons ?_ ?_
  refine se_len ?_ ?_
  exact B.len_
  refine sab_cons ?_ ?_
  exact sb_var 1
  exact sab_nil
  refine sa_cons ?_ ?_
  refine se_at ?_ ?_
  exact sb_var 0
  refine sb_of ?_
  exact se_int
  refine sa_cons ?_ ?_
  refine se_tuple ?_ ?_
  exact B.tuple_
  refine sab_cons ?_ ?_
  exact sb_var 2
  exact sab_nil
  exact sa_nil
noncomputable abbrev st_tied : Stmt := top 32
theorem sc_tied : FnScope ["case"] ["case"] (defScope st_tied) := ⟨rfl, rfl, rfl, by decide +kernel, rfl, by decide +kernel, by decide +kernel⟩
noncomputable def b_tied : Fn.Env → Option Fl := (sSeq (sExpr (eCall G_demand_case (aCons (eVar 0) aNil))) (sRet (eCall G_groups_of (aCons (eVar 0) aNil))))
noncomputable def G_tied : List D → Option D := runF 1 1 b_tied
theorem ok_tied {f : Addr} {fd : FuncData} (F : DefIn K mg "tied" st_tied ["case"] f fd) (T : Cns w K mg) (B : Blt mg) (h_demand_case : Has P w K mg base "demand_case" 7 G_demand_case) (h_groups_of : Has P w K mg base "groups_of" 2 G_groups_of) : Has P w K mg base "tied" 8 G_tied := by
  refine has_of (k := 7) F sc_tied ?_
  intro cdv A outer s H E hr
  refine sss_cons ?_ ?_
  refine ss_exprX ?_
  refine se_callG (k := 7) ?_ ?_ ?_
  exact h_demand_case
  exact hr.mono (by decide)
  refine sa_cons ?_ ?_
  exact se_var 0
  exact sa_nil
  refine sss_one ?_
  refine ss_ret ?_
  refine se_callG (k := 2) ?_ ?_ ?_
  exact h_groups_of
  exact hr.mono (by decide)
  refine sa_cons ?_ ?_
  exact se_var 0
  exact sa_nil
noncomputable def bn_tied : Fn.Env → Option (List D) := (nSeq (sExpr (eCall G_demand_case (aCons (eVar 0) aNil))) (nCall N_groups_of (aCons (eVar 0) aNil)))
noncomputable def N_tied : List D → Option (List D) := runN 1 1 bn_tied
theorem okn_tied {f : Addr} {fd : FuncData} (F : DefIn K mg "tied" st_tied ["case"] f fd) (T : Cns w K mg) (B : Blt mg) (h_demand_case : Has P w K mg base "demand_case" 7 G_demand_case) (hn_groups_of : HasN P w K mg base "groups_of" 2 N_groups_of) : HasN P w K mg base "tied" 8 N_tied := by
  refine hasN_of (k := 7) F sc_tied ?_
  intro cdv A outer s H E hr
  refine sssN_cons ?_ ?_
  refine ss_exprX ?_
  refine se_callG (k := 7) ?_ ?_ ?_
  exact h_demand_case
  exact hr.mono (by decide)
  refine sa_cons ?_ ?_
  exact se_var 0
  exact sa_nil
  refine sssN_ret ?_
  refine sn_callG (k := 2) ?_ ?_ ?_
  exact hn_groups_of
  exact hr.mono (by decide)
  refine sa_cons ?_ ?_
  exact se_var 0
  exact sa_nil
noncomputable def y_tied : Fn.Env → Option Str := (xCall X_demand_case (aCons (eVar 0) aNil))
noncomputable def X_tied : List D → Option Str := runX 1 1 y_tied
theorem okx_tied {f : Addr} {fd : FuncData} (F : DefIn K mg "tied" st_tied ["case"] f fd) (T : Cns w K mg) (B : Blt mg) (hx_demand_case : HasX P w K mg base "demand_case" 7 X_demand_case) : HasX P w K mg base "tied" 8 X_tied := by
  obtain ⟨T_, C_NoCase, C_NoTelling, C_NoPlace, C_Nothing, X_⟩ := T.ex
  refine hasX_of (k := 7) F sc_tied ?_
  intro cdv A outer s H E hr
  refine rss_here ?_
  refine rs_expr ?_
  refine re_call (k := 7) ?_ ?_ ?_ ?_
  exact hx_demand_case
  exact hr.mono (by decide)
  exact passes_cx
  refine sa_cons ?_ ?_
  exact se_var 0
  exact sa_nil
noncomputable abbrev st_alone : Stmt := top 33
theorem sc_alone : FnScope ["case", "group"] ["case", "group"] (defScope st_alone) := ⟨rfl, rfl, rfl, by decide +kernel, rfl, by decide +kernel, by decide +kernel⟩
noncomputable def b_alone : Fn.Env → Option Fl := (sSeq (sExpr (eCall G_demand_case (aCons (eVar 0) aNil))) (sRet (eCall G_part_of (aCons (eVar 0) (aCons (eVar 1) aNil)))))
noncomputable def G_alone : List D → Option D := runF 2 2 b_alone
theorem ok_alone {f : Addr} {fd : FuncData} (F : DefIn K mg "alone" st_alone ["case", "group"] f fd) (T : Cns w K mg) (B : Blt mg) (h_demand_case : Has P w K mg base "demand_case" 7 G_demand_case) (h_part_of : Has P w K mg base "part_of" 2 G_part_of) : Has P w K mg base "alone" 8 G_alone := by
  refine has_of (k := 7) F sc_alone ?_
  intro cdv A outer s H E hr
  refine sss_cons ?_ ?_
  refine ss_exprX ?_
  refine se_callG (k := 7) ?_ ?_ ?_
  exact h_demand_case
  exact hr.mono (by decide)
  refine sa_cons ?_ ?_
  exact se_var 0
  exact sa_nil
  refine sss_one ?_
  refine ss_ret ?_
  refine se_callG (k := 2) ?_ ?_ ?_
  exact h_part_of
  exact hr.mono (by decide)
  refine sa_cons ?_ ?_
  exact se_var 0
  refine sa_cons ?_ ?_
  exact se_var 1
  exact sa_nil
noncomputable def y_alone : Fn.Env → Option Str := (xCall X_demand_case (aCons (eVar 0) aNil))
noncomputable def X_alone : List D → Option Str := runX 2 2 y_alone
theorem okx_alone {f : Addr} {fd : FuncData} (F : DefIn K mg "alone" st_alone ["case", "group"] f fd) (T : Cns w K mg) (B : Blt mg) (hx_demand_case : HasX P w K mg base "demand_case" 7 X_demand_case) : HasX P w K mg base "alone" 8 X_alone := by
  obtain ⟨T_, C_NoCase, C_NoTelling, C_NoPlace, C_Nothing, X_⟩ := T.ex
  refine hasX_of (k := 7) F sc_alone ?_
  intro cdv A outer s H E hr
  refine rss_here ?_
  refine rs_expr ?_
  refine re_call (k := 7) ?_ ?_ ?_ ?_
  exact hx_demand_case
  exact hr.mono (by decide)
  exact passes_cx
  refine sa_cons ?_ ?_
  exact se_var 0
  exact sa_nil
noncomputable abbrev st__law_cell : Stmt := top 35
theorem sc__law_cell : FnScope ["_law_script", "_law_k"] ["_law_script", "_law_k"] (defScope st__law_cell) := ⟨rfl, rfl, rfl, by decide +kernel, rfl, by decide +kernel, by decide +kernel⟩
noncomputable def b__law_cell : Fn.Env → Option Fl := (sSeq (sIf (eT (e2 eqD (bVar 0) (eLst aNil))) (sRet (e2 mulD (eC (.int 7)) (bVar 1))) sNil) (sRet (e2 addD (e2 ixD (bVar 0) (e2 modD (bVar 1) (eCall len1 (aCons (bVar 0) aNil)))) (e2 mulD (eC (.int 6553)) (e2 fdivD (bVar 1) (eCall len1 (aCons (bVar 0) aNil)))))))
noncomputable def G__law_cell : List D → Option D := runF 2 2 b__law_cell
theorem ok__law_cell {f : Addr} {fd : FuncData} (F : DefIn K mg "_law_cell" st__law_cell ["_law_script", "_law_k"] f fd) (T : Cns w K mg) (B : Blt mg)  : Has P w K mg base "_law_cell" 1 G__law_cell := by
  refine has_of (k := 0) F sc__law_cell ?_
  intro cdv A outer s H E hr
  refine sss_cons ?_ ?_
  refine ss_if ?_ ?_ ?_
  refine st_eq (k := 0) ?_ ?_ ?_
  exact hr
  exact sb_var 0
  refine sb_of ?_
  refine se_lst ?_
  exact sa_nil
  refine sss_one ?_
  refine ss_ret ?_
  refine se_mul ?_ ?_
  refine sb_of ?_
  exact se_int
  exact sb_var 1
  exact sss_nil
  refine sss_one ?_
  refine ss_ret ?_
  refine se_add ?_ ?_
  refine sb_of ?_
  refine se_at ?_ ?_
  exact sb_var 0
  refine sb_of ?_
  refine se_mod ?_ ?_
  exact sb_var 1
  refine sb_of ?_
  refine se_len ?_ ?_
  exact B.len_
  refine sab_cons ?_ ?_
  exact sb_var 0
  exact sab_nil
  refine sb_of ?_
  refine se_mul ?_ ?_
  refine sb_of ?_
  exact se_int
  refine sb_of ?_
  refine se_fdiv ?_ ?_
  exact sb_var 1
  refine sb_of ?_
  refine se_len ?_ ?_
  exact B.len_
  refine sab_cons ?_ ?_
  exact sb_var 0
  exact sab_nil
noncomputable abbrev st__law_drawn : Stmt := top 36
theorem sc__law_drawn : FnScope ["_law_script", "_law_k", "_law_many_here", "_law_cell_here"] ["_law_script", "_law_k", "_law_many_here"] (defScope st__law_drawn) := ⟨rfl, rfl, rfl, by decide +kernel, rfl, by decide +kernel, by decide +kernel⟩
noncomputable def b__law_drawn : Fn.Env → Option Fl := (sSeq (sSet 3 (e2 modD (e2 addD (e2 mulD (e2 modD (eCall G__law_cell (aCons (eVar 0) (aCons (eVar 1) aNil))) (eC (.int 2147483563))) (eC (.int 69069))) (e2 mulD (eC (.int 104723)) (e2 addD (bVar 1) (eC (.int 1))))) (eC (.int 2147483563)))) (sSeq (sSet 3 (e2 modD (e2 addD (e2 mulD (bVar 3) (bVar 3)) (e2 fdivD (bVar 3) (eC (.int 3)))) (eC (.int 2147483399)))) (sRet (e2 modD (e2 fdivD (e2 modD (e2 addD (e2 mulD (bVar 3) (bVar 3)) (e2 fdivD (bVar 3) (eC (.int 7)))) (eC (.int 2147483647))) (eC (.int 11))) (bVar 2)))))
noncomputable def G__law_drawn : List D → Option D := runF 3 4 b__law_drawn
theorem ok__law_drawn {f : Addr} {fd : FuncData} (F : DefIn K mg "_law_drawn" st__law_drawn ["_law_script", "_law_k", "_law_many_here"] f fd) (T : Cns w K mg) (B : Blt mg) (h__law_cell : Has P w K mg base "_law_cell" 1 G__law_cell) : Has P w K mg base "_law_drawn" 2 G__law_drawn := by
  refine has_of (k := 1) F sc__law_drawn ?_
  intro cdv A outer s H E hr
  refine sss_cons ?_ ?_
  refine ss_asg (i := 3) ?_ ?_
  exact sc__law_drawn.nd
  refine se_mod ?_ ?_
  refine sb_of ?_
  refine se_add ?_ ?_
  refine sb_of ?_
  refine se_mul ?_ ?_
  refine sb_of ?_
  refine se_mod ?_ ?_
  refine sb_of ?_
  refine se_callG (k := 1) ?_ ?_ ?_
  exact h__law_cell
  exact hr.mono (by decide)
  refine sa_cons ?_ ?_
  exact se_var 0
  refine sa_cons ?_ ?_
  exact se_var 1
  exact sa_nil
  refine sb_of ?_
  exact se_int
  refine sb_of ?_
  exact se_int
  refine sb_of ?_
  refine se_mul ?_ ?_
  refine sb_of ?_
  exact se_int
  refine sb_of ?_
  refine se_add ?_ ?_
  exact sb_var 1
  refine sb_of ?_
  exact se_int
  refine sb_of ?_
  exact se_int
  refine sss_cons ?_ ?_
  refine ss_asg (i := 3) ?_ ?_
  exact sc__law_drawn.nd
  refine se_mod ?_ ?_
  refine sb_of ?_
  refine se_add ?_ ?_
  refine sb_of ?_
  refine se_mul ?_ ?_
  exact sb_var 3
  exact sb_var 3
  refine sb_of ?_
  refine se_fdiv ?_ ?_
  exact sb_var 3
  refine sb_of ?_
  exact se_int
  refine sb_of ?_
  exact se_int
  refine sss_one ?_
  refine ss_ret ?_
  refine se_mod ?_ ?_
  refine sb_of ?_
  refine se_fdiv ?_ ?_
  refine sb_of ?_
  refine se_mod ?_ ?_
  refine sb_of ?_
  refine se_add ?_ ?_
  refine sb_of ?_
  refine se_mul ?_ ?_
  exact sb_var 3
  exact sb_var 3
  refine sb_of ?_
  refine se_fdiv ?_ ?_
  exact sb_var 3
  refine sb_of ?_
  exact se_int
  refine sb_of ?_
  exact se_int
  refine sb_of ?_
  exact se_int
  exact sb_var 2
noncomputable abbrev st__law_town : Stmt := top 37
theorem sc__law_town : FnScope ["_law_script", "_law_at", "_law_most", "_law_many_here", "_law_ways", "_law_one", "_law_other"] ["_law_script", "_law_at", "_law_most"] (defScope st__law_town) := ⟨rfl, rfl, rfl, by decide +kernel, rfl, by decide +kernel, by decide +kernel⟩
noncomputable def b__law_town : Fn.Env → Option Fl := (sSeq (sSet 3 (e2 addD (eC (.int 1)) (eCall G__law_drawn (aCons (eVar 0) (aCons (eVar 1) (aCons (eVar 2) aNil)))))) (sSeq (sSetN 4 (nLst aNil)) (sSeq (sFor (eRng1 (eVar 3)) (gVar 5) (sFor (eRng2 (e2 addD (bVar 5) (eC (.int 1))) (eVar 3)) (gVar 6) (sIf (eT (e2 gtI (eCall G__law_drawn (aCons (eVar 0) (aCons (e2 addD (e2 addD (e2 addD (bVar 1) (eC (.int 1))) (e2 mulD (eC (.int 4)) (bVar 5))) (bVar 6)) (aCons (eC (.int 4)) aNil)))) (eC (.int 0)))) (sApp 4 (eTup (aCons (eVar 5) (aCons (eVar 6) (aCons (e2 ixD (eLst (aCons (eC (.int 1)) (aCons (eC (.int 1)) (aCons (eC (.int 2)) aNil)))) (eCall G__law_drawn (aCons (eVar 0) (aCons (e2 addD (e2 addD (e2 addD (bVar 1) (eC (.int 20))) (e2 mulD (eC (.int 4)) (bVar 5))) (bVar 6)) (aCons (eC (.int 3)) aNil))))) aNil))))) sNil))) (sRet (eTup (aCons (eVar 3) (aCons (eCall tuple1 (aCons (bVar 4) aNil)) aNil)))))))
noncomputable def G__law_town : List D → Option D := runF 3 7 b__law_town
theorem ok__law_town {f : Addr} {fd : FuncData} (F : DefIn K mg "_law_town" st__law_town ["_law_script", "_law_at", "_law_most"] f fd) (T : Cns w K mg) (B : Blt mg) (h__law_drawn : Has P w K mg base "_law_drawn" 2 G__law_drawn) : Has P w K mg base "_law_town" 3 G__law_town := by
  refine has_of (k := 2) F sc__law_town ?_
  intro cdv A outer s H E hr
  refine sss_cons ?_ ?_
  refine ss_asg (i := 3) ?_ ?_
  exact sc__law_town.nd
  refine se_add ?_ ?_
  refine sb_of ?_
  exact se_int
  refine sb_of ?_
  refine se_callG (k := 2) ?_ ?_ ?_
  exact h__law_drawn
  exact hr.mono (by decide)
  refine sa_cons ?_ ?_
  exact se_var 0
  refine sa_cons ?_ ?_
  exact se_var 1
  refine sa_cons ?_ ?_
  exact se_var 2
  exact sa_nil
  refine sss_cons ?_ ?_
  refine ss_asgN (i := 4) ?_ ?_
  exact sc__law_town.nd
  refine sn_lst ?_
  exact sa_nil
  refine sss_cons ?_ ?_
  refine ss_for ?_ ?_ ?_ ?_ ?_
  exact PassesOwn.never
  rfl
  refine si_rng1 ?_ ?_
  exact B.range_
  exact se_var 3
  refine sg_var (i := 5) ?_
  exact sc__law_town.nd
  refine sss_one ?_
  refine ss_for ?_ ?_ ?_ ?_ ?_
  exact PassesOwn.never
  rfl
  refine si_rng2 ?_ ?_ ?_
  exact B.range_
  refine se_add ?_ ?_
  exact sb_var 5
  refine sb_of ?_
  exact se_int
  exact se_var 3
  refine sg_var (i := 6) ?_
  exact sc__law_town.nd
  refine sss_one ?_
  refine ss_if ?_ ?_ ?_
  refine st_gt ?_ ?_
  refine sb_of ?_
  refine se_callG (k := 2) ?_ ?_ ?_
  exact h__law_drawn
  exact hr.mono (by decide)
  refine sa_cons ?_ ?_
  exact se_var 0
  refine sa_cons ?_ ?_
  refine se_add ?_ ?_
  refine sb_of ?_
  refine se_add ?_ ?_
  refine sb_of ?_
  refine se_add ?_ ?_
  exact sb_var 1
  refine sb_of ?_
  exact se_int
  refine sb_of ?_
  refine se_mul ?_ ?_
  refine sb_of ?_
  exact se_int
  exact sb_var 5
  exact sb_var 6
  refine sa_cons ?_ ?_
  exact se_int
  exact sa_nil
  refine sb_of ?_
  exact se_int
  refine sss_one ?_
  refine ss_push (i := 4) ?_
  refine se_tup ?_
  refine sa_cons ?_ ?_
  exact se_var 5
  refine sa_cons ?_ ?_
  exact se_var 6
  refine sa_cons ?_ ?_
  refine se_at ?_ ?_
  refine sb_of ?_
  refine se_lst ?_
  refine sa_cons ?_ ?_
  exact se_int
  refine sa_cons ?_ ?_
  exact se_int
  refine sa_cons ?_ ?_
  exact se_int
  exact sa_nil
  refine sb_of ?_
  refine se_callG (k := 2) ?_ ?_ ?_
  exact h__law_drawn
  exact hr.mono (by decide)
  refine sa_cons ?_ ?_
  exact se_var 0
  refine sa_cons ?_ ?_
  refine se_add ?_ ?_
  refine sb_of ?_
  refine se_add ?_ ?_
  refine sb_of ?_
  refine se_add ?_ ?_
  exact sb_var 1
  refine sb_of ?_
  exact se_int
  refine sb_of ?_
  refine se_mul ?_ ?_
  refine sb_of ?_
  exact se_int
  exact sb_var 5
  exact sb_var 6
  refine sa_cons ?_ ?_
  exact se_int
  exact sa_nil
  exact sa_nil
  exact sss_nil
  refine sss_one ?_
  refine ss_ret ?_
  refine se_tup ?_
  refine sa_cons ?_ ?_
  exact se_var 3
  refine sa_cons ?_ ?_
  refine se_tuple ?_ ?_
  exact B.tuple_
  refine sab_cons ?_ ?_
  exact sb_var 4
  exact sab_nil
  exact sa_nil
noncomputable abbrev st__law_telling : Stmt := top 38
theorem sc__law_telling : FnScope ["_law_script", "_law_at", "_law_many_here", "_law_persons", "_law_last", "_law_words", "_law_word", "_law_who", "_law_first", "_law_end", "_law_what"] ["_law_script", "_law_at", "_law_many_here", "_law_persons", "_law_last"] (defScope st__law_telling) := ⟨rfl, rfl, rfl, by decide +kernel, rfl, by decide +kernel, by decide +kernel⟩
noncomputable def b__law_telling : Fn.Env → Option Fl := (sSeq (sSet 5 (eSlice (eLst (aCons (eC (.str "there")) (aCons (eC (.str "seen")) (aCons (eC (.str "seen")) (aCons (eC (.str "never")) (aCons (eC (.str "met")) (aCons (eC (.str "apart")) aNil))))))) oNone (oSome (e2 addD (eC (.int 4)) (e2 mulD (eC (.int 2)) (eCall int1 (aCons (e2 gtI (bVar 3) (eC (.int 1))) aNil))))))) (sSeq (sSet 6 (e2 ixD (bVar 5) (eCall G__law_drawn (aCons (eVar 0) (aCons (eVar 1) (aCons (eCall len1 (aCons (bVar 5) aNil)) aNil)))))) (sSeq (sSet 7 (eCall G__law_drawn (aCons (eVar 0) (aCons (e2 addD (bVar 1) (eC (.int 1))) (aCons (eVar 3) aNil))))) (sSeq (sSet 8 (eCall G__law_drawn (aCons (eVar 0) (aCons (e2 addD (bVar 1) (eC (.int 3))) (aCons (e2 addD (bVar 4) (eC (.int 1))) aNil))))) (sSeq (sSet 9 (e2 addD (bVar 8) (eCall G__law_drawn (aCons (eVar 0) (aCons (e2 addD (bVar 1) (eC (.int 4))) (aCons (e2 addD (e2 (iI fun i j => i - j) (bVar 4) (bVar 8)) (eC (.int 1))) aNil)))))) (sSeq (sSet 10 (eCall G__law_drawn (aCons (eVar 0) (aCons (e2 addD (bVar 1) (eC (.int 2))) (aCons (eVar 2) aNil))))) (sSeq (sIf (eT (e2 inD (bVar 6) (eTup (aCons (eC (.str "met")) (aCons (eC (.str "apart")) aNil))))) (sSet 10 (e2 modD (e2 addD (e2 addD (bVar 7) (eC (.int 1))) (eCall G__law_drawn (aCons (eVar 0) (aCons (e2 addD (bVar 1) (eC (.int 2))) (aCons (e2 (iI fun i j => i - j) (bVar 3) (eC (.int 1))) aNil))))) (bVar 3))) sNil) (sRet (eTup (aCons (eVar 6) (aCons (eVar 7) (aCons (eVar 10) (aCons (eVar 8) (aCons (eVar 9) aNil))))))))))))))
noncomputable def G__law_telling : List D → Option D := runF 5 11 b__law_telling
theorem ok__law_telling {f : Addr} {fd : FuncData} (F : DefIn K mg "_law_telling" st__law_telling ["_law_script", "_law_at", "_law_many_here", "_law_persons", "_law_last"] f fd) (T : Cns w K mg) (B : Blt mg) (h__law_drawn : Has P w K mg base "_law_drawn" 2 G__law_drawn) : Has P w K mg base "_law_telling" 3 G__law_telling := by
  refine has_of (k := 2) F sc__law_telling ?_
  intro cdv A outer s H E hr
  refine sss_cons ?_ ?_
  refine ss_asg (i := 5) ?_ ?_
  exact sc__law_telling.nd
  refine se_slice ?_ ?_ ?_
  refine sb_of ?_
  refine se_lst ?_
  refine sa_cons ?_ ?_
  exact se_str
  refine sa_cons ?_ ?_
  exact se_str
  refine sa_cons ?_ ?_
  exact se_str
  refine sa_cons ?_ ?_
  exact se_str
  refine sa_cons ?_ ?_
  exact se_str
  refine sa_cons ?_ ?_
  exact se_str
  exact sa_nil
  exact so_none
  refine so_some ?_
  refine se_add ?_ ?_
  refine sb_of ?_
  exact se_int
  refine sb_of ?_
  refine se_mul ?_ ?_
  refine sb_of ?_
  exact se_int
  refine sb_of ?_
  refine se_intc ?_ ?_
  exact B.int_
  refine sab_cons ?_ ?_
  refine sb_of ?_
  refine se_gt ?_ ?_
  exact sb_var 3
  refine sb_of ?_
  exact se_int
  exact sab_nil
  refine sss_cons ?_ ?_
  refine ss_asg (i := 6) ?_ ?_
  exact sc__law_telling.nd
  refine se_at ?_ ?_
  exact sb_var 5
  refine sb_of ?_
  refine se_callG (k := 2) ?_ ?_ ?_
  exact h__law_drawn
  exact hr.mono (by decide)
  refine sa_cons ?_ ?_
  exact se_var 0
  refine sa_cons ?_ ?_
  exact se_var 1
  refine sa_cons ?_ ?_
  refine se_len ?_ ?_
  exact B.len_
  refine sab_cons ?_ ?_
  exact sb_var 5
  exact sab_nil
  exact sa_nil
  refine sss_cons ?_ ?_
  refine ss_asg (i := 7) ?_ ?_
  exact sc__law_telling.nd
  refine se_callG (k := 2) ?_ ?_ ?_
  exact h__law_drawn
  exact hr.mono (by decide)
  refine sa_cons ?_ ?_
  exact se_var 0
  refine sa_cons ?_ ?_
  refine se_add ?_ ?_
  exact sb_var 1
  refine sb_of ?_
  exact se_int
  refine sa_cons ?_ ?_
  exact se_var 3
  exact sa_nil
  refine sss_cons ?_ ?_
  refine ss_asg (i := 8) ?_ ?_
  exact sc__law_telling.nd
  refine se_callG (k := 2) ?_ ?_ ?_
  exact h__law_drawn
  exact hr.mono (by decide)
  refine sa_cons ?_ ?_
  exact se_var 0
  refine sa_cons ?_ ?_
  refine se_add ?_ ?_
  exact sb_var 1
  refine sb_of ?_
  exact se_int
  refine sa_cons ?_ ?_
  refine se_add ?_ ?_
  exact sb_var 4
  refine sb_of ?_
  exact se_int
  exact sa_nil
  refine sss_cons ?_ ?_
  refine ss_asg (i := 9) ?_ ?_
  exact sc__law_telling.nd
  refine se_add ?_ ?_
  exact sb_var 8
  refine sb_of ?_
  refine se_callG (k := 2) ?_ ?_ ?_
  exact h__law_drawn
  exact hr.mono (by decide)
  refine sa_cons ?_ ?_
  exact se_var 0
  refine sa_cons ?_ ?_
  refine se_add ?_ ?_
  exact sb_var 1
  refine sb_of ?_
  exact se_int
  refine sa_cons ?_ ?_
  refine se_add ?_ ?_
  refine sb_of ?_
  refine se_sub ?_ ?_
  exact sb_var 4
  exact sb_var 8
  refine sb_of ?_
  exact se_int
  exact sa_nil
  refine sss_cons ?_ ?_
  refine ss_asg (i := 10) ?_ ?_
  exact sc__law_telling.nd
  refine se_callG (k := 2) ?_ ?_ ?_
  exact h__law_drawn
  exact hr.mono (by decide)
  refine sa_cons ?_ ?_
  exact se_var 0
  refine sa_cons ?_ ?_
  refine se_add ?_ ?_
  exact sb_var 1
  refine sb_of ?_
  exact se_int
  refine sa_cons ?_ ?_
  exact se_var 2
  exact sa_nil
  refine sss_cons ?_ ?_
  refine ss_if ?_ ?_ ?_
  refine st_in (k := 2) ?_ ?_ ?_
  exact hr
  exact sb_var 6
  refine sb_of ?_
  refine se_tup ?_
  refine sa_cons ?_ ?_
  exact se_str
  refine sa_cons ?_ ?_
  exact se_str
  exact sa_nil
  refine sss_one ?_
  refine ss_asg (i := 10) ?_ ?_
  exact sc__law_telling.nd
  refine se_mod ?_ ?_
  refine sb_of ?_
  refine se_add ?_ ?_
  refine sb_of ?_
  refine se_add ?_ ?_
  exact sb_var 7
  refine sb_of ?_
  exact se_int
  refine sb_of ?_
  refine se_callG (k := 2) ?_ ?_ ?_
  exact h__law_drawn
  exact hr.mono (by decide)
  refine sa_cons ?_ ?_
  exact se_var 0
  refine sa_cons ?_ ?_
  refine se_add ?_ ?_
  exact sb_var 1
  refine sb_of ?_
  exact se_int
  refine sa_cons ?_ ?_
  refine se_sub ?_ ?_
  exact sb_var 3
  refine sb_of ?_
  exact se_int
  exact sa_nil
  exact sb_var 3
  exact sss_nil
  refine sss_one ?_
  refine ss_ret ?_
  refine se_tup ?_
  refine sa_cons ?_ ?_
  exact se_var 6
  refine sa_cons ?_ ?_
  exact se_var 7
  refine sa_cons ?_ ?_
  exact se_var 10
  refine sa_cons ?_ ?_
  exact se_var 8
  refine sa_cons ?_ ?_
  exact se_var 9
  exact sa_nil
noncomputable abbrev st__law_refused : Stmt := top 40
theorem sc__law_refused : FnScope ["_law_e", "_law_flags"] ["_law_e"] (defScope st__law_refused) := ⟨rfl, rfl, rfl, by decide +kernel, rfl, by decide +kernel, by decide +kernel⟩
noncomputable def b__law_refused (i_NoCase i_NoTelling i_NoPlace i_Nothing : Bool) (e : Addr) : Fn.Env → Option Fl := (sSeq (sSet 1 (eLst (aCons (eIsx 0 e i_NoCase) (aCons (eIsx 0 e i_NoTelling) (aCons (eIsx 0 e i_NoPlace) aNil))))) (sSeq (sSet 1 (e2 addD (bVar 1) (eLst (aCons (eIsx 0 e i_Nothing) aNil)))) (sSeq (sIf (tOrF (eT (e2 neD (e2 countD (bVar 1) (eC (.bool true))) (eC (.int 1)))) (tNotF (eT (eIsx 0 e true)))) (sRet (eTup (aCons (eC (.str "refused")) (aCons (eC (.int (-1))) aNil)))) sNil) (sRet (eTup (aCons (eC (.str "refused")) (aCons (e2 indexD (bVar 1) (eC (.bool true))) aNil)))))))
theorem hd__law_refused {f : Addr} {fd : FuncData} (F : DefIn K mg "_law_refused" st__law_refused ["_law_e"] f fd) (B : Blt mg) {C C_NoCase C_NoTelling C_NoPlace C_Nothing : Addr} {i_NoCase i_NoTelling i_NoPlace i_Nothing : Bool} {res : D} (xk : ExK K C) (xv : PySem.W.kitOne K (.ref C) (.type "ValueError") = some true) (m_NoCase : mg "NoCase" = some (.ref C_NoCase)) (xi_NoCase : PySem.W.kitOne K (.ref C) (.ref C_NoCase) = some i_NoCase) (m_NoTelling : mg "NoTelling" = some (.ref C_NoTelling)) (xi_NoTelling : PySem.W.kitOne K (.ref C) (.ref C_NoTelling) = some i_NoTelling) (m_NoPlace : mg "NoPlace" = some (.ref C_NoPlace)) (xi_NoPlace : PySem.W.kitOne K (.ref C) (.ref C_NoPlace) = some i_NoPlace) (m_Nothing : mg "Nothing" = some (.ref C_Nothing)) (xi_Nothing : PySem.W.kitOne K (.ref C) (.ref C_Nothing) = some i_Nothing) (hres : ∀ e, b__law_refused i_NoCase i_NoTelling i_NoPlace i_Nothing e (Cel.ref e :: List.replicate 1 Cel.emp) = some (.rt res)) : HandOk P w K mg base "_law_refused" 1 C res := by
  refine hand_of (b := b__law_refused i_NoCase i_NoTelling i_NoPlace i_Nothing) F sc__law_refused hres ?_
  intro cdv A A1 outer s H e oe pn hu
  refine sss_cons ?_ ?_
  refine ss_asg (i := 1) ?_ ?_
  exact sc__law_refused.nd
  refine se_lst ?_
  refine sa_cons ?_ ?_
  refine se_isx (C := C) (Dd := C_NoCase) ?_ ?_ ?_ ?_ ?_
  exact B.isinstance_
  exact pn
  exact xk
  exact m_NoCase
  exact xi_NoCase
  refine sa_cons ?_ ?_
  refine se_isx (C := C) (Dd := C_NoTelling) ?_ ?_ ?_ ?_ ?_
  exact B.isinstance_
  exact pn
  exact xk
  exact m_NoTelling
  exact xi_NoTelling
  refine sa_cons ?_ ?_
  refine se_isx (C := C) (Dd := C_NoPlace) ?_ ?_ ?_ ?_ ?_
  exact B.isinstance_
  exact pn
  exact xk
  exact m_NoPlace
  exact xi_NoPlace
  exact sa_nil
  refine sss_cons ?_ ?_
  refine ss_asg (i := 1) ?_ ?_
  exact sc__law_refused.nd
  refine se_add ?_ ?_
  exact sb_var 1
  refine sb_of ?_
  refine se_lst ?_
  refine sa_cons ?_ ?_
  refine se_isx (C := C) (Dd := C_Nothing) ?_ ?_ ?_ ?_ ?_
  exact B.isinstance_
  exact pn
  exact xk
  exact m_Nothing
  exact xi_Nothing
  exact sa_nil
  refine sss_cons ?_ ?_
  refine ss_if ?_ ?_ ?_
  refine st_sw ?_
  refine sw_or ?_ ?_
  refine st_neU ?_ ?_ ?_
  exact hu
  refine sb_of ?_
  refine se_count ?_ ?_
  exact sb_var 1
  exact se_bl
  refine sb_of ?_
  exact se_int
  refine sw_or1 ?_
  refine st_not ?_
  refine st_val ?_
  refine se_isxV (C := C) ?_ ?_ ?_ ?_ ?_
  exact B.isinstance_
  exact B.ValueError_
  exact pn
  exact xk
  exact xv
  refine sss_one ?_
  refine ss_ret ?_
  refine se_tup ?_
  refine sa_cons ?_ ?_
  exact se_str
  refine sa_cons ?_ ?_
  exact se_neg
  exact sa_nil
  exact sss_nil
  refine sss_one ?_
  refine ss_ret ?_
  refine se_tup ?_
  refine sa_cons ?_ ?_
  exact se_str
  refine sa_cons ?_ ?_
  refine se_index ?_ ?_
  exact sb_var 1
  exact se_bl
  exact sa_nil
noncomputable def r__law_refused (c : Str) : Option D := if c = "NoCase" then some (.tuple [.str "refused", .int 0]) else if c = "NoTelling" then some (.tuple [.str "refused", .int 1]) else if c = "NoPlace" then some (.tuple [.str "refused", .int 2]) else if c = "Nothing" then some (.tuple [.str "refused", .int 3]) else none
noncomputable def HA__law_refused (P : Program) (w : World) (K : PySem.W.Frag) (mg : Str → Option Value) (base : Heap) : Prop := ∀ T0, mg "TellingError" = some (.ref T0) → ∀ c d, r__law_refused c = some d → ∃ C, mg c = some (.ref C) ∧ ExUp K C T0 ∧ HandOk P w K mg base "_law_refused" 1 C d
theorem ok__law_refused {f : Addr} {fd : FuncData} (F : DefIn K mg "_law_refused" st__law_refused ["_law_e"] f fd) (T : Cns w K mg) (B : Blt mg) : HA__law_refused P w K mg base := by
  obtain ⟨T_, C_NoCase, C_NoTelling, C_NoPlace, C_Nothing, X_⟩ := T.ex
  intro T0 hT0 c d h
  have e0 := hT0.symm.trans X_.mT
  cases e0
  unfold r__law_refused at h
  split at h
  · rename_i hc
    subst hc
    cases h
    exact ⟨C_NoCase, X_.m_NoCase, X_.u_NoCase, hd__law_refused F B X_.k_NoCase X_.v_NoCase X_.m_NoCase X_.i_NoCase_NoCase X_.m_NoTelling X_.i_NoCase_NoTelling X_.m_NoPlace X_.i_NoCase_NoPlace X_.m_Nothing X_.i_NoCase_Nothing (by intro e; simp_arith [b__law_refused] <;> rfl)⟩
  split at h
  · rename_i hc
    subst hc
    cases h
    exact ⟨C_NoTelling, X_.m_NoTelling, X_.u_NoTelling, hd__law_refused F B X_.k_NoTelling X_.v_NoTelling X_.m_NoCase X_.i_NoTelling_NoCase X_.m_NoTelling X_.i_NoTelling_NoTelling X_.m_NoPlace X_.i_NoTelling_NoPlace X_.m_Nothing X_.i_NoTelling_Nothing (by intro e; simp_arith [b__law_refused] <;> rfl)⟩
  split at h
  · rename_i hc
    subst hc
    cases h
    exact ⟨C_NoPlace, X_.m_NoPlace, X_.u_NoPlace, hd__law_refused F B X_.k_NoPlace X_.v_NoPlace X_.m_NoCase X_.i_NoPlace_NoCase X_.m_NoTelling X_.i_NoPlace_NoTelling X_.m_NoPlace X_.i_NoPlace_NoPlace X_.m_Nothing X_.i_NoPlace_Nothing (by intro e; simp_arith [b__law_refused] <;> rfl)⟩
  split at h
  · rename_i hc
    subst hc
    cases h
    exact ⟨C_Nothing, X_.m_Nothing, X_.u_Nothing, hd__law_refused F B X_.k_Nothing X_.v_Nothing X_.m_NoCase X_.i_Nothing_NoCase X_.m_NoTelling X_.i_Nothing_NoTelling X_.m_NoPlace X_.i_Nothing_NoPlace X_.m_Nothing X_.i_Nothing_Nothing (by intro e; simp_arith [b__law_refused] <;> rfl)⟩
  cases h
noncomputable abbrev st__law_told : Stmt := top 41
theorem sc__law_told : FnScope ["_law_way", "_law_case_here", "_law_group", "_law_e"] ["_law_way", "_law_case_here", "_law_group"] (defScope st__law_told) := ⟨rfl, rfl, rfl, by decide +kernel, rfl, by decide +kernel, by decide +kernel⟩
noncomputable def b__law_told : Fn.Env → Option Fl := (sTry (sRet (eIf (eT (e2 eqD (bVar 0) (eC (.int 0)))) (eCall G_tied (aCons (eVar 1) aNil)) (eCall G_alone (aCons (eVar 1) (aCons (eVar 2) aNil))))) (xIf (eT (e2 eqD (bVar 0) (eC (.int 0)))) (xCall X_tied (aCons (eVar 1) aNil)) (xCall X_alone (aCons (eVar 1) (aCons (eVar 2) aNil)))) r__law_refused)
noncomputable def G__law_told : List D → Option D := runF 3 4 b__law_told
theorem ok__law_told {f : Addr} {fd : FuncData} (F : DefIn K mg "_law_told" st__law_told ["_law_way", "_law_case_here", "_law_group"] f fd) (T : Cns w K mg) (B : Blt mg) (h__law_refused : HA__law_refused P w K mg base) (h_alone : Has P w K mg base "alone" 8 G_alone) (h_tied : Has P w K mg base "tied" 8 G_tied) (hx_alone : HasX P w K mg base "alone" 8 X_alone) (hx_tied : HasX P w K mg base "tied" 8 X_tied) : Has P w K mg base "_law_told" 9 G__law_told := by
  obtain ⟨T_, C_NoCase, C_NoTelling, C_NoPlace, C_Nothing, X_⟩ := T.ex
  refine has_of (k := 8) F sc__law_told ?_
  intro cdv A outer s H E hr
  refine sss_one ?_
  refine ss_try (k := 1) (T := T_) (i := 3) ?_ ?_ ?_ ?_ ?_ ?_
  refine sss_one ?_
  refine ss_ret ?_
  refine se_ifExp ?_ ?_ ?_
  refine st_eq (k := 8) ?_ ?_ ?_
  exact hr
  exact sb_var 0
  refine sb_of ?_
  exact se_int
  refine se_callG (k := 8) ?_ ?_ ?_
  exact h_tied
  exact hr.mono (by decide)
  refine sa_cons ?_ ?_
  exact se_var 1
  exact sa_nil
  refine se_callG (k := 8) ?_ ?_ ?_
  exact h_alone
  exact hr.mono (by decide)
  refine sa_cons ?_ ?_
  exact se_var 1
  refine sa_cons ?_ ?_
  exact se_var 2
  exact sa_nil
  intro pins xe E hp
  refine rss_here ?_
  refine rs_ret ?_
  refine re_if ?_ ?_ ?_
  refine st_eq (k := 8) ?_ ?_ ?_
  exact hr
  exact sb_var 0
  refine sb_of ?_
  exact se_int
  refine re_call (k := 8) ?_ ?_ ?_ ?_
  exact hx_tied
  exact hr.mono (by decide)
  exact hp
  refine sa_cons ?_ ?_
  exact se_var 1
  exact sa_nil
  refine re_call (k := 8) ?_ ?_ ?_ ?_
  exact hx_alone
  exact hr.mono (by decide)
  exact hp
  refine sa_cons ?_ ?_
  exact se_var 1
  refine sa_cons ?_ ?_
  exact se_var 2
  exact sa_nil
  exact X_.mT
  exact h__law_refused T_ X_.mT
  exact hr.mono (by decide)
  exact sc__law_told.nd
noncomputable abbrev st__law_many : Stmt := top 42
theorem sc__law_many : FnScope ["_law_script", "_law_at", "_law_most", "_law_town_here", "_law_persons", "_law_last", "_law_tellings", "_law_k"] ["_law_script", "_law_at", "_law_most"] (defScope st__law_many) := ⟨rfl, rfl, rfl, by decide +kernel, rfl, by decide +kernel, by decide +kernel⟩
noncomputable def b__law_many : Fn.Env → Option Fl := (sSeq (sSet 3 (eCall G__law_town (aCons (eVar 0) (aCons (eVar 1) (aCons (eC (.int 3)) aNil))))) (sSeq (sSet 4 (e2 addD (eC (.int 1)) (eCall G__law_drawn (aCons (eVar 0) (aCons (e2 addD (bVar 1) (eC (.int 40))) (aCons (eC (.int 3)) aNil)))))) (sSeq (sSet 5 (eCall G__law_drawn (aCons (eVar 0) (aCons (e2 addD (bVar 1) (eC (.int 41))) (aCons (eC (.int 4)) aNil))))) (sSeq (sSetN 6 (nLst aNil)) (sSeq (sFor (eRng1 (eCall G__law_drawn (aCons (eVar 0) (aCons (e2 addD (bVar 1) (eC (.int 42))) (aCons (e2 addD (bVar 2) (eC (.int 1))) aNil))))) (gVar 7) (sApp 6 (eCall G__law_telling (aCons (eVar 0) (aCons (e2 addD (e2 addD (bVar 1) (eC (.int 43))) (e2 mulD (eC (.int 5)) (bVar 7))) (aCons (e2 ixD (bVar 3) (eC (.int 0))) (aCons (eVar 4) (aCons (eVar 5) aNil)))))))) (sRet (eTup (aCons (eVar 3) (aCons (eVar 4) (aCons (eVar 5) (aCons (eCall tuple1 (aCons (bVar 6) aNil)) aNil)))))))))))
noncomputable def G__law_many : List D → Option D := runF 3 8 b__law_many
theorem ok__law_many {f : Addr} {fd : FuncData} (F : DefIn K mg "_law_many" st__law_many ["_law_script", "_law_at", "_law_most"] f fd) (T : Cns w K mg) (B : Blt mg) (h__law_drawn : Has P w K mg base "_law_drawn" 2 G__law_drawn) (h__law_telling : Has P w K mg base "_law_telling" 3 G__law_telling) (h__law_town : Has P w K mg base "_law_town" 3 G__law_town) : Has P w K mg base "_law_many" 4 G__law_many := by
  refine has_of (k := 3) F sc__law_many ?_
  intro cdv A outer s H E hr
  refine sss_cons ?_ ?_
  refine ss_asg (i := 3) ?_ ?_
  exact sc__law_many.nd
  refine se_callG (k := 3) ?_ ?_ ?_
  exact h__law_town
  exact hr.mono (by decide)
  refine sa_cons ?_ ?_
  exact se_var 0
  refine sa_cons ?_ ?_
  exact se_var 1
  refine sa_cons ?_ ?_
  exact se_int
  exact sa_nil
  refine sss_cons ?_ ?_
  refine ss_asg (i := 4) ?_ ?_
  exact sc__law_many.nd
  refine se_add ?_ ?_
  refine sb_of ?_
  exact se_int
  refine sb_of ?_
  refine se_callG (k := 2) ?_ ?_ ?_
  exact h__law_drawn
  exact hr.mono (by decide)
  refine sa_cons ?_ ?_
  exact se_var 0
  refine sa_cons ?_ ?_
  refine se_add ?_ ?_
  exact sb_var 1
  refine sb_of ?_
  exact se_int
  refine sa_cons ?_ ?_
  exact se_int
  exact sa_nil
  refine sss_cons ?_ ?_
  refine ss_asg (i := 5) ?_ ?_
  exact sc__law_many.nd
  refine se_callG (k := 2) ?_ ?_ ?_
  exact h__law_drawn
  exact hr.mono (by decide)
  refine sa_cons ?_ ?_
  exact se_var 0
  refine sa_cons ?_ ?_
  refine se_add ?_ ?_
  exact sb_var 1
  refine sb_of ?_
  exact se_int
  refine sa_cons ?_ ?_
  exact se_int
  exact sa_nil
  refine sss_cons ?_ ?_
  refine ss_asgN (i := 6) ?_ ?_
  exact sc__law_many.nd
  refine sn_lst ?_
  exact sa_nil
  refine sss_cons ?_ ?_
  refine ss_for ?_ ?_ ?_ ?_ ?_
  exact PassesOwn.never
  rfl
  refine si_rng1 ?_ ?_
  exact B.range_
  refine se_callG (k := 2) ?_ ?_ ?_
  exact h__law_drawn
  exact hr.mono (by decide)
  refine sa_cons ?_ ?_
  exact se_var 0
  refine sa_cons ?_ ?_
  refine se_add ?_ ?_
  exact sb_var 1
  refine sb_of ?_
  exact se_int
  refine sa_cons ?_ ?_
  refine se_add ?_ ?_
  exact sb_var 2
  refine sb_of ?_
  exact se_int
  exact sa_nil
  refine sg_var (i := 7) ?_
  exact sc__law_many.nd
  refine sss_one ?_
  refine ss_push (i := 6) ?_
  refine se_callG (k := 3) ?_ ?_ ?_
  exact h__law_telling
  exact hr.mono (by decide)
  refine sa_cons ?_ ?_
  exact se_var 0
  refine sa_cons ?_ ?_
  refine se_add ?_ ?_
  refine sb_of ?_
  refine se_add ?_ ?_
  exact sb_var 1
  refine sb_of ?_
  exact se_int
  refine sb_of ?_
  refine se_mul ?_ ?_
  refine sb_of ?_
  exact se_int
  exact sb_var 7
  refine sa_cons ?_ ?_
  refine se_at ?_ ?_
  exact sb_var 3
  refine sb_of ?_
  exact se_int
  refine sa_cons ?_ ?_
  exact se_var 4
  refine sa_cons ?_ ?_
  exact se_var 5
  exact sa_nil
  refine sss_one ?_
  refine ss_ret ?_
  refine se_tup ?_
  refine sa_cons ?_ ?_
  exact se_var 3
  refine sa_cons ?_ ?_
  exact se_var 4
  refine sa_cons ?_ ?_
  exact se_var 5
  refine sa_cons ?_ ?_
  refine se_tuple ?_ ?_
  exact B.tuple_
  refine sab_cons ?_ ?_
  exact sb_var 6
  exact sab_nil
  exact sa_nil
noncomputable abbrev st_law : Stmt := top 43
theorem sc_law : FnScope ["_law_script", "_law_case_here", "_law_numbers", "_law_turn", "_law_word", "_law_who", "_law_what", "_law_first", "_law_end", "_law_least", "_law_groups", "_law_group", "_law_tellings", "_law_other", "_law_due", "_law_known", "_law_told_here"] ["_law_script"] (defScope st_law) := ⟨rfl, rfl, rfl, by decide +kernel, rfl, by decide +kernel, by decide +kernel⟩
noncomputable def b_law : Fn.Env → Option Fl := (sSeq (sSet 1 (eCall G__law_many (aCons (eVar 0) (aCons (eC (.int 0)) (aCons (eC (.int 5)) aNil))))) (sSeq (sSetN 2 (nLRng (e2 ixD (bVar 1) (eC (.int 1))))) (sSeq (sFor (eRng1 (eC (.int 3))) (gVar 3) (sFor (eAny (e2 ixD (bVar 1) (eC (.int 3)))) (gTupF [4, 5, 6, 7, 8]) (sIf (eT (e2 inD (bVar 4) (eTup (aCons (eC (.str "met")) (aCons (eC (.str "apart")) aNil))))) (sSeq (sSet 9 (eCall min1 (aCons (e2 ixD (bVar 2) (bVar 5)) (aCons (e2 ixD (bVar 2) (bVar 6)) aNil)))) (sSeq (sItem 2 (eVar 5) (eVar 9)) (sItem 2 (eVar 6) (eVar 9)))) sNil))) (sSeq (sFrz 2 (sSet 10 (eComp (eAny (eSortSetI (bVar 2))) [none, some 1, some 2] (gVar 0) (fun _ => some true) (eComp (eRng1 (e2 ixD (bVar 1) (eC (.int 1)))) [none, some 0, some 2] (gVar 0) (eT (e2 eqD (e2 ixD (bVar 2) (bVar 0)) (bVar 1))) (eVar 0))))) (sSeq (sIf (eT (e2 neD (eCall G__law_told (aCons (eC (.int 0)) (aCons (eVar 1) (aCons (eC .none) aNil)))) (bVar 10))) (sRet (eC (.bool false))) sNil) (sSeq (sFor (eAny (eVar 10)) (gVar 11) (sSeq (sSetN 12 (nLst aNil)) (sSeq (sFor (eAny (e2 ixD (bVar 1) (eC (.int 3)))) (gTupF [4, 5, 6, 7, 8]) (sIf (eT (e2 inD (bVar 5) (bVar 11))) (sSeq (sSet 13 (eIf (eT (e2 inD (bVar 4) (eTup (aCons (eC (.str "met")) (aCons (eC (.str "apart")) aNil))))) (e2 indexD (bVar 11) (eVar 6)) (eVar 6))) (sApp 12 (eTup (aCons (eVar 4) (aCons (e2 indexD (bVar 11) (eVar 5)) (aCons (eVar 13) (aCons (eVar 7) (aCons (eVar 8) aNil)))))))) sNil)) (sSeq (sSet 14 (eTup (aCons (e2 ixD (bVar 1) (eC (.int 0))) (aCons (eCall len1 (aCons (bVar 11) aNil)) (aCons (e2 ixD (bVar 1) (eC (.int 2))) (aCons (eCall tuple1 (aCons (bVar 12) aNil)) aNil)))))) (sIf (tOrF (eT (e2 neD (eCall G__law_told (aCons (eC (.int 1)) (aCons (eVar 1) (aCons (eVar 11) aNil)))) (bVar 14))) (tNotF (eT (eCall G_is_case (aCons (eVar 14) aNil))))) (sRet (eC (.bool false))) sNil))))) (sSeq (sSet 15 (eTup (aCons (eTup (aCons (eC (.int 2)) (aCons (eTup (aCons (eTup (aCons (eC (.int 0)) (aCons (eC (.int 1)) (aCons (eC (.int 1)) aNil)))) aNil)) aNil))) (aCons (eC (.int 3)) (aCons (eC (.int 1)) (aCons (eTup (aCons (eTup (aCons (eC (.str "met")) (aCons (eC (.int 1)) (aCons (eC (.int 2)) (aCons (eC (.int 0)) (aCons (eC (.int 1)) aNil)))))) (aCons (eTup (aCons (eC (.str "seen")) (aCons (eC (.int 2)) (aCons (eC (.int 1)) (aCons (eC (.int 0)) (aCons (eC (.int 0)) aNil)))))) aNil))) aNil)))))) (sSeq (sSet 14 (eTup (aCons (e2 ixD (bVar 15) (eC (.int 0))) (aCons (eC (.int 2)) (aCons (eC (.int 1)) (aCons (eTup (aCons (eTup (aCons (eC (.str "met")) (aCons (eC (.int 0)) (aCons (eC (.int 1)) (aCons (eC (.int 0)) (aCons (eC (.int 1)) aNil)))))) (aCons (eTup (aCons (eC (.str "seen")) (aCons (eC (.int 1)) (aCons (eC (.int 1)) (aCons (eC (.int 0)) (aCons (eC (.int 0)) aNil)))))) aNil))) aNil)))))) (sSeq (sIf (eT (e2 neD (eLst (aCons (eCall G__law_told (aCons (eC (.int 0)) (aCons (eVar 15) (aCons (eC .none) aNil)))) (aCons (eCall G__law_told (aCons (eC (.int 1)) (aCons (eVar 15) (aCons (eLst (aCons (eC (.int 1)) (aCons (eC (.int 2)) aNil))) aNil)))) aNil))) (eLst (aCons (eLst (aCons (eLst (aCons (eC (.int 0)) aNil)) (aCons (eLst (aCons (eC (.int 1)) (aCons (eC (.int 2)) aNil))) aNil))) (aCons (eVar 14) aNil))))) (sRet (eC (.bool false))) sNil) (sSeq (sSetN 16 (nCall N_tied (aCons (eVar 1) aNil))) (sSeq (sApp 16 (eLst (aCons (eC (.int 9)) aNil))) (sRet (eAndV (e2 eqD (eCall G_tied (aCons (eVar 1) aNil)) (bVar 10)) (e2 eqD (eComp (eRng1 (eC (.int 2))) [none, some 1] (gVar 0) (fun _ => some true) (eCall G__law_told (aCons (eVar 0) (aCons (eSlice (bVar 1) oNone (oSome (eC (.int 3)))) (aCons (eLst (aCons (eC (.int 0)) aNil)) aNil))))) (e2 mulSD (eLst (aCons (eTup (aCons (eC (.str "refused")) (aCons (eC (.int 0)) aNil))) aNil)) (eC (.int 2)))))))))))))))))
noncomputable def G_law : List D → Option D := runF 1 17 b_law
theorem ok_law {f : Addr} {fd : FuncData} (F : DefIn K mg "law" st_law ["_law_script"] f fd) (T : Cns w K mg) (B : Blt mg) (h__law_many : Has P w K mg base "_law_many" 4 G__law_many) (h__law_told : Has P w K mg base "_law_told" 9 G__law_told) (h_is_case : Has P w K mg base "is_case" 6 G_is_case) (h_tied : Has P w K mg base "tied" 8 G_tied) (hn_tied : HasN P w K mg base "tied" 8 N_tied) : FnOk P w K mg base CX0 10 f fd ["_law_script"] (spF K G_law) := by
  refine fn_def (k := 9) F.fn sc_law ?_
  intro cdv A outer s H E hr
  refine sss_cons ?_ ?_
  refine ss_asg (i := 1) ?_ ?_
  exact sc_law.nd
  refine se_callG (k := 4) ?_ ?_ ?_
  exact h__law_many
  exact hr.mono (by decide)
  refine sa_cons ?_ ?_
  exact se_var 0
  refine sa_cons ?_ ?_
  exact se_int
  refine sa_cons ?_ ?_
  exact se_int
  exact sa_nil
  refine sss_cons ?_ ?_
  refine ss_asgN (i := 2) ?_ ?_
  exact sc_law.nd
  refine sn_lrng ?_ ?_ ?_
  exact B.list_
  exact B.range_
  refine se_at ?_ ?_
  exact sb_var 1
  refine sb_of ?_
  exact se_int
  refine sss_cons ?_ ?_
  refine ss_for ?_ ?_ ?_ ?_ ?_
  exact PassesOwn.never
  rfl
  refine si_rng1 ?_ ?_
  exact B.range_
  exact se_int
  refine sg_var (i := 3) ?_
  exact sc_law.nd
  refine sss_one ?_
  refine ss_for ?_ ?_ ?_ ?_ ?_
  exact PassesOwn.never
  rfl
  refine si_any ?_
  refine se_at ?_ ?_
  exact sb_var 1
  refine sb_of ?_
  exact se_int
  refine sg_tup ?_ ?_
  rfl
  refine sgs_var (i := 4) ?_ ?_
  exact sc_law.nd
  refine sgs_var (i := 5) ?_ ?_
  exact sc_law.nd
  refine sgs_var (i := 6) ?_ ?_
  exact sc_law.nd
  refine sgs_var (i := 7) ?_ ?_
  exact sc_law.nd
  refine sgs_var (i := 8) ?_ ?_
  exact sc_law.nd
  exact sgs_nil
  refine sss_one ?_
  refine ss_if ?_ ?_ ?_
  refine st_in (k := 9) ?_ ?_ ?_
  exact hr
  exact sb_var 4
  refine sb_of ?_
  refine se_tup ?_
  refine sa_cons ?_ ?_
  exact se_str
  refine sa_cons ?_ ?_
  exact se_str
  exact sa_nil
  refine sss_cons ?_ ?_
  refine ss_asg (i := 9) ?_ ?_
  exact sc_law.nd
  refine se_min ?_ ?_ ?_
  exact B.min_
  rfl
  refine sab_cons ?_ ?_
  refine sb_of ?_
  refine se_at ?_ ?_
  exact sb_var 2
  exact sb_var 5
  refine sab_cons ?_ ?_
  refine sb_of ?_
  refine se_at ?_ ?_
  exact sb_var 2
  exact sb_var 6
  exact sab_nil
  refine sss_cons ?_ ?_
  refine ss_itm (i := 2) ?_ ?_
  exact se_var 9
  exact se_var 5
  refine sss_one ?_
  refine ss_itm (i := 2) ?_ ?_
  exact se_var 9
  exact se_var 6
  exact sss_nil
  refine sss_cons ?_ ?_
  refine ss_frz 2 ?_
  refine ss_asgCZ (i := 10) (zz := "_law_number") (Nc := ["_law_number", "_law_case_here", "_law_numbers"]) (cap := [none, some 1, some 2]) ?_ ?_ ?_ ?_ ?_ ?_
  exact sc_law.nd
  exact comp_okZ (N := ["_law_script", "_law_case_here", "_law_numbers", "_law_turn", "_law_word", "_law_who", "_law_what", "_law_first", "_law_end", "_law_least", "_law_groups", "_law_group", "_law_tellings", "_law_other", "_law_due", "_law_known", "_law_told_here"]) (sc := defScope st_law) (zz := "_law_number") rfl rfl (by decide +kernel)
  exact tame_var rfl
  rfl
  refine si_any ?_
  refine se_sortedsetI (k := 9) ?_ ?_ ?_ ?_
  exact B.sorted_
  exact B.set_
  exact hr
  exact sb_var 2
  intro cl C s₀ H₀ ex
  refine ⟨?_, ?_, ?_⟩
  refine sg_var (i := 0) ?_
  exact (show (["_law_number", "_law_case_here", "_law_numbers"] : List Str).Nodup by decide +kernel)
  exact .nil
  refine se_comp (Nc := ["_law_who", "_law_number", "_law_numbers"]) (cap := [none, some 0, some 2]) ?_ ?_ ?_ ?_ ?_
  exact comp_ok_in (by decide +kernel)
  exact tame_var rfl
  rfl
  refine si_rng1 ?_ ?_
  exact B.range_
  refine se_at ?_ ?_
  exact sb_var 1
  refine sb_of ?_
  exact se_int
  intro cl C s₀ H₀ ex
  refine ⟨?_, ?_, ?_⟩
  refine sg_var (i := 0) ?_
  exact (show (["_law_who", "_law_number", "_law_numbers"] : List Str).Nodup by decide +kernel)
  refine .one ?_
  refine st_eq (k := 9) ?_ ?_ ?_
  exact hr
  refine sb_of ?_
  refine se_at ?_ ?_
  exact sb_var 2
  exact sb_var 0
  exact sb_var 1
  exact se_var 0
  refine sss_cons ?_ ?_
  refine ss_if ?_ ?_ ?_
  refine st_ne (k := 9) ?_ ?_ ?_
  exact hr
  refine sb_of ?_
  refine se_callG (k := 9) ?_ ?_ ?_
  exact h__law_told
  exact hr.mono (by decide)
  refine sa_cons ?_ ?_
  exact se_int
  refine sa_cons ?_ ?_
  exact se_var 1
  refine sa_cons ?_ ?_
  exact se_non
  exact sa_nil
  exact sb_var 10
  refine sss_one ?_
  refine ss_ret ?_
  exact se_bl
  exact sss_nil
  refine sss_cons ?_ ?_
  refine ss_for ?_ ?_ ?_ ?_ ?_
  exact PassesOwn.never
  rfl
  refine si_any ?_
  exact se_var 10
  refine sg_var (i := 11) ?_
  exact sc_law.nd
  refine sss_cons ?_ ?_
  refine ss_asgN (i := 12) ?_ ?_
  exact sc_law.nd
  refine sn_lst ?_
  exact sa_nil
  refine sss_cons ?_ ?_
  refine ss_for ?_ ?_ ?_ ?_ ?_
  exact PassesOwn.never
  rfl
  refine si_any ?_
  refine se_at ?_ ?_
  exact sb_var 1
  refine sb_of ?_
  exact se_int
  refine sg_tup ?_ ?_
  rfl
  refine sgs_var (i := 4) ?_ ?_
  exact sc_law.nd
  refine sgs_var (i := 5) ?_ ?_
  exact sc_law.nd
  refine sgs_var (i := 6) ?_ ?_
  exact sc_law.nd
  refine sgs_var (i := 7) ?_ ?_
  exact sc_law.nd
  refine sgs_var (i := 8) ?_ ?_
  exact sc_law.nd
  exact sgs_nil
  refine sss_one ?_
  refine ss_if ?_ ?_ ?_
  refine st_in (k := 9) ?_ ?_ ?_
  exact hr
  exact sb_var 5
  exact sb_var 11
  refine sss_cons ?_ ?_
  refine ss_asg (i := 13) ?_ ?_
  exact sc_law.nd
  refine se_ifExp ?_ ?_ ?_
  refine st_in (k := 9) ?_ ?_ ?_
  exact hr
  exact sb_var 4
  refine sb_of ?_
  refine se_tup ?_
  refine sa_cons ?_ ?_
  exact se_str
  refine sa_cons ?_ ?_
  exact se_str
  exact sa_nil
  refine se_index ?_ ?_
  exact sb_var 11
  exact se_var 6
  exact se_var 6
  refine sss_one ?_
  refine ss_push (i := 12) ?_
  refine se_tup ?_
  refine sa_cons ?_ ?_
  exact se_var 4
  refine sa_cons ?_ ?_
  refine se_index ?_ ?_
  exact sb_var 11
  exact se_var 5
  refine sa_cons ?_ ?_
  exact se_var 13
  refine sa_cons ?_ ?_
  exact se_var 7
  refine sa_cons ?_ ?_
  exact se_var 8
  exact sa_nil
  exact sss_nil
  refine sss_cons ?_ ?_
  refine ss_asg (i := 14) ?_ ?_
  exact sc_law.nd
  refine se_tup ?_
  refine sa_cons ?_ ?_
  refine se_at ?_ ?_
  exact sb_var 1
  refine sb_of ?_
  exact se_int
  refine sa_cons ?_ ?_
  refine se_len ?_ ?_
  exact B.len_
  refine sab_cons ?_ ?_
  exact sb_var 11
  exact sab_nil
  refine sa_cons ?_ ?_
  refine se_at ?_ ?_
  exact sb_var 1
  refine sb_of ?_
  exact se_int
  refine sa_cons ?_ ?_
  refine se_tuple ?_ ?_
  exact B.tuple_
  refine sab_cons ?_ ?_
  exact sb_var 12
  exact sab_nil
  exact sa_nil
  refine sss_one ?_
  refine ss_if ?_ ?_ ?_
  refine st_sw ?_
  refine sw_or ?_ ?_
  refine st_ne (k := 9) ?_ ?_ ?_
  exact hr
  refine sb_of ?_
  refine se_callG (k := 9) ?_ ?_ ?_
  exact h__law_told
  exact hr.mono (by decide)
  refine sa_cons ?_ ?_
  exact se_int
  refine sa_cons ?_ ?_
  exact se_var 1
  refine sa_cons ?_ ?_
  exact se_var 11
  exact sa_nil
  exact sb_var 14
  refine sw_or1 ?_
  refine st_not ?_
  refine st_val ?_
  refine se_callG (k := 6) ?_ ?_ ?_
  exact h_is_case
  exact hr.mono (by decide)
  refine sa_cons ?_ ?_
  exact se_var 14
  exact sa_nil
  refine sss_one ?_
  refine ss_ret ?_
  exact se_bl
  exact sss_nil
  refine sss_cons ?_ ?_
  refine ss_asg (i := 15) ?_ ?_
  exact sc_law.nd
  refine se_tup ?_
  refine sa_cons ?_ ?_
  refine se_tup ?_
  refine sa_cons ?_ ?_
  exact se_int
  refine sa_cons ?_ ?_
  refine se_tup ?_
  refine sa_cons ?_ ?_
  refine se_tup ?_
  refine sa_cons ?_ ?_
  exact se_int
  refine sa_cons ?_ ?_
  exact se_int
  refine sa_cons ?_ ?_
  exact se_int
  exact sa_nil
  exact sa_nil
  exact sa_nil
  refine sa_cons ?_ ?_
  exact se_int
  refine sa_cons ?_ ?_
  exact se_int
  refine sa_cons ?_ ?_
  refine se_tup ?_
  refine sa_cons ?_ ?_
  refine se_tup ?_
  refine sa_cons ?_ ?_
  exact se_str
  refine sa_cons ?_ ?_
  exact se_int
  refine sa_cons ?_ ?_
  exact se_int
  refine sa_cons ?_ ?_
  exact se_int
  refine sa_cons ?_ ?_
  exact se_int
  exact sa_nil
  refine sa_cons ?_ ?_
  refine se_tup ?_
  refine sa_cons ?_ ?_
  exact se_str
  refine sa_cons ?_ ?_
  exact se_int
  refine sa_cons ?_ ?_
  exact se_int
  refine sa_cons ?_ ?_
  exact se_int
  refine sa_cons ?_ ?_
  exact se_int
  exact sa_nil
  exact sa_nil
  exact sa_nil
  refine sss_cons ?_ ?_
  refine ss_asg (i := 14) ?_ ?_
  exact sc_law.nd
  refine se_tup ?_
  refine sa_cons ?_ ?_
  refine se_at ?_ ?_
  exact sb_var 15
  refine sb_of ?_
  exact se_int
  refine sa_cons ?_ ?_
  exact se_int
  refine sa_cons ?_ ?_
  exact se_int
  refine sa_cons ?_ ?_
  refine se_tup ?_
  refine sa_cons ?_ ?_
  refine se_tup ?_
  refine sa_cons ?_ ?_
  exact se_str
  refine sa_cons ?_ ?_
  exact se_int
  refine sa_cons ?_ ?_
  exact se_int
  refine sa_cons ?_ ?_
  exact se_int
  refine sa_cons ?_ ?_
  exact se_int
  exact sa_nil
  refine sa_cons ?_ ?_
  refine se_tup ?_
  refine sa_cons ?_ ?_
  exact se_str
  refine sa_cons ?_ ?_
  exact se_int
  refine sa_cons ?_ ?_
  exact se_int
  refine sa_cons ?_ ?_
  exact se_int
  refine sa_cons ?_ ?_
  exact se_int
  exact sa_nil
  exact sa_nil
  exact sa_nil
  refine sss_cons ?_ ?_
  refine ss_if ?_ ?_ ?_
  refine st_ne (k := 9) ?_ ?_ ?_
  exact hr
  refine sb_of ?_
  refine se_lst ?_
  refine sa_cons ?_ ?_
  refine se_callG (k := 9) ?_ ?_ ?_
  exact h__law_told
  exact hr.mono (by decide)
  refine sa_cons ?_ ?_
  exact se_int
  refine sa_cons ?_ ?_
  exact se_var 15
  refine sa_cons ?_ ?_
  exact se_non
  exact sa_nil
  refine sa_cons ?_ ?_
  refine se_callG (k := 9) ?_ ?_ ?_
  exact h__law_told
  exact hr.mono (by decide)
  refine sa_cons ?_ ?_
  exact se_int
  refine sa_cons ?_ ?_
  exact se_var 15
  refine sa_cons ?_ ?_
  refine se_lst ?_
  refine sa_cons ?_ ?_
  exact se_int
  refine sa_cons ?_ ?_
  exact se_int
  exact sa_nil
  exact sa_nil
  exact sa_nil
  refine sb_of ?_
  refine se_lst ?_
  refine sa_cons ?_ ?_
  refine se_lst ?_
  refine sa_cons ?_ ?_
  refine se_lst ?_
  refine sa_cons ?_ ?_
  exact se_int
  exact sa_nil
  refine sa_cons ?_ ?_
  refine se_lst ?_
  refine sa_cons ?_ ?_
  exact se_int
  refine sa_cons ?_ ?_
  exact se_int
  exact sa_nil
  exact sa_nil
  refine sa_cons ?_ ?_
  exact se_var 14
  exact sa_nil
  refine sss_one ?_
  refine ss_ret ?_
  exact se_bl
  exact sss_nil
  refine sss_cons ?_ ?_
  refine ss_asgN (i := 16) ?_ ?_
  exact sc_law.nd
  refine sn_callG (k := 8) ?_ ?_ ?_
  exact hn_tied
  exact hr.mono (by decide)
  refine sa_cons ?_ ?_
  exact se_var 1
  exact sa_nil
  refine sss_cons ?_ ?_
  refine ss_push (i := 16) ?_
  refine se_lst ?_
  refine sa_cons ?_ ?_
  exact se_int
  exact sa_nil
  refine sss_one ?_
  refine ss_ret ?_
  refine se_and ?_ ?_
  refine se_eq (k := 9) ?_ ?_ ?_
  exact hr
  refine sb_of ?_
  refine se_callG (k := 8) ?_ ?_ ?_
  exact h_tied
  exact hr.mono (by decide)
  refine sa_cons ?_ ?_
  exact se_var 1
  exact sa_nil
  exact sb_var 10
  refine se_one ?_
  refine se_eq (k := 9) ?_ ?_ ?_
  exact hr
  refine sb_of ?_
  refine se_comp (Nc := ["_law_way", "_law_case_here"]) (cap := [none, some 1]) ?_ ?_ ?_ ?_ ?_
  exact comp_ok (N := ["_law_script", "_law_case_here", "_law_numbers", "_law_turn", "_law_word", "_law_who", "_law_what", "_law_first", "_law_end", "_law_least", "_law_groups", "_law_group", "_law_tellings", "_law_other", "_law_due", "_law_known", "_law_told_here"]) (sc := defScope st_law) rfl rfl (by decide +kernel)
  exact tame_var rfl
  rfl
  refine si_rng1 ?_ ?_
  exact B.range_
  exact se_int
  intro cl C s₀ H₀ ex
  refine ⟨?_, ?_, ?_⟩
  refine sg_var (i := 0) ?_
  exact (show (["_law_way", "_law_case_here"] : List Str).Nodup by decide +kernel)
  exact .nil
  refine se_callG (k := 9) ?_ ?_ ?_
  exact h__law_told
  exact hr.mono (by decide)
  refine sa_cons ?_ ?_
  exact se_var 0
  refine sa_cons ?_ ?_
  refine se_slice ?_ ?_ ?_
  exact sb_var 1
  exact so_none
  refine so_some ?_
  exact se_int
  refine sa_cons ?_ ?_
  refine se_lst ?_
  refine sa_cons ?_ ?_
  exact se_int
  exact sa_nil
  exact sa_nil
  refine sb_of ?_
  refine se_mulS ?_ ?_
  refine sb_of ?_
  refine se_lst ?_
  refine sa_cons ?_ ?_
  refine se_tup ?_
  refine sa_cons ?_ ?_
  exact se_str
  refine sa_cons ?_ ?_
  exact se_int
  exact sa_nil
  exact sa_nil
  refine sb_of ?_
  exact se_int
end
end KK
namespace KK
open PySem L2 Fn
local macro_rules | `(tactic| simp_arith [$ls,*]) => `(tactic| simp [runF, eVar, bVar, eC, e2, eT, e3, tNotF, eNotV, eIf, aNil, aCons, eTup, eLst, nLst, eCall, sNil, sRet, sSet, sSetN, sNo, frz, sFrz, sApp, gVar, eInst, ltI, leI, gtI, geI, cI, iI, iIC, big, $ls,*])
section
variable {f g : Fn.Env → Option D} {ρ ρ' : Fn.Env} {x y : Bool} {t u : Fn.Env → Option Bool} {s s' r : Fn.Env → Option Fl} {d : D}
theorem and_t (h : f ρ = some (.bool true)) : eAndV f g ρ = g ρ := by unfold eAndV; rw [h]
theorem and_f (h : f ρ = some (.bool false)) : eAndV f g ρ = some (.bool false) := by unfold eAndV; rw [h]
theorem and_b (h : f ρ = some (.bool x)) (h2 : x = true → g ρ = some (.bool y)) : eAndV f g ρ = some (.bool (x && y)) := by
  cases x
  · rw [and_f h]; rfl
  · rw [and_t h, h2 rfl]; rfl
theorem or_t (h : t ρ = some true) : tOrF t u ρ = some true := by unfold tOrF; rw [h]
theorem or_f (h : t ρ = some false) : tOrF t u ρ = u ρ := by unfold tOrF; rw [h]
theorem seq_n (h : s ρ = some (.nx ρ')) : sSeq s r ρ = r ρ' := by unfold sSeq; rw [h]
theorem seq_r (h : s ρ = some (.rt d)) : sSeq s r ρ = some (.rt d) := by unfold sSeq; rw [h]
theorem if_t (h : t ρ = some true) : sIf t s s' ρ = s ρ := by unfold sIf; rw [h]
theorem if_f (h : t ρ = some false) : sIf t s s' ρ = s' ρ := by unfold sIf; rw [h]
theorem si_t (h : t ρ = some true) : sSeq (sIf t (sRet (eC d)) s') r ρ = some (.rt d) := seq_r (if_t h)
theorem si_f (h : t ρ = some false) : sSeq (sIf t s sNil) r ρ = r ρ := seq_n (if_f h)
theorem set_n {i : Nat} (h : f ρ = some d) : sSeq (sSet i f) r ρ = r (ρ.set i (.val d)) := seq_n (by unfold sSet; rw [h])
theorem ret_r (h : f ρ = some d) : sRet f ρ = some (.rt d) := by unfold sRet; rw [h]
theorem run_of {n N : Nat} {b : Fn.Env → Option Fl} {ds : List D} (hl : ds.length = n) (h : b (ds.map Cel.val ++ List.replicate (N - n) Cel.emp) = some (.rt d)) : runF n N b ds = some d := by
  unfold runF; rw [if_pos hl, h]
theorem run_ret {n N : Nat} {e : Fn.Env → Option D} {ds : List D} (h : ds.length = n) : runF n N (sRet e) ds = e (ds.map Cel.val ++ List.replicate (N - n) Cel.emp) := by
  unfold runF
  rw [if_pos h]
  unfold sRet
  cases e (ds.map Cel.val ++ List.replicate (N - n) Cel.emp) <;> rfl
end
theorem eqD_int (a b : Int) : eqD (.int a) (.int b) = some (.bool (decide (a = b))) := by
  simp [eqD, PyData.depth, PyData.eqv]
  rfl
theorem neD_int (a b : Int) : neD (.int a) (.int b) = some (.bool (!decide (a = b))) := by
  simp [neD, PyData.depth, PyData.eqv]
  rfl
theorem eqvAll_nil (xs : List D) : PyData.eqvAll xs [] = xs.isEmpty := by cases xs <;> simp [PyData.eqvAll]
theorem eqD_nil (xs : List D) : eqD (.list xs) (.list []) = some (.bool xs.isEmpty) := by
  have : ¬ deep = 0 := by decide
  simp [eqD, PyData.depth, PyData.eqv, PyData.depthAll, eqvAll_nil, this]
noncomputable def within (x : D) (a b : Int) : Bool := match x with
  | .int i => decide (a ≤ i) && decide (i ≤ b)
  | _ => false
theorem G_whole (x : D) : G_is_whole [x] = some (.bool (match x with | .int _ => true | _ => false)) := by cases x <;> rfl
theorem G_within (x : D) (a b : Int) : G_is_whole_within [x, .int a, .int b] = some (.bool (within x a b)) := by
  unfold G_is_whole_within b_is_whole_within
  rw [run_ret (by rfl)]
  cases x <;> try (rw [and_f (by simp_arith [G_whole])]; rfl)
  rename_i i
  rw [and_t (by simp_arith [G_whole])]
  simp_arith [within]
  by_cases h : a ≤ i <;> simp [h]
noncomputable def tupN (x : D) (n : Int) : Bool := match x with
  | .tuple ds => decide ((ds.length : Int) = n)
  | _ => false
theorem G_tupN (x : D) (n : Int) : G_is_tuple_of [x, .int n] = some (.bool (tupN x n)) := by
  unfold G_is_tuple_of b_is_tuple_of
  rw [run_ret (by rfl)]
  cases x <;> try (rw [and_f (by simp_arith [isi_tuple])]; rfl)
  rw [and_t (by simp_arith [isi_tuple])]
  simp_arith [tupN, len1, eqD_int]
noncomputable def wayOk (p : Int) : D → Bool
  | .tuple [.int i, .int j, .int t] => decide (0 ≤ i) && decide (i < j) && decide (j < p) && decide (1 ≤ t) && decide (t ≤ 4)
  | _ => false
theorem atI_zero {α : Type} (x : α) (l : List α) : atI (x :: l) 0 = some x := by simp [atI, ixN]
theorem atI_one {α : Type} (x y : α) (l : List α) : atI (x :: y :: l) 1 = some y := by
  have : (1 : Int) < (l.length : Int) + 1 + 1 := by omega
  simp [atI, ixN, this]
theorem atI_two {α : Type} (x y z : α) (l : List α) : atI (x :: y :: z :: l) 2 = some z := by
  have : (2 : Int) < (l.length : Int) + 1 + 1 + 1 := by omega
  simp [atI, ixN, this]
theorem atI_three {α : Type} (x y z u : α) (l : List α) : atI (x :: y :: z :: u :: l) 3 = some u := by
  have : (3 : Int) < (l.length : Int) + 1 + 1 + 1 + 1 := by omega
  simp [atI, ixN, this]
theorem atI_four {α : Type} (x y z u v : α) (l : List α) : atI (x :: y :: z :: u :: v :: l) 4 = some v := by
  have : (4 : Int) < (l.length : Int) + 1 + 1 + 1 + 1 + 1 := by omega
  simp [atI, ixN, this]
theorem tup3 {x : D} (h : tupN x 3 = true) : ∃ a b c, x = .tuple [a, b, c] := by
  cases x <;> simp [tupN] at h
  rename_i ds
  match ds, h with
  | [a, b, c], _ => exact ⟨a, b, c, rfl⟩
  | [], h => simp at h
  | [_], h => simp at h
  | [_, _], h => simp at h
  | _ :: _ :: _ :: _ :: _, h => simp at h; omega
theorem tup2 {x : D} (h : tupN x 2 = true) : ∃ a b, x = .tuple [a, b] := by
  cases x <;> simp [tupN] at h
  rename_i ds
  match ds, h with
  | [a, b], _ => exact ⟨a, b, rfl⟩
  | [], h => simp at h
  | [_], h => simp at h
  | _ :: _ :: _ :: _, h => simp at h; omega
theorem tup4 {x : D} (h : tupN x 4 = true) : ∃ a b c d, x = .tuple [a, b, c, d] := by
  cases x <;> simp [tupN] at h
  rename_i ds
  match ds, h with
  | [a, b, c, d], _ => exact ⟨a, b, c, d, rfl⟩
  | [], h => simp at h
  | [_], h => simp at h
  | [_, _], h => simp at h
  | [_, _, _], h => simp at h
  | _ :: _ :: _ :: _ :: _ :: _, h => simp at h; omega
theorem tup5 {x : D} (h : tupN x 5 = true) : ∃ a b c d e, x = .tuple [a, b, c, d, e] := by
  cases x <;> simp [tupN] at h
  rename_i ds
  match ds, h with
  | [a, b, c, d, e], _ => exact ⟨a, b, c, d, e, rfl⟩
  | [], h => simp at h
  | [_], h => simp at h
  | [_, _], h => simp at h
  | [_, _, _], h => simp at h
  | [_, _, _, _], h => simp at h
  | _ :: _ :: _ :: _ :: _ :: _ :: _, h => simp at h; omega
theorem within_iff {x : D} {a b : Int} : within x a b = true ↔ ∃ i, x = .int i ∧ a ≤ i ∧ i ≤ b := by
  cases x <;> simp [within]
theorem wayOk_iff {p : Int} {x : D} : wayOk p x = true ↔ ∃ i j t, x = .tuple [.int i, .int j, .int t] ∧ 0 ≤ i ∧ i < j ∧ j < p ∧ 1 ≤ t ∧ t ≤ 4 := by
  constructor
  · intro h
    unfold wayOk at h
    split at h
    · simp at h
      rename_i i j t
      exact ⟨i, j, t, rfl, by omega, by omega, by omega, by omega, by omega⟩
    · cases h
  · rintro ⟨i, j, t, rfl, h1, h2, h3, h4, h5⟩
    simp [wayOk, *]
theorem bool_ext {a b : Bool} (h : a = true ↔ b = true) : a = b := by cases a <;> cases b <;> simp_all
theorem G_way (p : Int) (x : D) : G_is_way [.int p, x] = some (.bool (wayOk p x)) := by
  unfold G_is_way b_is_way
  rw [run_ret (by rfl)]
  by_cases h : tupN x 3 = true
  · obtain ⟨a, b, c, rfl⟩ := tup3 h
    rw [and_t (by simp_arith [G_tupN, h])]
    by_cases h1 : within a 0 (p - 1) = true
    · rw [and_t (by simp_arith [ixD, atI_zero, G_within, h1])]
      obtain ⟨i, rfl, _, _⟩ := within_iff.1 h1
      rw [and_b (x := within b (i + 1) (p - 1)) (y := within c 1 4) (by simp_arith [ixD, atI_zero, atI_one, addD, G_within]) (fun _ => by simp_arith [ixD, atI_two, k_LONGEST_WAY, G_within])]
      congr 2
      apply bool_ext
      rw [Bool.and_eq_true, within_iff, within_iff, wayOk_iff]
      constructor
      · rintro ⟨⟨j, rfl, _, _⟩, ⟨t, rfl, _, _⟩⟩
        exact ⟨i, j, t, rfl, by omega, by omega, by omega, by omega, by omega⟩
      · rintro ⟨i', j, t, e, _, _, _, _, _⟩
        cases e
        exact ⟨⟨j, rfl, by omega, by omega⟩, ⟨t, rfl, by omega, by omega⟩⟩
    · rw [and_f (by simp_arith [ixD, atI_zero, G_within, h1])]
      congr 2
      refine (Bool.eq_false_iff.2 fun w => h1 ?_).symm
      obtain ⟨i, j, t, e, _, _, _, _, _⟩ := wayOk_iff.1 w
      cases e
      exact within_iff.2 ⟨i, rfl, by omega, by omega⟩
  · rw [and_f (by simp_arith [G_tupN, h])]
    congr 2
    refine (Bool.eq_false_iff.2 fun w => h ?_).symm
    obtain ⟨i, j, t, rfl, _, _, _, _, _⟩ := wayOk_iff.1 w
    rfl
theorem comp_map {fe : Fn.Env → Option D} {ρ : Fn.Env} {h : D → D} : ∀ {ds : List D}, (∀ d ∈ ds, fe (ρ.set 0 (.val d)) = some (h d)) → compF (gVar 0) (fun _ => some true) fe ρ ds = some (ds.map h)
  | [], _ => rfl
  | d :: ds, H => by
    have i := comp_map (ds := ds) fun x hx => H x (List.mem_cons_of_mem _ hx)
    unfold compF
    simp only [gVar, H d List.mem_cons_self, i, List.map]
theorem allB_map {q : D → Bool} : ∀ (ds : List D), allB (ds.map fun d => .bool (q d)) = some (ds.all q)
  | [] => rfl
  | d :: ds => by
    simp only [List.map, allB, allB_map ds, List.all_cons]
noncomputable def pre2 : D → D
  | .tuple (a :: b :: _) => .tuple [a, b]
  | d => d
noncomputable def rise (ends : List D) : Option D := match sortSetN (.list ends) with
  | some s => eqD (.list ends) s
  | none => none
theorem cut2 (a b : D) (r : List D) : cutD (a :: b :: r) none (some 2) = [a, b] := by
  simp [cutD, HT.sIx]
theorem run_body {n N : Nat} {b : Fn.Env → Option Fl} {e : Fn.Env → Option D} {ρ : Fn.Env} {ds : List D} (hl : ds.length = n) (h : b (ds.map Cel.val ++ List.replicate (N - n) Cel.emp) = sRet e ρ) : runF n N b ds = e ρ := by
  unfold runF; rw [if_pos hl, h]; unfold sRet
  cases e ρ <;> rfl
theorem G_ways (p : Int) (ds : List D) (hl : ds.length ≤ 1000) : G_are_ways [.int p, .tuple ds] = if ds.all (wayOk p) = true then rise (ds.map pre2) else some (.bool false) := by
  unfold G_are_ways b_are_ways
  have hb : ds.length ≤ 100000 := by omega
  have c1 : compF (gVar 0) (fun _ => some true) (eCall G_is_way (aCons (eVar 1) (aCons (eVar 0) aNil))) [Cel.emp, Cel.val (.int p)] ds = some (ds.map fun d => .bool (wayOk p d)) := comp_map fun d _ => by simp_arith [G_way]
  by_cases h : ds.all (wayOk p) = true
  · rw [if_pos h]
    have c2 : compF (gVar 0) (fun _ => some true) (eSlice (bVar 0) oNone (oSome (eC (.int 2)))) [Cel.emp] ds = some (ds.map pre2) := comp_map fun d hd => by
      obtain ⟨i, j, t, rfl, _⟩ := wayOk_iff.1 (List.all_eq_true.1 h d hd)
      simp_arith [eSlice, oNone, oSome, slD, pre2, cut2]
    rw [run_body (by rfl) (by rw [si_f (by rw [or_f (by simp_arith [isi_tuple])]; simp_arith [eComp, nComp, eAny, selF, c1, hb, all1, allB_map, h]), set_n (d := .list (ds.map pre2)) (by simp_arith [eComp, nComp, eAny, selF, c2, hb])])]
    simp_arith [eSortSetN, rise]
    cases sortSetN (.list (ds.map pre2)) <;> rfl
  · rw [if_neg h]
    exact run_of rfl (si_t (by rw [or_f (by simp_arith [isi_tuple])]; simp_arith [eComp, nComp, eAny, selF, c1, hb, all1, allB_map, h]))
theorem G_ways_no (p : Int) (x : D) (h : ∀ ds, x ≠ .tuple ds) : G_are_ways [.int p, x] = some (.bool false) := by
  unfold G_are_ways b_are_ways
  exact run_of rfl (si_t (or_t (by cases x <;> first | (exact absurd rfl (h _)) | simp_arith [isi_tuple])))
noncomputable def townV : D → Option D
  | .tuple [.int p, .tuple ds] => if 1 ≤ p ∧ p ≤ 5 then (if ds.all (wayOk p) = true then rise (ds.map pre2) else some (.bool false)) else some (.bool false)
  | _ => some (.bool false)
noncomputable def small2 (x : D) : Prop := ∀ a ds, x = .tuple [a, .tuple ds] → ds.length ≤ 1000
theorem townV_no {x : D} (h : ¬ tupN x 2 = true) : townV x = some (.bool false) := by
  unfold townV
  split
  · exact absurd rfl h
  · rfl
theorem townV_no1 {a b : D} (h : ¬ within a 1 5 = true) : townV (.tuple [a, b]) = some (.bool false) := by
  unfold townV
  split
  · rename_i p ds e
    cases e
    rw [if_neg fun z => h (by simp [within, z])]
  · rfl
theorem townV_no2 {a b : D} (h : ∀ ds, b ≠ .tuple ds) : townV (.tuple [a, b]) = some (.bool false) := by
  unfold townV
  split
  · rename_i p ds e
    cases e
    exact absurd rfl (h _)
  · rfl
theorem townV_yes {p : Int} {ds : List D} (h : within (.int p) 1 5 = true) : townV (.tuple [.int p, .tuple ds]) = if ds.all (wayOk p) = true then rise (ds.map pre2) else some (.bool false) := by
  have e : townV (.tuple [.int p, .tuple ds]) = if 1 ≤ p ∧ p ≤ 5 then (if ds.all (wayOk p) = true then rise (ds.map pre2) else some (.bool false)) else some (.bool false) := rfl
  rw [e, if_pos (show 1 ≤ p ∧ p ≤ 5 by simpa [within] using h)]
theorem G_town (x : D) (hs : small2 x) : G_is_town [x] = townV x := by
  unfold G_is_town b_is_town
  rw [run_ret (by rfl)]
  by_cases h : tupN x 2 = true
  · obtain ⟨a, b, rfl⟩ := tup2 h
    rw [and_t (by simp_arith [G_tupN, h])]
    by_cases h1 : within a 1 5 = true
    · rw [and_t (by simp_arith [ixD, atI_zero, G_within, h1, k_MOST_PLACES])]
      obtain ⟨p, rfl, _, _⟩ := within_iff.1 h1
      by_cases h2 : ∃ ds, b = .tuple ds
      · obtain ⟨ds, rfl⟩ := h2
        rw [townV_yes h1, ← G_ways p ds (hs _ _ rfl)]
        simp_arith [ixD, atI_zero, atI_one]
      · have h3 : ∀ ds, b ≠ .tuple ds := fun ds e => h2 ⟨ds, e⟩
        rw [townV_no2 h3, ← G_ways_no p b h3]
        simp_arith [ixD, atI_zero, atI_one]
    · rw [and_f (by simp_arith [ixD, atI_zero, G_within, h1, k_MOST_PLACES]), townV_no1 h1]
  · rw [and_f (by simp_arith [G_tupN, h]), townV_no h]
theorem eT_of {f : Fn.Env → Option D} {ρ : Fn.Env} {b : Bool} (h : f ρ = some (.bool b)) : eT f ρ = some b := by unfold eT; rw [h]
theorem e2_of {g : D → D → Option D} {f f' : Fn.Env → Option D} {ρ : Fn.Env} {x y : D} (h : f ρ = some x) (h' : f' ρ = some y) : e2 g f f' ρ = g x y := by unfold e2; rw [h, h']
noncomputable def pw (w : D) : Bool := [PyData.str "met", .str "apart"].any fun y => PyData.eqv y w
noncomputable def qw (w : D) : Bool := [PyData.str "there", .str "seen", .str "never"].any fun y => PyData.eqv y w
theorem in_strs (ss : List Str) (w : D) : inD w (.tuple (ss.map PyData.str)) = some (.bool ((ss.map PyData.str).any fun y => PyData.eqv y w)) ∧ notInD w (.tuple (ss.map PyData.str)) = some (.bool (!(ss.map PyData.str).any fun y => PyData.eqv y w)) := by
  have h : PyData.depthAll (ss.map PyData.str) = 0 := by
    induction ss with
    | nil => rfl
    | cons s ss ih => simp only [List.map, PyData.depthAll, PyData.depth, ih]; rfl
  unfold inD notInD
  simp only [h]
  rw [if_pos (by simp), if_pos (by simp)]
  exact ⟨rfl, rfl⟩
theorem in_pw (w : D) : inD w k_PERSON_WORDS = some (.bool (pw w)) := (in_strs ["met", "apart"] w).1
theorem in_qw (w : D) : inD w k_PLACE_WORDS = some (.bool (qw w)) := (in_strs ["there", "seen", "never"] w).1
theorem in_pw2 (w : D) : inD w (.tuple [.str "met", .str "apart"]) = some (.bool (pw w)) := (in_strs ["met", "apart"] w).1
noncomputable def whatOk (p n : Int) (w : D) (a : Int) (b : D) : Bool := match b with
  | .int b => decide (0 ≤ b) && if pw w then decide (b < n) && !decide (b = a) else qw w && decide (b < p)
  | _ => false
noncomputable abbrev frOf (p n l : Int) (W S : D) : D := .tuple [.tuple [.int p, W], .int n, .int l, S]
theorem G_what (p n l a : Int) (W S w b : D) : G_is_what [frOf p n l W S, w, .int a, b] = some (.bool (whatOk p n w a b)) := by
  unfold G_is_what b_is_what
  by_cases h : pw w = true
  · refine run_of rfl (seq_r ((if_t (by simp_arith [in_pw, h])).trans (ret_r ?_)))
    rw [and_b (x := within b 0 (n - 1)) (y := match b with | .int b => !decide (b = a) | _ => false) (by simp_arith [ixD, atI_one, G_within]) (fun z => by
      obtain ⟨i, rfl, _, _⟩ := within_iff.1 z
      simp_arith [neD_int])]
    congr 2
    cases b <;> simp [within, whatOk, h]
    rename_i i
    apply bool_ext
    simp
    omega
  · refine run_of rfl ((si_f (by simp_arith [in_pw, h])).trans (ret_r ?_))
    rw [and_b (x := qw w) (y := within b 0 (p - 1)) (by simp_arith [in_qw]) (fun z => by simp_arith [ixD, atI_zero, G_within])]
    congr 2
    cases b <;> simp [within, whatOk, h]
    rename_i i
    apply bool_ext
    simp
    constructor <;> (rintro ⟨_, _, _⟩; refine ⟨?_, ?_, ?_⟩ <;> first | assumption | omega)
noncomputable def tellOk (p n l : Int) : D → Bool
  | .tuple [w, .int a, b, .int f, .int e] => decide (0 ≤ a) && decide (a < n) && whatOk p n w a b && decide (0 ≤ f) && decide (f ≤ e) && decide (e ≤ l)
  | _ => false
theorem tellOk_iff {p n l : Int} {x : D} : tellOk p n l x = true ↔ ∃ w a b f e, x = .tuple [w, .int a, b, .int f, .int e] ∧ 0 ≤ a ∧ a < n ∧ whatOk p n w a b = true ∧ 0 ≤ f ∧ f ≤ e ∧ e ≤ l := by
  constructor
  · intro h
    unfold tellOk at h
    split at h
    · simp at h
      exact ⟨_, _, _, _, _, rfl, by omega, by omega, by simp [h], by omega, by omega, by omega⟩
    · cases h
  · rintro ⟨w, a, b, f, e, rfl, h1, h2, h3, h4, h5, h6⟩
    simp [tellOk, *]
theorem G_fits (p n l : Int) (W S x : D) : G_fits_frame [frOf p n l W S, x] = some (.bool (tellOk p n l x)) := by
  unfold G_fits_frame b_fits_frame
  rw [run_ret (by rfl)]
  by_cases h : tupN x 5 = true
  · obtain ⟨w, a, b, f, e, rfl⟩ := tup5 h
    rw [and_t (by simp_arith [G_tupN, h])]
    by_cases h1 : within a 0 (n - 1) = true
    · rw [and_t (by simp_arith [ixD, atI_one, G_within, h1])]
      obtain ⟨a, rfl, _, _⟩ := within_iff.1 h1
      rw [and_b (x := whatOk p n w a b) (y := (match f, e with | .int f, .int e => decide (0 ≤ f) && decide (f ≤ e) && decide (e ≤ l) | _, _ => false)) (by simp_arith [ixD, atI_zero, atI_one, atI_two, G_what]) (fun _ => by
        by_cases h2 : within f 0 l = true
        · rw [and_t (by simp_arith [ixD, atI_three, atI_two, G_within, h2])]
          obtain ⟨f, rfl, _, _⟩ := within_iff.1 h2
          simp_arith [ixD, atI_three, atI_two, atI_four, G_within]
          cases e <;> simp [within]
          apply bool_ext
          simp
          omega
        · rw [and_f (by simp_arith [ixD, atI_three, atI_two, G_within, h2])]
          congr 2
          refine (Bool.eq_false_iff.2 fun z => h2 ?_).symm
          cases f <;> cases e <;> simp at z
          simp [within]
          omega)]
      congr 2
      cases f with
      | int f => cases e with
        | int e =>
          apply bool_ext
          rw [tellOk_iff, Bool.and_eq_true, Bool.and_eq_true, Bool.and_eq_true, decide_eq_true_eq, decide_eq_true_eq, decide_eq_true_eq]
          constructor
          · rintro ⟨z1, ⟨z2, z3⟩, z4⟩
            exact ⟨w, a, b, f, e, rfl, by omega, by omega, z1, z2, z3, z4⟩
          · rintro ⟨w', a', b', f', e', hh, z1, z2, z3, z4, z5, z6⟩
            cases hh
            exact ⟨z3, ⟨z4, z5⟩, z6⟩
        | _ => simp [tellOk]
      | _ => simp [tellOk]
    · rw [and_f (by simp_arith [ixD, atI_one, G_within, h1])]
      congr 2
      refine (Bool.eq_false_iff.2 fun z => h1 ?_).symm
      obtain ⟨w, a, b, f, e, hh, _, _, _, _, _⟩ := tellOk_iff.1 z
      cases hh
      exact within_iff.2 ⟨a, rfl, by omega, by omega⟩
  · rw [and_f (by simp_arith [G_tupN, h])]
    congr 2
    refine (Bool.eq_false_iff.2 fun z => h ?_).symm
    obtain ⟨w, a, b, f, e, rfl, _⟩ := tellOk_iff.1 z
    rfl
noncomputable def townB (T : D) : Bool := match townV T with
  | some (.bool true) => true
  | _ => false
noncomputable def DefT (T : D) : Prop := small2 T ∧ ∃ b, townV T = some (.bool b)
theorem townB_of {T : D} (h : DefT T) : townV T = some (.bool (townB T)) := by
  obtain ⟨_, b, e⟩ := h
  rw [e]
  unfold townB
  rw [e]
  cases b <;> rfl
theorem townB_form {T : D} (h : townB T = true) : ∃ p ds, T = .tuple [.int p, .tuple ds] ∧ 1 ≤ p ∧ p ≤ 5 := by
  by_cases e : ∃ p ds, T = .tuple [.int p, .tuple ds]
  · obtain ⟨p, ds, rfl⟩ := e
    refine ⟨p, ds, rfl, ?_⟩
    by_cases hp : within (.int p) 1 5 = true
    · simpa [within] using hp
    · unfold townB at h
      rw [townV_no1 hp] at h
      cases h
  · unfold townB townV at h
    split at h
    · rename_i h'
      split at h'
      · rename_i p ds
        exact absurd ⟨p, ds, rfl⟩ e
      · cases h'
    · cases h
noncomputable def tellT (T P L d : D) : Bool := match T, P, L with
  | .tuple [.int p, _], .int n, .int l => tellOk p n l d
  | _, _, _ => false
noncomputable def tellsB (T P L : D) : D → Bool
  | .tuple ts => decide (ts.length ≤ 6) && ts.all (tellT T P L)
  | _ => false
noncomputable def caseB : D → Bool
  | .tuple [T, P, L, S] => townB T && (within P 1 3 && (within L 0 9 && tellsB T P L S))
  | _ => false
noncomputable def Fine (x : D) : Prop := ∀ T P L S, x = .tuple [T, P, L, S] → DefT T
theorem caseB_no {x : D} (h : ¬ tupN x 4 = true) : caseB x = false := by
  unfold caseB
  split
  · exact absurd rfl h
  · rfl
theorem G_tells (p n l : Int) (W S x : D) : G_are_tellings [frOf p n l W S, x] = some (.bool (tellsB (.tuple [.int p, W]) (.int n) (.int l) x)) := by
  unfold G_are_tellings b_are_tellings
  rw [run_ret (by rfl)]
  cases x with
  | tuple ts =>
    rw [and_t (by simp_arith [isi_tuple])]
    rw [and_b (x := decide (ts.length ≤ 6)) (y := ts.all (tellOk p n l)) (by
      have : decide ((ts.length : Int) ≤ 6) = decide (ts.length ≤ 6) := by apply bool_ext; simp; omega
      simp_arith [len1, k_MOST_TELLINGS, this]) (fun h => by
        have c : compF (gVar 0) (fun _ => some true) (eCall G_fits_frame (aCons (eVar 1) (aCons (eVar 0) aNil))) [Cel.emp, Cel.val (frOf p n l W S)] ts = some (ts.map fun d => .bool (tellOk p n l d)) := comp_map fun d _ => by simp_arith [G_fits]
        have hb : ts.length ≤ 100000 := by have := of_decide_eq_true h; omega
        simp_arith [eComp, nComp, eAny, selF, c, hb, all1, allB_map])]
    rfl
  | _ => rw [and_f (by simp_arith [isi_tuple])]; rfl
theorem G_case (x : D) (hf : Fine x) : G_is_case [x] = some (.bool (caseB x)) := by
  unfold G_is_case b_is_case
  rw [run_ret (by rfl)]
  by_cases h : tupN x 4 = true
  · obtain ⟨T, P, L, S, rfl⟩ := tup4 h
    have hT := hf _ _ _ _ rfl
    rw [and_t (by simp_arith [G_tupN, h])]
    rw [and_b (x := townB T) (y := within P 1 3 && (within L 0 9 && tellsB T P L S)) (by simp_arith [ixD, atI_zero, G_town T hT.1, townB_of hT]) (fun h1 => ?_)]
    · rfl
    rw [and_b (x := within P 1 3) (y := within L 0 9 && tellsB T P L S) (by simp_arith [ixD, atI_one, G_within, k_MOST_PERSONS]) (fun h2 => ?_)]
    rw [and_b (x := within L 0 9) (y := tellsB T P L S) (by simp_arith [ixD, atI_two, G_within, k_GREATEST_LAST]) (fun h3 => ?_)]
    obtain ⟨p, ds, rfl, _, _⟩ := townB_form h1
    obtain ⟨n, rfl, _, _⟩ := within_iff.1 h2
    obtain ⟨l, rfl, _, _⟩ := within_iff.1 h3
    rw [← G_tells p n l (.tuple ds) S S]
    simp_arith [ixD, atI_three]
  · rw [and_f (by simp_arith [G_tupN, h]), caseB_no h]
theorem eqD_of {a b : D} (h : a.depth ≤ 100) : eqD a b = some (.bool (PyData.eqv a b)) := by
  unfold eqD
  exact if_pos (Nat.le_trans (Nat.min_le_left _ _) h)
theorem nodup_le {α : Type} [DecidableEq α] : ∀ (l m : List α), l.Nodup → (∀ x ∈ l, x ∈ m) → l.length ≤ m.length
  | [], _, _, _ => Nat.zero_le _
  | x :: l, m, hn, hs => by
    obtain ⟨h1, h2⟩ := List.nodup_cons.1 hn
    have hx : x ∈ m := hs x List.mem_cons_self
    have i := nodup_le l (m.erase x) h2 fun y hy => (List.mem_erase_of_ne (fun (e : y = x) => h1 (e ▸ hy))).2 (hs y (List.mem_cons_of_mem _ hy))
    have e := List.length_erase_of_mem hx
    have : 0 < m.length := List.length_pos_of_mem hx
    simp only [List.length_cons]
    omega
noncomputable def wkey : D → List Int
  | .tuple (.int i :: .int j :: _) => [i, j]
  | _ => []
theorem keys_ways {p : Int} : ∀ (ds : List D), ds.all (wayOk p) = true → keysD (ds.map pre2) = some (ds.map wkey)
  | [], _ => rfl
  | d :: ds, h => by
    simp only [List.all_cons, Bool.and_eq_true] at h
    obtain ⟨i, j, t, rfl, _⟩ := wayOk_iff.1 h.1
    simp only [List.map, keysD, pre2, intsD, intsL, keys_ways ds h.2, wkey]
theorem depth_ways {p : Int} : ∀ (ds : List D), ds.all (wayOk p) = true → PyData.depthAll (ds.map pre2) ≤ 1
  | [], _ => by simp [PyData.depthAll]
  | d :: ds, h => by
    simp only [List.all_cons, Bool.and_eq_true] at h
    obtain ⟨i, j, t, rfl, _⟩ := wayOk_iff.1 h.1
    have := depth_ways ds h.2
    simp only [List.map, PyData.depthAll, PyData.depth, pre2]
    omega
noncomputable def Few (ds : List D) : Prop := ∃ es : List D, es.length ≤ 4 ∧ ∀ d ∈ ds, d ∈ es
theorem rise_def {p : Int} {ds : List D} (h : ds.all (wayOk p) = true) (hf : Few ds) : ∃ b, rise (ds.map pre2) = some (.bool b) := by
  obtain ⟨es, he, hs⟩ := hf
  have hk := keys_ways ds h
  have h1 : (sortK (ds.map wkey)).length ≤ 4 := by
    have := nodup_le (sortK (ds.map wkey)) (es.map wkey) (up_nodup (sortK_up _)) fun x hx => by
      rw [sortK_mem] at hx
      obtain ⟨d, hd, rfl⟩ := List.mem_map.1 hx
      exact List.mem_map.2 ⟨d, hs d hd, rfl⟩
    simp only [List.length_map] at this
    omega
  have h2 : ∀ k ∈ ds.map wkey, k ≠ [] := fun k hk => by
    obtain ⟨d, hd, rfl⟩ := List.mem_map.1 hk
    obtain ⟨i, j, t, rfl, _⟩ := wayOk_iff.1 (List.all_eq_true.1 h d hd)
    simp [wkey]
  have hd := depth_ways ds h
  unfold rise sortSetN
  simp only [hk]
  rw [if_pos ⟨h1, h2⟩]
  exact ⟨_, eqD_of (show PyData.depthAll (ds.map pre2) + 1 ≤ 100 by omega)⟩
noncomputable def Fw (T : D) : Prop := ∀ a ds, T = .tuple [a, .tuple ds] → ds.length ≤ 1000 ∧ ((∃ p, a = .int p) → Few ds)
theorem Fw.def {T : D} (h : Fw T) : DefT T := by
  refine ⟨fun a ds e => (h a ds e).1, ?_⟩
  unfold townV
  split
  · rename_i p ds
    have := (h _ _ rfl).2 ⟨p, rfl⟩
    split
    · split
      · rename_i hw
        exact rise_def hw this
      · exact ⟨_, rfl⟩
    · exact ⟨_, rfl⟩
  · exact ⟨_, rfl⟩
noncomputable abbrev SS (ns : List Int) : D := .list (ns.map PyData.int)
noncomputable def cellI (ns : List Int) (k : Int) : Int := if ns = [] then 7 * k else ns.getD (k % ns.length).toNat 0 + 6553 * (k / ns.length)
theorem mul_l {a b : Int} (h : fitsI a = true) : mulD (.int a) (.int b) = some (.int (a * b)) := by simp [mulD, iIC, h]
theorem mod_p {a b : Int} (h : 0 < b) : modD (.int a) (.int b) = some (.int (a % b)) := by simp [modD, iIC, h]
theorem div_p {a b : Int} (h : 0 < b) (h' : b < 1073741824) : fdivD (.int a) (.int b) = some (.int (a / b)) := by simp [fdivD, iIC, h, h']
theorem add_i (a b : Int) : addD (.int a) (.int b) = some (.int (a + b)) := rfl
theorem atI_of {α : Type} {xs : List α} {i : Int} {d : α} (h0 : 0 ≤ i) (h1 : i < xs.length) : atI xs i = some (xs.getD i.toNat d) := by
  have h2 : i.toNat < xs.length := by omega
  unfold atI ixN
  rw [if_pos h0, if_pos h1]
  simp [List.getD, h2]
theorem L_cell (ns : List Int) (hl : ns.length ≤ 63) (k : Int) : G__law_cell [SS ns, .int k] = some (.int (cellI ns k)) := by
  unfold G__law_cell b__law_cell cellI
  by_cases h : ns = []
  · subst h
    rw [if_pos rfl]
    refine run_of rfl (seq_r ((if_t (by simp_arith [eqD_nil])).trans (ret_r ?_)))
    simp_arith []
    exact mul_l rfl
  · rw [if_neg h]
    have hp : 0 < ns.length := List.length_pos_iff.2 h
    refine run_of rfl ?_
    rw [si_f (by simp_arith [eqD_nil, h])]
    refine ret_r ?_
    have h1 : 0 ≤ k % (ns.length : Int) := Int.emod_nonneg _ (by omega)
    have h2 : k % (ns.length : Int) < ns.length := Int.emod_lt_of_pos _ (by omega)
    have h3 : atI (ns.map PyData.int) (k % (ns.length : Int)) = some (.int (ns.getD (k % (ns.length : Int)).toNat 0)) := by
      rw [atI_of (d := .int 0) h1 (by simpa using h2)]
      congr 1
      simp only [List.getD, List.getElem?_map]
      cases ns[(k % (ns.length : Int)).toNat]? <;> rfl
    simp_arith [len1, mod_p (show (0 : Int) < ns.length by omega), div_p (show (0 : Int) < ns.length by omega) (show (ns.length : Int) < 1073741824 by omega), ixD, h3, mul_l (show fitsI 6553 = true by decide), add_i]
noncomputable def drw (ns : List Int) (k m : Int) : Int :=
  let c1 := (cellI ns k % 2147483563 * 69069 + 104723 * (k + 1)) % 2147483563
  let c2 := (c1 * c1 + c1 / 3) % 2147483399
  (c2 * c2 + c2 / 7) % 2147483647 / 11 % m
theorem fits_of {a b : Int} (h0 : 0 ≤ a) (h1 : a < b) (hb : b ≤ 2147483648) : fitsI a = true := by
  unfold fitsI
  simp
  omega
theorem L_drawn (ns : List Int) (hl : ns.length ≤ 63) (k m : Int) (hm : 0 < m) : G__law_drawn [SS ns, .int k, .int m] = some (.int (drw ns k m)) ∧ 0 ≤ drw ns k m ∧ drw ns k m < m := by
  refine ⟨?_, Int.emod_nonneg _ (by omega), Int.emod_lt_of_pos _ hm⟩
  unfold G__law_drawn b__law_drawn drw
  have a0 : 0 ≤ cellI ns k % 2147483563 := Int.emod_nonneg _ (by omega)
  have a1 : cellI ns k % 2147483563 < 2147483563 := Int.emod_lt_of_pos _ (by omega)
  have fa := fits_of a0 a1 (by omega)
  generalize hc1 : (cellI ns k % 2147483563 * 69069 + 104723 * (k + 1)) % 2147483563 = c1
  have b0 : 0 ≤ c1 := hc1 ▸ Int.emod_nonneg _ (by omega)
  have b1 : c1 < 2147483563 := hc1 ▸ Int.emod_lt_of_pos _ (by omega)
  have fb := fits_of b0 b1 (by omega)
  generalize hc2 : (c1 * c1 + c1 / 3) % 2147483399 = c2
  have d0 : 0 ≤ c2 := hc2 ▸ Int.emod_nonneg _ (by omega)
  have d1 : c2 < 2147483399 := hc2 ▸ Int.emod_lt_of_pos _ (by omega)
  have fd := fits_of d0 d1 (by omega)
  refine run_of rfl ?_
  rw [set_n (d := .int c1) (by
    simp_arith [L_cell ns hl k, mod_p (show (0 : Int) < 2147483563 by omega), mul_l fa, mul_l (show fitsI 104723 = true by decide), add_i, hc1])]
  rw [set_n (d := .int c2) (by
    simp_arith [mod_p (show (0 : Int) < 2147483399 by omega), mul_l fb, add_i, div_p (show (0 : Int) < 3 by omega) (show (3 : Int) < 1073741824 by omega), hc2])]
  refine ret_r ?_
  simp_arith [mod_p (show (0 : Int) < 2147483647 by omega), mul_l fd, add_i, div_p (show (0 : Int) < 7 by omega) (show (7 : Int) < 1073741824 by omega), div_p (show (0 : Int) < 11 by omega) (show (11 : Int) < 1073741824 by omega), mod_p hm]
  rw [hc2]
noncomputable abbrev way (i j t : Int) : D := .tuple [.int i, .int j, .int t]
noncomputable def Opt (i j : Int) (o : List D) : Prop := o = [] ∨ ∃ t : Int, (t = 1 ∨ t = 2) ∧ o = [way i j t]
noncomputable abbrev twB : Fn.Env → Option Fl := (sIf (eT (e2 gtI (eCall G__law_drawn (aCons (eVar 0) (aCons (e2 addD (e2 addD (e2 addD (bVar 1) (eC (.int 1))) (e2 mulD (eC (.int 4)) (bVar 5))) (bVar 6)) (aCons (eC (.int 4)) aNil)))) (eC (.int 0)))) (sApp 4 (eTup (aCons (eVar 5) (aCons (eVar 6) (aCons (e2 ixD (eLst (aCons (eC (.int 1)) (aCons (eC (.int 1)) (aCons (eC (.int 2)) aNil)))) (eCall G__law_drawn (aCons (eVar 0) (aCons (e2 addD (e2 addD (e2 addD (bVar 1) (eC (.int 20))) (e2 mulD (eC (.int 4)) (bVar 5))) (bVar 6)) (aCons (eC (.int 3)) aNil))))) aNil))))) sNil)
noncomputable abbrev twE (S : D) (at_ m p : Int) (acc : List D) (x y : Cel) : Fn.Env := [.val S, .val (.int at_), .val (.int m), .val (.int p), .own acc, x, y]
theorem rng_in {m : Int} {i : Int} (h : 0 ≤ i) (h' : i < 3) : ∃ t : Int, (t = 1 ∨ t = 2) ∧ atI [PyData.int 1, .int 1, .int 2] i = some (.int t) := by
  have : i = 0 ∨ i = 1 ∨ i = 2 := by omega
  rcases this with rfl | rfl | rfl
  · exact ⟨1, .inl rfl, rfl⟩
  · exact ⟨1, .inl rfl, rfl⟩
  · exact ⟨2, .inr rfl, rfl⟩
theorem tw_step (ns : List Int) (hl : ns.length ≤ 63) (at_ m p : Int) (acc : List D) (i j : Int) (ha : acc.length < 100000) :
    ∃ o, Opt i j o ∧ twB (twE (SS ns) at_ m p acc (.val (.int i)) (.val (.int j))) = some (.nx (twE (SS ns) at_ m p (acc ++ o) (.val (.int i)) (.val (.int j)))) := by
  obtain ⟨e1, a1, b1⟩ := L_drawn ns hl (at_ + 1 + 4 * i + j) 4 (by omega)
  obtain ⟨e2', a2, b2⟩ := L_drawn ns hl (at_ + 20 + 4 * i + j) 3 (by omega)
  unfold twB
  by_cases h : 0 < drw ns (at_ + 1 + 4 * i + j) 4
  · obtain ⟨t, ht, et⟩ := rng_in (m := 0) a2 b2
    refine ⟨[way i j t], .inr ⟨t, ht, rfl⟩, ?_⟩
    refine (if_t (by simp_arith [add_i, mul_l (show fitsI 4 = true by decide), e1, h])).trans ?_
    simp_arith [add_i, mul_l (show fitsI 4 = true by decide), e2', ixD, et, ha]
  · refine ⟨[], .inl rfl, ?_⟩
    refine (if_f (by simp_arith [add_i, mul_l (show fitsI 4 = true by decide), e1, h])).trans ?_
    simp_arith []
theorem for_of {f : Fn.Env → Option (List D)} {g : Fn.Env → D → Option Fn.Env} {b : Fn.Env → Option Fl} {ds : List D} {ρ : Fn.Env} (h : f ρ = some ds) : sFor f g b ρ = forF g b ds ρ := by unfold sFor; rw [h]
theorem for_cons {g : Fn.Env → D → Option Fn.Env} {b : Fn.Env → Option Fl} {d : D} {ds : List D} {ρ ρ1 ρ2 : Fn.Env} (h : g ρ d = some ρ1) (h2 : b ρ1 = some (.nx ρ2)) : forF g b (d :: ds) ρ = forF g b ds ρ2 := by
  conv => lhs; unfold forF
  rw [h]
  simp only
  rw [h2]
noncomputable def TownIs (x : D) : Prop := ∃ p ws, x = .tuple [.int p, .tuple ws] ∧ 1 ≤ p ∧ p ≤ 3 ∧ ws.all (wayOk p) = true ∧ ∃ o1 o2 o3, ws = o1 ++ o2 ++ o3 ∧ Opt 0 1 o1 ∧ Opt 0 2 o2 ∧ Opt 1 2 o3
theorem opt_way {i j p : Int} {o : List D} (h : Opt i j o) (h1 : 0 ≤ i) (h2 : i < j) (h3 : j < p) : o.all (wayOk p) = true := by
  rcases h with rfl | ⟨t, ht, rfl⟩
  · rfl
  · have : 1 ≤ t ∧ t ≤ 4 := by omega
    simp [wayOk, *]
theorem opt_len {i j : Int} {o : List D} (h : Opt i j o) : o.length ≤ 1 := by
  rcases h with rfl | ⟨t, ht, rfl⟩ <;> simp
theorem L_mk (ns : List Int) (hl : ns.length ≤ 63) (at_ : Int) : ∃ x, G__law_town [SS ns, .int at_, .int 3] = some x ∧ TownIs x := by
  obtain ⟨e1, a1, b1⟩ := L_drawn ns hl at_ 3 (by omega)
  have st : ∀ p : Int, p = 1 + drw ns at_ 3 → ∀ ws c c', (sFor (eRng1 (eVar 3)) (gVar 5) (sFor (eRng2 (e2 addD (bVar 5) (eC (.int 1))) (eVar 3)) (gVar 6) (sIf (eT (e2 gtI (eCall G__law_drawn (aCons (eVar 0) (aCons (e2 addD (e2 addD (e2 addD (bVar 1) (eC (.int 1))) (e2 mulD (eC (.int 4)) (bVar 5))) (bVar 6)) (aCons (eC (.int 4)) aNil)))) (eC (.int 0)))) (sApp 4 (eTup (aCons (eVar 5) (aCons (eVar 6) (aCons (e2 ixD (eLst (aCons (eC (.int 1)) (aCons (eC (.int 1)) (aCons (eC (.int 2)) aNil)))) (eCall G__law_drawn (aCons (eVar 0) (aCons (e2 addD (e2 addD (e2 addD (bVar 1) (eC (.int 20))) (e2 mulD (eC (.int 4)) (bVar 5))) (bVar 6)) (aCons (eC (.int 3)) aNil))))) aNil))))) sNil))) (twE (SS ns) at_ 3 p [] .emp .emp) = some (.nx (twE (SS ns) at_ 3 p ws c c')) → G__law_town [SS ns, .int at_, .int 3] = some (.tuple [.int p, .tuple ws]) := by
    intro p hp ws c c' h
    unfold G__law_town b__law_town
    refine run_of rfl ?_
    rw [set_n (d := .int p) (by simp_arith [e1, add_i, hp])]
    refine (seq_n (ρ' := twE (SS ns) at_ 3 p [] .emp .emp) rfl).trans ?_
    rw [seq_n h]
    refine ret_r ?_
    simp_arith [tuple1]
  have inn : ∀ (p : Int) (acc : List D) (c : Cel) (i : Int) (js : List D), (smallI (i + 1) && smallI p) = true → rngD (i + 1) (p - (i + 1)).toNat = js → (sFor (eRng2 (e2 addD (bVar 5) (eC (.int 1))) (eVar 3)) (gVar 6) (sIf (eT (e2 gtI (eCall G__law_drawn (aCons (eVar 0) (aCons (e2 addD (e2 addD (e2 addD (bVar 1) (eC (.int 1))) (e2 mulD (eC (.int 4)) (bVar 5))) (bVar 6)) (aCons (eC (.int 4)) aNil)))) (eC (.int 0)))) (sApp 4 (eTup (aCons (eVar 5) (aCons (eVar 6) (aCons (e2 ixD (eLst (aCons (eC (.int 1)) (aCons (eC (.int 1)) (aCons (eC (.int 2)) aNil)))) (eCall G__law_drawn (aCons (eVar 0) (aCons (e2 addD (e2 addD (e2 addD (bVar 1) (eC (.int 20))) (e2 mulD (eC (.int 4)) (bVar 5))) (bVar 6)) (aCons (eC (.int 3)) aNil))))) aNil))))) sNil)) (twE (SS ns) at_ 3 p acc (.val (.int i)) c) = forF (gVar 6) twB js (twE (SS ns) at_ 3 p acc (.val (.int i)) c) := by
    intro p acc c i js hs hj
    have : (eRng2 (e2 addD (bVar 5) (eC (.int 1))) (eVar 3)) (twE (SS ns) at_ 3 p acc (.val (.int i)) c) = some js := by
      simp_arith [eRng2, add_i, hj]
      simpa using hs
    exact for_of this
  have out : ∀ (p : Int) (is : List D), smallI p = true → rngD 0 p.toNat = is → (sFor (eRng1 (eVar 3)) (gVar 5) (sFor (eRng2 (e2 addD (bVar 5) (eC (.int 1))) (eVar 3)) (gVar 6) (sIf (eT (e2 gtI (eCall G__law_drawn (aCons (eVar 0) (aCons (e2 addD (e2 addD (e2 addD (bVar 1) (eC (.int 1))) (e2 mulD (eC (.int 4)) (bVar 5))) (bVar 6)) (aCons (eC (.int 4)) aNil)))) (eC (.int 0)))) (sApp 4 (eTup (aCons (eVar 5) (aCons (eVar 6) (aCons (e2 ixD (eLst (aCons (eC (.int 1)) (aCons (eC (.int 1)) (aCons (eC (.int 2)) aNil)))) (eCall G__law_drawn (aCons (eVar 0) (aCons (e2 addD (e2 addD (e2 addD (bVar 1) (eC (.int 20))) (e2 mulD (eC (.int 4)) (bVar 5))) (bVar 6)) (aCons (eC (.int 3)) aNil))))) aNil))))) sNil))) (twE (SS ns) at_ 3 p [] .emp .emp) = forF (gVar 5) (sFor (eRng2 (e2 addD (bVar 5) (eC (.int 1))) (eVar 3)) (gVar 6) (sIf (eT (e2 gtI (eCall G__law_drawn (aCons (eVar 0) (aCons (e2 addD (e2 addD (e2 addD (bVar 1) (eC (.int 1))) (e2 mulD (eC (.int 4)) (bVar 5))) (bVar 6)) (aCons (eC (.int 4)) aNil)))) (eC (.int 0)))) (sApp 4 (eTup (aCons (eVar 5) (aCons (eVar 6) (aCons (e2 ixD (eLst (aCons (eC (.int 1)) (aCons (eC (.int 1)) (aCons (eC (.int 2)) aNil)))) (eCall G__law_drawn (aCons (eVar 0) (aCons (e2 addD (e2 addD (e2 addD (bVar 1) (eC (.int 20))) (e2 mulD (eC (.int 4)) (bVar 5))) (bVar 6)) (aCons (eC (.int 3)) aNil))))) aNil))))) sNil)) is (twE (SS ns) at_ 3 p [] .emp .emp) := by
    intro p is hs hj
    have : (eRng1 (eVar 3)) (twE (SS ns) at_ 3 p [] .emp .emp) = some is := by
      simp_arith [eRng1, hs, hj]
    exact for_of this
  have : drw ns at_ 3 = 0 ∨ drw ns at_ 3 = 1 ∨ drw ns at_ 3 = 2 := by omega
  rcases this with h | h | h
  · refine ⟨_, st 1 (by omega) [] (.val (.int 0)) .emp ?_, 1, [], rfl, by omega, by omega, rfl, [], [], [], rfl, .inl rfl, .inl rfl, .inl rfl⟩
    rw [out 1 [.int 0] rfl rfl, for_cons (ρ2 := twE (SS ns) at_ 3 1 [] (.val (.int 0)) .emp) rfl]
    · rfl
    · exact inn 1 [] .emp 0 [] rfl rfl
  · obtain ⟨o, ho, t1⟩ := tw_step ns hl at_ 3 2 [] 0 1 (by simp)
    refine ⟨_, st 2 (by omega) o (.val (.int 1)) (.val (.int 1)) ?_, 2, o, rfl, by omega, by omega, opt_way ho (by omega) (by omega) (by omega), o, [], [], by simp, ho, .inl rfl, .inl rfl⟩
    rw [out 2 [.int 0, .int 1] rfl rfl, for_cons (ρ2 := twE (SS ns) at_ 3 2 o (.val (.int 0)) (.val (.int 1))) rfl, for_cons (ρ2 := twE (SS ns) at_ 3 2 o (.val (.int 1)) (.val (.int 1))) rfl]
    · rfl
    · exact inn 2 o (.val (.int 1)) 1 [] rfl rfl
    · refine (inn 2 [] .emp 0 [.int 1] rfl rfl).trans ?_
      rw [for_cons rfl t1]
      rfl
  · obtain ⟨o1, h1, t1⟩ := tw_step ns hl at_ 3 3 [] 0 1 (by simp)
    obtain ⟨o2, h2, t2⟩ := tw_step ns hl at_ 3 3 o1 0 2 (by have := opt_len h1; omega)
    obtain ⟨o3, h3, t3⟩ := tw_step ns hl at_ 3 3 (o1 ++ o2) 1 2 (by have := opt_len h1; have := opt_len h2; simp; omega)
    refine ⟨_, st 3 (by omega) (o1 ++ o2 ++ o3) (.val (.int 2)) (.val (.int 2)) ?_, 3, o1 ++ o2 ++ o3, rfl, by omega, by omega, ?_, o1, o2, o3, rfl, h1, h2, h3⟩
    · rw [out 3 [.int 0, .int 1, .int 2] rfl rfl, for_cons (ρ2 := twE (SS ns) at_ 3 3 (o1 ++ o2) (.val (.int 0)) (.val (.int 2))) rfl, for_cons (ρ2 := twE (SS ns) at_ 3 3 (o1 ++ o2 ++ o3) (.val (.int 1)) (.val (.int 2))) rfl, for_cons (ρ2 := twE (SS ns) at_ 3 3 (o1 ++ o2 ++ o3) (.val (.int 2)) (.val (.int 2))) rfl]
      · rfl
      · exact inn 3 _ (.val (.int 2)) 2 [] rfl rfl
      · refine (inn 3 _ (.val (.int 2)) 1 [.int 2] rfl rfl).trans ?_
        rw [for_cons rfl t3]
        rfl
      · refine (inn 3 [] .emp 0 [.int 1, .int 2] rfl rfl).trans ?_
        rw [for_cons rfl t1, for_cons rfl t2]
        rfl
    · rw [List.all_append, List.all_append, opt_way h1 (by omega) (by omega) (by omega), opt_way h2 (by omega) (by omega) (by omega), opt_way h3 (by omega) (by omega) (by omega)]
      rfl
theorem rise8 {o1 o2 o3 : List D} (h1 : Opt 0 1 o1) (h2 : Opt 0 2 o2) (h3 : Opt 1 2 o3) : rise ((o1 ++ o2 ++ o3).map pre2) = some (.bool true) ∧ rise ((o1 ++ o2 ++ o3 ++ [way 3 4 4]).map pre2) = some (.bool true) := by
  rcases h1 with rfl | ⟨t1, ht1, rfl⟩ <;> rcases h2 with rfl | ⟨t2, ht2, rfl⟩ <;> rcases h3 with rfl | ⟨t3, ht3, rfl⟩ <;> exact ⟨rfl, rfl⟩
noncomputable abbrev ws6 : List D := [.str "there", .str "seen", .str "seen", .str "never", .str "met", .str "apart"]
theorem ws_in {i : Int} (h : 0 ≤ i) (h' : i < 6) : ∃ w, atI ws6 i = some w ∧ ((pw w = false ∧ qw w = true) ∨ pw w = true) := by
  have : i = 0 ∨ i = 1 ∨ i = 2 ∨ i = 3 ∨ i = 4 ∨ i = 5 := by omega
  rcases this with rfl | rfl | rfl | rfl | rfl | rfl
  · exact ⟨_, rfl, .inl ⟨rfl, rfl⟩⟩
  · exact ⟨_, rfl, .inl ⟨rfl, rfl⟩⟩
  · exact ⟨_, rfl, .inl ⟨rfl, rfl⟩⟩
  · exact ⟨_, rfl, .inl ⟨rfl, rfl⟩⟩
  · exact ⟨_, rfl, .inr rfl⟩
  · exact ⟨_, rfl, .inr rfl⟩
noncomputable abbrev ws4 : List D := [.str "there", .str "seen", .str "seen", .str "never"]
theorem ws_in4 {i : Int} (h : 0 ≤ i) (h' : i < 4) : ∃ w, atI ws4 i = some w ∧ (pw w = false ∧ qw w = true) := by
  have : i = 0 ∨ i = 1 ∨ i = 2 ∨ i = 3 := by omega
  rcases this with rfl | rfl | rfl | rfl
  · exact ⟨_, rfl, ⟨rfl, rfl⟩⟩
  · exact ⟨_, rfl, ⟨rfl, rfl⟩⟩
  · exact ⟨_, rfl, ⟨rfl, rfl⟩⟩
  · exact ⟨_, rfl, ⟨rfl, rfl⟩⟩
theorem L_tellmk (ns : List Int) (hl : ns.length ≤ 63) (at_ p n l : Int) (hp : 1 ≤ p) (hn1 : 1 ≤ n) (hn3 : n ≤ 3) (hl0 : 0 ≤ l) : ∃ x, G__law_telling [SS ns, .int at_, .int p, .int n, .int l] = some x ∧ tellOk p n l x = true := by
  obtain ⟨E2, A2, B2⟩ := L_drawn ns hl (at_ + 1) n (by omega)
  obtain ⟨E3, A3, B3⟩ := L_drawn ns hl (at_ + 3) (l + 1) (by omega)
  obtain ⟨E4, A4, B4⟩ := L_drawn ns hl (at_ + 4) (l - drw ns (at_ + 3) (l + 1) + 1) (by omega)
  obtain ⟨E5, A5, B5⟩ := L_drawn ns hl (at_ + 2) p (by omega)
  generalize drw ns (at_ + 1) n = who at *
  generalize drw ns (at_ + 3) (l + 1) = first at *
  generalize drw ns (at_ + 4) (l - first + 1) = len at *
  generalize drw ns (at_ + 2) p = what at *
  obtain ⟨wl, w, hw1, hw2, hw3⟩ : ∃ (wl : List D) (w : D), (eSlice (eLst (aCons (eC (.str "there")) (aCons (eC (.str "seen")) (aCons (eC (.str "seen")) (aCons (eC (.str "never")) (aCons (eC (.str "met")) (aCons (eC (.str "apart")) aNil))))))) oNone (oSome (e2 addD (eC (.int 4)) (e2 mulD (eC (.int 2)) (eCall int1 (aCons (e2 gtI (bVar 3) (eC (.int 1))) aNil)))))) [.val (SS ns), .val (.int at_), .val (.int p), .val (.int n), .val (.int l), .emp, .emp, .emp, .emp, .emp, .emp] = some (.list wl) ∧
      (∀ c : List Cel, (e2 ixD (bVar 5) (eCall G__law_drawn (aCons (eVar 0) (aCons (eVar 1) (aCons (eCall len1 (aCons (bVar 5) aNil)) aNil))))) (.val (SS ns) :: .val (.int at_) :: .val (.int p) :: .val (.int n) :: .val (.int l) :: .val (.list wl) :: c) = some w) ∧ ((pw w = false ∧ qw w = true) ∨ (2 ≤ n ∧ pw w = true)) := by
    by_cases hn : n = 1
    · subst hn
      obtain ⟨E1, A1, B1⟩ := L_drawn ns hl at_ 4 (by omega)
      obtain ⟨w, h1, h2⟩ := ws_in4 A1 B1
      refine ⟨ws4, w, ?_, fun c => ?_, .inl h2⟩
      · simp_arith [eSlice, oNone, oSome, int1, mul_l (show fitsI 2 = true by decide), add_i, slD, cutD, HT.sIx]
      · simp_arith [len1, E1, ixD, h1]
    · obtain ⟨E1, A1, B1⟩ := L_drawn ns hl at_ 6 (by omega)
      obtain ⟨w, h1, h2⟩ := ws_in A1 B1
      have hn2 : 1 < n := by omega
      refine ⟨ws6, w, ?_, fun c => ?_, h2.imp id fun z => ⟨by omega, z⟩⟩
      · simp_arith [eSlice, oNone, oSome, int1, hn2, mul_l (show fitsI 2 = true by decide), add_i, slD, cutD, HT.sIx]
      · simp_arith [len1, E1, ixD, h1]
  have fin : ∀ b : Int, whatOk p n w who (.int b) = true → tellOk p n l (.tuple [w, .int who, .int b, .int first, .int (first + len)]) = true := fun b hb =>
    tellOk_iff.2 ⟨w, who, .int b, first, first + len, rfl, by omega, by omega, hb, by omega, by omega, by omega⟩
  have run : ∀ b : Int, (sIf (eT (e2 inD (bVar 6) (eTup (aCons (eC (.str "met")) (aCons (eC (.str "apart")) aNil))))) (sSet 10 (e2 modD (e2 addD (e2 addD (bVar 7) (eC (.int 1))) (eCall G__law_drawn (aCons (eVar 0) (aCons (e2 addD (bVar 1) (eC (.int 2))) (aCons (e2 (iI fun i j => i - j) (bVar 3) (eC (.int 1))) aNil))))) (bVar 3))) sNil) [.val (SS ns), .val (.int at_), .val (.int p), .val (.int n), .val (.int l), .val (.list wl), .val w, .val (.int who), .val (.int first), .val (.int (first + len)), .val (.int what)] = some (.nx [.val (SS ns), .val (.int at_), .val (.int p), .val (.int n), .val (.int l), .val (.list wl), .val w, .val (.int who), .val (.int first), .val (.int (first + len)), .val (.int b)]) →
      G__law_telling [SS ns, .int at_, .int p, .int n, .int l] = some (.tuple [w, .int who, .int b, .int first, .int (first + len)]) := by
    intro b hb
    unfold G__law_telling b__law_telling
    refine run_of rfl ?_
    refine (set_n hw1).trans ?_
    refine (set_n (hw2 _)).trans ?_
    refine (set_n (d := .int who) (by simp_arith [add_i, E2])).trans ?_
    refine (set_n (d := .int first) (by simp_arith [add_i, E3])).trans ?_
    refine (set_n (d := .int (first + len)) (by simp_arith [add_i, E4])).trans ?_
    refine (set_n (d := .int what) (by simp_arith [add_i, E5])).trans ?_
    refine (seq_n hb).trans (ret_r ?_)
    simp_arith []
  rcases hw3 with ⟨h1, h2⟩ | ⟨hn2, h1⟩
  · refine ⟨_, run what ((if_f (by simp_arith [in_pw2, h1])).trans rfl), fin what ?_⟩
    simp [whatOk, h1, h2]
    omega
  · obtain ⟨E6, A6, B6⟩ := L_drawn ns hl (at_ + 2) (n - 1) (by omega)
    generalize drw ns (at_ + 2) (n - 1) = d at *
    refine ⟨_, run ((who + 1 + d) % n) ((if_t (by simp_arith [in_pw2, h1])).trans ?_), fin _ ?_⟩
    · simp_arith [add_i, E6, mod_p (show (0 : Int) < n by omega)]
    · have hn : n = 2 ∨ n = 3 := by omega
      simp [whatOk, h1]
      rcases hn with rfl | rfl <;> omega
noncomputable abbrev csB : Fn.Env → Option Fl := (sApp 6 (eCall G__law_telling (aCons (eVar 0) (aCons (e2 addD (e2 addD (bVar 1) (eC (.int 43))) (e2 mulD (eC (.int 5)) (bVar 7))) (aCons (e2 ixD (bVar 3) (eC (.int 0))) (aCons (eVar 4) (aCons (eVar 5) aNil)))))))
noncomputable abbrev csE (S T : D) (n l : Int) (acc : List D) (c : Cel) : Fn.Env := [.val S, .val (.int 0), .val (.int 5), .val T, .val (.int n), .val (.int l), .own acc, c]
theorem cs_loop (ns : List Int) (hl : ns.length ≤ 63) (p n l : Int) (W : D) (hp : 1 ≤ p) (hn1 : 1 ≤ n) (hn3 : n ≤ 3) (h0 : 0 ≤ l) : ∀ (ks : List Int) (acc : List D) (c : Cel), acc.length + ks.length ≤ 1000 →
    ∃ ts c', forF (gVar 7) csB (ks.map PyData.int) (csE (SS ns) (.tuple [.int p, W]) n l acc c) = some (.nx (csE (SS ns) (.tuple [.int p, W]) n l (acc ++ ts) c')) ∧ ts.length = ks.length ∧ ts.all (tellOk p n l) = true
  | [], acc, c, _ => ⟨[], c, by simp [forF], rfl, rfl⟩
  | k :: ks, acc, c, hb => by
    simp only [List.length_cons] at hb
    obtain ⟨x, ex, hx⟩ := L_tellmk ns hl (43 + 5 * k) p n l hp hn1 hn3 h0
    obtain ⟨ts, c', e, h1, h2⟩ := cs_loop ns hl p n l W hp hn1 hn3 h0 ks (acc ++ [x]) (.val (.int k)) (by simp; omega)
    refine ⟨x :: ts, c', ?_, by simp [h1], by simp [hx]; simpa using h2⟩
    have hs : acc.length < 100000 := by omega
    refine (for_cons (ρ2 := csE (SS ns) (.tuple [.int p, W]) n l (acc ++ [x]) (.val (.int k))) rfl (by simp_arith [add_i, mul_l (show fitsI 5 = true by decide), ixD, atI_zero, ex, hs])).trans ?_
    refine e.trans ?_
    simp
theorem rng_map (n : Nat) : rngD 0 n = ((List.range n).map fun (i : Nat) => (i : Int)).map PyData.int := by
  unfold rngD
  rw [List.map_map]
  refine List.map_congr_left fun i _ => ?_
  simp
structure CaseIs (x : D) : Prop where
  ex : ∃ p n l ws ts, x = frOf p n l (.tuple ws) (.tuple ts) ∧ 1 ≤ p ∧ p ≤ 3 ∧ 1 ≤ n ∧ n ≤ 3 ∧ 0 ≤ l ∧ l ≤ 3 ∧ ws.all (wayOk p) = true ∧ ts.length ≤ 5 ∧ ts.all (tellOk p n l) = true ∧
    ∃ o1 o2 o3, ws = o1 ++ o2 ++ o3 ∧ Opt 0 1 o1 ∧ Opt 0 2 o2 ∧ Opt 1 2 o3
theorem L_casemk (ns : List Int) (hl : ns.length ≤ 63) : ∃ x, G__law_many [SS ns, .int 0, .int 5] = some x ∧ CaseIs x := by
  obtain ⟨T, eT', p, ws, rfl, hp1, hp3, hw, ho⟩ := L_mk ns hl 0
  obtain ⟨E1, A1, B1⟩ := L_drawn ns hl 40 3 (by omega)
  have hn1 : 1 ≤ 1 + drw ns 40 3 := by omega
  have hn3 : 1 + drw ns 40 3 ≤ 3 := by omega
  generalize hnn : 1 + drw ns 40 3 = n at hn1 hn3
  obtain ⟨E2, A2, B2⟩ := L_drawn ns hl 41 4 (by omega)
  generalize drw ns 41 4 = l at *
  obtain ⟨E3, A3, B3⟩ := L_drawn ns hl 42 6 (by omega)
  generalize drw ns 42 6 = m at *
  obtain ⟨ts, c', e, h1, h2⟩ := cs_loop ns hl p n l (.tuple ws) (by omega) hn1 hn3 A2 ((List.range m.toNat).map fun (i : Nat) => (i : Int)) [] .emp (by simp; omega)
  refine ⟨frOf p n l (.tuple ws) (.tuple ts), ?_, ⟨p, n, l, ws, ts, rfl, hp1, hp3, by omega, by omega, by omega, by omega, hw, by simp at h1; omega, h2, ho⟩⟩
  unfold G__law_many b__law_many
  refine run_of rfl ?_
  refine (set_n (d := .tuple [.int p, .tuple ws]) (by simp_arith [eT'])).trans ?_
  refine (set_n (d := .int n) (by simp_arith [add_i, E1, hnn])).trans ?_
  refine (set_n (d := .int l) (by simp_arith [add_i, E2])).trans ?_
  refine (seq_n (ρ' := csE (SS ns) (.tuple [.int p, .tuple ws]) n l [] .emp) rfl).trans ?_
  have hm : smallI m = true := by unfold smallI; simp; omega
  have it : (eRng1 (eCall G__law_drawn (aCons (eVar 0) (aCons (e2 addD (bVar 1) (eC (.int 42))) (aCons (e2 addD (bVar 2) (eC (.int 1))) aNil))))) (csE (SS ns) (.tuple [.int p, .tuple ws]) n l [] .emp) = some (((List.range m.toNat).map fun (i : Nat) => (i : Int)).map PyData.int) := by
    simp_arith [eRng1, add_i, E3, hm]
    rw [rng_map, List.map_map]
  refine (seq_n ((for_of it).trans e)).trans (ret_r ?_)
  simp_arith [tuple1]
theorem ows_len {o1 o2 o3 : List D} (h1 : Opt 0 1 o1) (h2 : Opt 0 2 o2) (h3 : Opt 1 2 o3) : (o1 ++ o2 ++ o3).length ≤ 3 := by
  have := opt_len h1
  have := opt_len h2
  have := opt_len h3
  simp
  omega
theorem set_eq {i : Nat} {f : Fn.Env → Option D} {ρ : Fn.Env} {d : D} (h : f ρ = some d) : sSet i f ρ = some (.nx (ρ.set i (.val d))) := by unfold sSet; rw [h]
theorem atI_nn {α : Type} {xs : List α} {i : Int} {d : α} (h0 : 0 ≤ i) (h : xs[i.toNat]? = some d) : atI xs i = some d := by
  have h2 : i.toNat < xs.length := by
    rcases Nat.lt_or_ge i.toNat xs.length with z | z
    · exact z
    · rw [List.getElem?_eq_none z] at h; cases h
  unfold atI ixN
  rw [if_pos h0, if_pos (by omega)]
  exact h
noncomputable abbrev IL (ls : List Int) : D := .list (ls.map PyData.int)
noncomputable def gI (ls : List Int) (a : Int) : Int := ls.getD a.toNat 0
noncomputable def joinI (ls : List Int) (e : Int × Int) : List Int := ls.map fun v => if v = gI ls e.1 ∨ v = gI ls e.2 then minI (gI ls e.1) (gI ls e.2) else v
noncomputable def setI (ls : List Int) (e : Int × Int) : List Int := (ls.set e.1.toNat (minI (gI ls e.1) (gI ls e.2))).set e.2.toNat (minI (gI ls e.1) (gI ls e.2))
theorem joinI_len (ls : List Int) (e : Int × Int) : (joinI ls e).length = ls.length := by simp [joinI]
theorem setI_len (ls : List Int) (e : Int × Int) : (setI ls e).length = ls.length := by simp [setI]
theorem minI_comm (a b : Int) : minI a b = minI b a := by unfold minI; split <;> split <;> omega
theorem joinI_comm (ls : List Int) (a b : Int) : joinI ls (a, b) = joinI ls (b, a) := by
  unfold joinI
  congr 1
  funext v
  simp only [minI_comm (gI ls a) (gI ls b), Or.comm]
theorem setI_comm (ls : List Int) {a b : Int} (h : a.toNat ≠ b.toNat) : setI ls (a, b) = setI ls (b, a) := by
  unfold setI
  simp only [minI_comm (gI ls a) (gI ls b)]
  exact List.set_comm _ _ h
noncomputable def nrm (e : Int × Int) : Int × Int := if e.1 < e.2 then e else (e.2, e.1)
theorem joinI_nrm (ls : List Int) (e : Int × Int) : joinI ls (nrm e) = joinI ls e := by
  unfold nrm
  split
  · rfl
  · exact joinI_comm ls e.2 e.1
theorem setI_nrm (ls : List Int) {e : Int × Int} (h : e.1.toNat ≠ e.2.toNat) : setI ls (nrm e) = setI ls e := by
  unfold nrm
  split
  · rfl
  · exact setI_comm ls (Ne.symm h)
theorem fold_nrm : ∀ (es : List (Int × Int)) (ls : List Int), (es.map nrm).foldl joinI ls = es.foldl joinI ls
  | [], _ => rfl
  | e :: es, ls => by simp only [List.map_cons, List.foldl_cons, joinI_nrm]; exact fold_nrm es _
theorem folds_nrm : ∀ (es : List (Int × Int)) (ls : List Int), (∀ e ∈ es, e.1.toNat ≠ e.2.toNat) → (es.map nrm).foldl setI ls = es.foldl setI ls
  | [], _, _ => rfl
  | e :: es, ls, h => by
    simp only [List.map_cons, List.foldl_cons, setI_nrm ls (h e List.mem_cons_self)]
    exact folds_nrm es _ fun e he => h e (List.mem_cons_of_mem _ he)
noncomputable def seqs : Nat → List (Int × Int) → List (List (Int × Int))
  | 0, _ => [[]]
  | k + 1, A => [] :: A.flatMap fun e => (seqs k A).map (e :: ·)
theorem mem_seqs {A : List (Int × Int)} : ∀ (k : Nat) (es : List (Int × Int)), es.length ≤ k → (∀ e ∈ es, e ∈ A) → es ∈ seqs k A
  | 0, [], _, _ => by simp [seqs]
  | 0, e :: es, h, _ => by simp at h
  | k + 1, [], _, _ => by simp [seqs]
  | k + 1, e :: es, h, ha => by
    refine List.mem_cons_of_mem _ (List.mem_flatMap.2 ⟨e, ha e List.mem_cons_self, List.mem_map.2 ⟨es, mem_seqs k es (by simpa using h) fun x hx => ha x (List.mem_cons_of_mem _ hx), rfl⟩⟩)
noncomputable def pairsN (n : Nat) : List (Int × Int) := match n with
  | 2 => [(0, 1)]
  | 3 => [(0, 1), (0, 2), (1, 2)]
  | _ => []
noncomputable def labsN (n : Nat) : List (List Int) := match n with
  | 1 => [[0]]
  | 2 => [[0, 1], [0, 0]]
  | 3 => [[0, 1, 2], [0, 0, 2], [0, 1, 0], [0, 1, 1], [0, 0, 0]]
  | _ => []
noncomputable def rngI (n : Nat) : List Int := (List.range n).map fun (i : Nat) => (i : Int)
noncomputable def chkE (n : Nat) (es : List (Int × Int)) : Bool :=
  let L := es.foldl joinI (rngI n)
  decide (es.foldl setI (es.foldl setI (es.foldl setI (rngI n))) = L) && decide (L ∈ labsN n) && es.all fun e => decide (gI L e.1 = gI L e.2)
theorem chkE1 : ((seqs 5 (pairsN 1)).all (chkE 1)) = true := by decide +kernel
theorem chkE2 : ((seqs 5 (pairsN 2)).all (chkE 2)) = true := by decide +kernel
theorem chkE3 : ((seqs 5 (pairsN 3)).all (chkE 3)) = true := by decide +kernel
theorem nrm_mem {n : Int} (hn1 : 1 ≤ n) (hn3 : n ≤ 3) {e : Int × Int} (h1 : 0 ≤ e.1) (h2 : e.1 < n) (h3 : 0 ≤ e.2) (h4 : e.2 < n) (h5 : e.1 ≠ e.2) : nrm e ∈ pairsN n.toNat := by
  obtain ⟨a, b⟩ := e
  simp only at h1 h2 h3 h4 h5
  have hn : n = 2 ∨ n = 3 := by omega
  have ha : a = 0 ∨ a = 1 ∨ a = 2 := by omega
  have hb : b = 0 ∨ b = 1 ∨ b = 2 := by omega
  rcases hn with rfl | rfl <;> rcases ha with rfl | rfl | rfl <;> rcases hb with rfl | rfl | rfl <;> first | omega | decide
theorem labs_ok {n : Int} (hn1 : 1 ≤ n) (hn3 : n ≤ 3) {es : List (Int × Int)} (hl : es.length ≤ 5) (h : ∀ e ∈ es, 0 ≤ e.1 ∧ e.1 < n ∧ 0 ≤ e.2 ∧ e.2 < n ∧ e.1 ≠ e.2) :
    es.foldl joinI (rngI n.toNat) ∈ labsN n.toNat ∧ es.foldl setI (es.foldl setI (es.foldl setI (rngI n.toNat))) = es.foldl joinI (rngI n.toNat) ∧ ∀ e ∈ es, gI (es.foldl joinI (rngI n.toNat)) e.1 = gI (es.foldl joinI (rngI n.toNat)) e.2 := by
  have hne : ∀ e ∈ es, e.1.toNat ≠ e.2.toNat := fun e he => by have := h e he; omega
  have hm : es.map nrm ∈ seqs 5 (pairsN n.toNat) := mem_seqs 5 _ (by simpa using hl) fun e he => by
    obtain ⟨x, hx, rfl⟩ := List.mem_map.1 he
    have := h x hx
    exact nrm_mem hn1 hn3 this.1 this.2.1 this.2.2.1 this.2.2.2.1 this.2.2.2.2
  have c : chkE n.toNat (es.map nrm) = true := by
    have hn : n = 1 ∨ n = 2 ∨ n = 3 := by omega
    rcases hn with rfl | rfl | rfl
    · exact List.all_eq_true.1 chkE1 _ hm
    · exact List.all_eq_true.1 chkE2 _ hm
    · exact List.all_eq_true.1 chkE3 _ hm
  unfold chkE at c
  simp only [Bool.and_eq_true, decide_eq_true_eq, List.all_eq_true, fold_nrm, folds_nrm es _ hne] at c
  refine ⟨c.1.2, c.1.1, fun e he => ?_⟩
  have := c.2 (nrm e) (List.mem_map.2 ⟨e, he, rfl⟩)
  unfold nrm at this
  split at this
  · exact this
  · exact this.symm
theorem gI_at {ls : List Int} {a : Int} (h0 : 0 ≤ a) (h : a < ls.length) : atI (ls.map PyData.int) a = some (.int (gI ls a)) := by
  refine atI_nn h0 ?_
  have : a.toNat < ls.length := by omega
  rw [List.getElem?_map, List.getElem?_eq_getElem this]
  simp [gI, List.getD, List.getElem?_eq_getElem this]
theorem comp_mapI {fe : Fn.Env → Option D} {ρ : Fn.Env} {h : Int → D} : ∀ {ms : List Int}, (∀ m ∈ ms, fe (ρ.set 0 (.val (.int m))) = some (h m)) → compF (gVar 0) (fun _ => some true) fe ρ (ms.map PyData.int) = some (ms.map h)
  | [], _ => rfl
  | m :: ms, H => by
    have i := comp_mapI (ms := ms) fun x hx => H x (List.mem_cons_of_mem _ hx)
    have e := H m List.mem_cons_self
    rw [List.map_cons]
    unfold compF
    simp only [gVar]
    rw [e, i]; rfl
theorem comp_of {f : Fn.Env → Option (List D)} {cap : List (Option Nat)} {g : Fn.Env → D → Option Fn.Env} {t : Fn.Env → Option Bool} {fe : Fn.Env → Option D} {ρ ρ' : Fn.Env} {ds ys : List D} (h1 : f ρ = some ds) (h2 : selF cap ρ = ρ') (h3 : compF g t fe ρ' ds = some ys) (h4 : ys.length ≤ 100000) : eComp f cap g t fe ρ = some (.list ys) := by
  unfold eComp nComp
  rw [h1]
  simp only [h2, h3]
  exact congrArg (Option.map PyData.list) (if_pos h4)
theorem G_join {ls : List Int} {e : Int × Int} (hl : ls.length ≤ 1000) (h1 : 0 ≤ e.1) (h2 : e.1 < ls.length) (h3 : 0 ≤ e.2) (h4 : e.2 < ls.length) : G_labels_joined [IL ls, .int e.1, .int e.2] = some (IL (joinI ls e)) := by
  unfold G_labels_joined b_labels_joined
  refine run_of rfl ?_
  refine (set_n (d := .tuple [.int (gI ls e.1), .int (gI ls e.2)]) (by simp_arith [ixD, gI_at h1 h2, gI_at h3 h4])).trans (ret_r ?_)
  have c : compF (gVar 0) (fun _ => some true) (eIf (eT (e2 inD (bVar 0) (bVar 1))) (eCall min1 (aCons (bVar 1) aNil)) (eVar 0)) [Cel.emp, .val (.tuple [.int (gI ls e.1), .int (gI ls e.2)])] (ls.map PyData.int) = some (ls.map fun v => .int (if v = gI ls e.1 ∨ v = gI ls e.2 then minI (gI ls e.1) (gI ls e.2) else v)) := comp_mapI fun v _ => by
    have hin : inD (.int v) (.tuple [.int (gI ls e.1), .int (gI ls e.2)]) = some (.bool (decide (v = gI ls e.1 ∨ v = gI ls e.2))) := by
      have hd : inD (.int v) (.tuple [.int (gI ls e.1), .int (gI ls e.2)]) = some (.bool (decide (gI ls e.1 = v) || (decide (gI ls e.2 = v) || false))) := rfl
      rw [hd]
      congr 2
      apply bool_ext
      simp only [Bool.or_eq_true, decide_eq_true_eq, Bool.or_false]
      constructor
      · rintro (h | h)
        · exact .inl h.symm
        · exact .inr h.symm
      · rintro (h | h)
        · exact .inl h.symm
        · exact .inr h.symm
    by_cases hv : v = gI ls e.1 ∨ v = gI ls e.2
    · simp_arith [hin, hv, min1]
    · simp_arith [hin, hv]
  have hb : (ls.map fun v => PyData.int (if v = gI ls e.1 ∨ v = gI ls e.2 then minI (gI ls e.1) (gI ls e.2) else v)).length ≤ 100000 := by simp; omega
  refine (comp_of (ds := ls.map PyData.int) rfl rfl c hb).trans ?_
  simp [IL, joinI]
noncomputable def edgeOf : D → Option (Int × Int)
  | .tuple [w, .int a, .int b, _, _] => if pw w then some (a, b) else none
  | _ => none
noncomputable def edges (ts : List D) : List (Int × Int) := ts.filterMap edgeOf
theorem what_word {p n a : Int} {w b : D} (h : whatOk p n w a b = true) : (pw w = true ∨ qw w = true) ∧ ∃ i, b = .int i := by
  cases b with
  | int b =>
    refine ⟨?_, b, rfl⟩
    by_cases hw : pw w = true
    · exact .inl hw
    · simp [whatOk, hw] at h
      exact .inr h.2.1
  | _ => simp [whatOk] at h
theorem tell_form {p n l : Int} {t : D} (h : tellOk p n l t = true) : ∃ w a b f e, t = .tuple [w, .int a, .int b, .int f, .int e] ∧ 0 ≤ a ∧ a < n ∧ 0 ≤ f ∧ f ≤ e ∧ e ≤ l ∧ whatOk p n w a (.int b) = true := by
  obtain ⟨w, a, b, f, e, rfl, h1, h2, h3, h4, h5, h6⟩ := tellOk_iff.1 h
  obtain ⟨_, b, rfl⟩ := what_word h3
  exact ⟨w, a, b, f, e, rfl, h1, h2, h4, h5, h6, h3⟩
theorem edge_ok {p n l : Int} {ts : List D} (h : ts.all (tellOk p n l) = true) : ∀ e ∈ edges ts, 0 ≤ e.1 ∧ e.1 < n ∧ 0 ≤ e.2 ∧ e.2 < n ∧ e.1 ≠ e.2 := fun e he => by
  unfold edges at he
  obtain ⟨t, ht, ee⟩ := List.mem_filterMap.1 he
  obtain ⟨w, a, b, f, e', rfl, h1, h2, h4, h5, h6, h3⟩ := tell_form (List.all_eq_true.1 h t ht)
  simp only [edgeOf] at ee
  by_cases hw : pw w = true
  · rw [if_pos hw] at ee
    cases ee
    simp [whatOk, hw] at h3
    omega
  · rw [if_neg hw] at ee; cases ee
theorem edges_len (ts : List D) : (edges ts).length ≤ ts.length := List.length_filterMap_le _ _
noncomputable abbrev gB : Fn.Env → Option Fl := (sIf (eT (e2 inD (e2 ixD (bVar 2) (eC (.int 0))) (eC k_PERSON_WORDS))) (sSet 1 (eCall G_labels_joined (aCons (eVar 1) (aCons (e2 ixD (bVar 2) (eC (.int 1))) (aCons (e2 ixD (bVar 2) (eC (.int 2))) aNil))))) sNil)
theorem g_loop {p n l : Int} (c : D) : ∀ (ts : List D) (ls : List Int) (c2 : Cel), (ls.length : Int) = n → n ≤ 3 → ts.all (tellOk p n l) = true →
    ∃ d2, forF (gVar 2) gB ts [.val c, .val (IL ls), c2] = some (.nx [.val c, .val (IL ((edges ts).foldl joinI ls)), d2])
  | [], ls, c2, _, _, _ => ⟨c2, rfl⟩
  | t :: ts, ls, c2, hl, hn, h => by
    rw [List.all_cons, Bool.and_eq_true] at h
    obtain ⟨w, a, b, f, e, rfl, h1, h2, h4, h5, h6, h3⟩ := tell_form h.1
    by_cases hw : pw w = true
    · have hb : 0 ≤ b ∧ b < n := by simp [whatOk, hw] at h3; omega
      obtain ⟨d2, e'⟩ := g_loop c ts (joinI ls (a, b)) (.val (.tuple [w, .int a, .int b, .int f, .int e])) (by rw [joinI_len]; exact hl) hn h.2
      have ed : edges (.tuple [w, .int a, .int b, .int f, .int e] :: ts) = (a, b) :: edges ts := by simp [edges, edgeOf, hw]
      rw [ed]
      refine ⟨d2, (for_cons (ρ2 := [.val c, .val (IL (joinI ls (a, b))), .val (.tuple [w, .int a, .int b, .int f, .int e])]) rfl ((if_t (by simp_arith [ixD, atI_zero, in_pw, hw])).trans ((set_eq (d := IL (joinI ls (a, b))) ?_).trans rfl))).trans e'⟩
      have := G_join (ls := ls) (e := (a, b)) (by omega) h1 (by omega) hb.1 (by omega)
      simp only at this
      simp_arith [ixD, atI_one, atI_two, this]
    · obtain ⟨d2, e'⟩ := g_loop c ts ls (.val (.tuple [w, .int a, .int b, .int f, .int e])) hl hn h.2
      have ed : edges (.tuple [w, .int a, .int b, .int f, .int e] :: ts) = edges ts := by simp [edges, edgeOf, hw]
      rw [ed]
      exact ⟨d2, (for_cons rfl ((if_f (by simp_arith [ixD, atI_zero, in_pw, hw])).trans rfl)).trans e'⟩
noncomputable def grp (L : List Int) : List (List Int) := (sortZ L).map fun k => (rngI L.length).filter fun i => decide (gI L i = k)
noncomputable abbrev GD (gs : List (List Int)) : D := .list (gs.map IL)
theorem g_end {n : Nat} {L : List Int} (h : L ∈ labsN n) (c : D) (c2 : Cel) : (eComp (eAny (eSortSetI (bVar 1))) [none, some 1] (gVar 0) (fun _ => some true) (eCall G_persons_with (aCons (eVar 1) (aCons (eVar 0) aNil)))) [.val c, .val (IL L), c2] = some (GD (grp L)) := by
  unfold labsN at h
  split at h
  · simp only [List.mem_singleton] at h; subst h; rfl
  · simp only [List.mem_cons, List.not_mem_nil, or_false] at h
    rcases h with rfl | rfl <;> rfl
  · simp only [List.mem_cons, List.not_mem_nil, or_false] at h
    rcases h with rfl | rfl | rfl | rfl | rfl <;> rfl
  · cases h
theorem G_groups {p n l : Int} {W : D} {ts : List D} (hn1 : 1 ≤ n) (hn3 : n ≤ 3) (hlen : ts.length ≤ 5) (h : ts.all (tellOk p n l) = true) :
    G_groups_of [frOf p n l W (.tuple ts)] = some (GD (grp ((edges ts).foldl joinI (rngI n.toNat)))) ∧ N_groups_of [frOf p n l W (.tuple ts)] = some ((grp ((edges ts).foldl joinI (rngI n.toNat))).map IL) := by
  obtain ⟨d2, lp⟩ := g_loop (p := p) (l := l) (frOf p n l W (.tuple ts)) ts (rngI n.toNat) .emp (by simp [rngI]; omega) hn3 h
  have lab := (labs_ok hn1 hn3 (Nat.le_trans (edges_len ts) hlen) (edge_ok h)).1
  have e1 : (sSet 1 (eLRng (e2 ixD (bVar 0) (eC (.int 1))))) [.val (frOf p n l W (.tuple ts)), .emp, .emp] = some (.nx [.val (frOf p n l W (.tuple ts)), .val (IL (rngI n.toNat)), .emp]) := by
    refine (set_eq (d := IL (rngI n.toNat)) ?_).trans rfl
    have hc : (decide (0 ≤ n) && decide (n ≤ 1000)) = true := by simp; omega
    simp_arith [eLRng, ixD, atI_one, hc]
    rw [rng_map]; simp [rngI]
  have e3 := g_end lab (frOf p n l W (.tuple ts)) d2
  constructor
  · unfold G_groups_of b_groups_of
    exact run_of rfl ((seq_n e1).trans ((seq_n ((for_of (ds := ts) rfl).trans lp)).trans (ret_r e3)))
  · unfold N_groups_of bn_groups_of Fn.runN
    rw [if_pos (by rfl)]
    have e3' : (nComp (eAny (eSortSetI (bVar 1))) [none, some 1] (gVar 0) (fun _ => some true) (eCall G_persons_with (aCons (eVar 1) (aCons (eVar 0) aNil)))) [.val (frOf p n l W (.tuple ts)), .val (IL ((edges ts).foldl joinI (rngI n.toNat))), d2] = some ((grp ((edges ts).foldl joinI (rngI n.toNat))).map IL) := by
      unfold eComp at e3
      cases q : (nComp (eAny (eSortSetI (bVar 1))) [none, some 1] (gVar 0) (fun _ => some true) (eCall G_persons_with (aCons (eVar 1) (aCons (eVar 0) aNil)))) [.val (frOf p n l W (.tuple ts)), .val (IL ((edges ts).foldl joinI (rngI n.toNat))), d2] with
      | none => rw [q] at e3; cases e3
      | some ys => rw [q] at e3; cases e3; rfl
    show nSeq _ (nSeq _ _) [.val (frOf p n l W (.tuple ts)), .emp, .emp] = _
    unfold nSeq
    rw [e1]
    simp only
    rw [(for_of (ds := ts) rfl).trans lp]
    exact e3'
noncomputable abbrev nB : Fn.Env → Option Fl := (sIf (eT (e2 inD (bVar 4) (eTup (aCons (eC (.str "met")) (aCons (eC (.str "apart")) aNil))))) (sSeq (sSet 9 (eCall min1 (aCons (e2 ixD (bVar 2) (bVar 5)) (aCons (e2 ixD (bVar 2) (bVar 6)) aNil)))) (sSeq (sItem 2 (eVar 5) (eVar 9)) (sItem 2 (eVar 6) (eVar 9)))) sNil)
noncomputable abbrev nE (c0 c : D) (ls : List Int) (c3 c4 c5 c6 c7 c8 c9 : Cel) (r : List Cel) : Fn.Env := .val c0 :: .val c :: .own (ls.map PyData.int) :: c3 :: c4 :: c5 :: c6 :: c7 :: c8 :: c9 :: r
theorem item_n {c0 c : D} {ls : List Int} {c3 c4 c5 c6 c7 c8 c9 : Cel} {r : List Cel} {fi f : Fn.Env → Option D} {k m : Int} (hk : 0 ≤ k) (hl : k < ls.length)
    (h1 : f (nE c0 c ls c3 c4 c5 c6 c7 c8 c9 r) = some (.int m)) (h2 : fi (nE c0 c ls c3 c4 c5 c6 c7 c8 c9 r) = some (.int k)) : sItem 2 fi f (nE c0 c ls c3 c4 c5 c6 c7 c8 c9 r) = some (.nx (nE c0 c (ls.set k.toNat m) c3 c4 c5 c6 c7 c8 c9 r)) := by
  unfold sItem
  rw [h1, h2]
  have : ixN (ls.map PyData.int).length k = some k.toNat := by
    unfold ixN
    rw [if_pos (by omega), if_pos (by simp; omega)]
  show (match ixN (ls.map PyData.int).length k with | some j => some (Fl.nx ((nE c0 c ls c3 c4 c5 c6 c7 c8 c9 r).set 2 (.own ((ls.map PyData.int).set j (.int m))))) | none => none) = _
  rw [this]
  simp [nE, List.map_set]
theorem n_step {p n l : Int} {ls : List Int} (hl : (ls.length : Int) = n) {w : D} {a b f e : Int} (h1 : 0 ≤ a) (h2 : a < n) (hb : pw w = true → 0 ≤ b ∧ b < n) (c0 c : D) (c3 c9 : Cel) (r : List Cel) :
    ∃ d9, nB (nE c0 c ls c3 (.val w) (.val (.int a)) (.val (.int b)) (.val (.int f)) (.val (.int e)) c9 r) = some (.nx (nE c0 c (if pw w then setI ls (a, b) else ls) c3 (.val w) (.val (.int a)) (.val (.int b)) (.val (.int f)) (.val (.int e)) d9 r)) := by
  by_cases hw : pw w = true
  · obtain ⟨hb0, hbn⟩ := hb hw
    refine ⟨.val (.int (minI (gI ls a) (gI ls b))), ?_⟩
    unfold nB
    refine (if_t (by simp_arith [in_pw2, hw])).trans ?_
    have g1 := gI_at (ls := ls) h1 (by omega)
    have g2 := gI_at (ls := ls) hb0 (by omega)
    refine (set_n (d := .int (minI (gI ls a) (gI ls b))) (by simp_arith [ixD, g1, g2, min1])).trans ?_
    refine (seq_n (item_n (c9 := .val (.int (minI (gI ls a) (gI ls b)))) h1 (by omega) rfl rfl)).trans ?_
    refine (item_n (c9 := .val (.int (minI (gI ls a) (gI ls b)))) (ls := ls.set a.toNat (minI (gI ls a) (gI ls b))) hb0 (by simp; omega) rfl rfl).trans ?_
    rw [if_pos hw]; rfl
  · refine ⟨c9, (if_f (by simp_arith [in_pw2, hw])).trans ?_⟩
    rw [if_neg hw]; rfl
theorem n_loop {p n l : Int} (c0 c : D) (c3 : Cel) (r : List Cel) : ∀ (ts : List D) (ls : List Int) (c4 c5 c6 c7 c8 c9 : Cel), (ls.length : Int) = n → ts.all (tellOk p n l) = true →
    ∃ d4 d5 d6 d7 d8 d9, forF (gTupF [4, 5, 6, 7, 8]) nB ts (nE c0 c ls c3 c4 c5 c6 c7 c8 c9 r) = some (.nx (nE c0 c ((edges ts).foldl setI ls) c3 d4 d5 d6 d7 d8 d9 r))
  | [], ls, c4, c5, c6, c7, c8, c9, _, _ => ⟨c4, c5, c6, c7, c8, c9, rfl⟩
  | t :: ts, ls, c4, c5, c6, c7, c8, c9, hl, h => by
    rw [List.all_cons, Bool.and_eq_true] at h
    obtain ⟨w, a, b, f, e, rfl, h1, h2, h4, h5, h6, h3⟩ := tell_form h.1
    have hb : pw w = true → 0 ≤ b ∧ b < n := fun hw => by simp [whatOk, hw] at h3; omega
    obtain ⟨d9, es⟩ := n_step (p := p) (l := l) (f := f) (e := e) hl h1 h2 hb c0 c c3 c9 r
    have ll : ((if pw w then setI ls (a, b) else ls).length : Int) = n := by split <;> simp [setI_len, hl]
    obtain ⟨f4, f5, f6, f7, f8, f9, e'⟩ := n_loop c0 c c3 r ts (if pw w then setI ls (a, b) else ls) (.val w) (.val (.int a)) (.val (.int b)) (.val (.int f)) (.val (.int e)) d9 ll h.2
    have ed : (edges (.tuple [w, .int a, .int b, .int f, .int e] :: ts)).foldl setI ls = (edges ts).foldl setI (if pw w then setI ls (a, b) else ls) := by
      by_cases hw : pw w = true
      · simp [edges, edgeOf, hw]
      · simp [edges, edgeOf, hw]
    rw [ed]
    exact ⟨f4, f5, f6, f7, f8, f9, (for_cons rfl es).trans e'⟩
noncomputable abbrev n3 : Fn.Env → Option Fl := (sFor (eAny (e2 ixD (bVar 1) (eC (.int 3)))) (gTupF [4, 5, 6, 7, 8]) nB)
theorem n_turns {p n l : Int} {W : D} {ts : List D} (h : ts.all (tellOk p n l) = true) (c0 : D) (r : List Cel) : ∀ (ks : List D) (ls : List Int) (c3 c4 c5 c6 c7 c8 c9 : Cel), (ls.length : Int) = n →
    ∃ d3 d4 d5 d6 d7 d8 d9, forF (gVar 3) n3 ks (nE c0 (frOf p n l W (.tuple ts)) ls c3 c4 c5 c6 c7 c8 c9 r) = some (.nx (nE c0 (frOf p n l W (.tuple ts)) (ks.foldl (fun l _ => (edges ts).foldl setI l) ls) d3 d4 d5 d6 d7 d8 d9 r))
  | [], ls, c3, c4, c5, c6, c7, c8, c9, _ => ⟨c3, c4, c5, c6, c7, c8, c9, rfl⟩
  | k :: ks, ls, c3, c4, c5, c6, c7, c8, c9, hl => by
    obtain ⟨d4, d5, d6, d7, d8, d9, e⟩ := n_loop (p := p) (n := n) (l := l) c0 (frOf p n l W (.tuple ts)) (.val k) r ts ls c4 c5 c6 c7 c8 c9 hl h
    have fl : ∀ (es : List (Int × Int)) (ls : List Int), (es.foldl setI ls).length = ls.length := fun es => by
      induction es with
      | nil => intro ls; rfl
      | cons x es ih => intro ls; rw [List.foldl_cons, ih, setI_len]
    obtain ⟨f3, f4, f5, f6, f7, f8, f9, e'⟩ := n_turns h c0 r ks ((edges ts).foldl setI ls) (.val k) d4 d5 d6 d7 d8 d9 (by rw [fl]; exact hl)
    exact ⟨f3, f4, f5, f6, f7, f8, f9, (for_cons rfl ((for_of (ds := ts) rfl).trans e)).trans e'⟩
theorem n_end {n : Nat} {L : List Int} (h : L ∈ labsN n) (c0 p l W S : D) (r : List Cel) : (eComp (eAny (eSortSetI (bVar 2))) [none, some 1, some 2] (gVar 0) (fun _ => some true) (eComp (eRng1 (e2 ixD (bVar 1) (eC (.int 1)))) [none, some 0, some 2] (gVar 0) (eT (e2 eqD (e2 ixD (bVar 2) (bVar 0)) (bVar 1))) (eVar 0))) (.val c0 :: .val (.tuple [.tuple [p, W], .int n, l, S]) :: .val (IL L) :: r) = some (GD (grp L)) := by
  unfold labsN at h
  split at h
  · simp only [List.mem_singleton] at h; subst h; rfl
  · simp only [List.mem_cons, List.not_mem_nil, or_false] at h
    rcases h with rfl | rfl <;> rfl
  · simp only [List.mem_cons, List.not_mem_nil, or_false] at h
    rcases h with rfl | rfl | rfl | rfl | rfl <;> rfl
  · cases h
noncomputable def five5 : List Str := ["there", "seen", "never", "met", "apart"]
theorem eqv_str {x : Str} {w : D} (h : PyData.eqv (.str x) w = true) : w = .str x := by
  cases w with
  | str y => simp [PyData.eqv] at h; rw [h]
  | _ => simp [PyData.eqv] at h
theorem word_str {w : D} (h : pw w = true ∨ qw w = true) : ∃ x ∈ five5, w = .str x := by
  rcases h with h | h
  · simp only [pw, List.any_cons, List.any_nil, Bool.or_false, Bool.or_eq_true] at h
    rcases h with h | h
    · exact ⟨_, by simp [five5], eqv_str h⟩
    · exact ⟨_, by simp [five5], eqv_str h⟩
  · simp only [qw, List.any_cons, List.any_nil, Bool.or_false, Bool.or_eq_true] at h
    rcases h with h | h | h
    · exact ⟨_, by simp [five5], eqv_str h⟩
    · exact ⟨_, by simp [five5], eqv_str h⟩
    · exact ⟨_, by simp [five5], eqv_str h⟩
theorem eqvAll_self : ∀ {xs : List D}, (∀ x ∈ xs, PyData.eqv x x = true) → PyData.eqvAll xs xs = true
  | [], _ => rfl
  | x :: xs, h => by
    show (PyData.eqv x x && PyData.eqvAll xs xs) = true
    rw [h x List.mem_cons_self, eqvAll_self fun y hy => h y (List.mem_cons_of_mem _ hy)]; rfl
theorem depthAll_le {k : Nat} : ∀ {xs : List D}, (∀ x ∈ xs, x.depth ≤ k) → PyData.depthAll xs ≤ k
  | [], _ => Nat.zero_le _
  | x :: xs, h => by
    show max x.depth (PyData.depthAll xs) ≤ k
    exact Nat.max_le.2 ⟨h x List.mem_cons_self, depthAll_le fun y hy => h y (List.mem_cons_of_mem _ hy)⟩
noncomputable def Sf (k : Nat) (x : D) : Prop := PyData.eqv x x = true ∧ x.depth ≤ k
theorem sf_int (k : Nat) (i : Int) : Sf k (.int i) := ⟨by show decide (i = i) = true; simp, Nat.zero_le _⟩
theorem sf_tup {k : Nat} {xs : List D} (h : ∀ x ∈ xs, Sf k x) : Sf (k + 1) (.tuple xs) := ⟨eqvAll_self fun x hx => (h x hx).1, Nat.succ_le_succ (depthAll_le fun x hx => (h x hx).2)⟩
theorem sf_lst {k : Nat} {xs : List D} (h : ∀ x ∈ xs, Sf k x) : Sf (k + 1) (.list xs) := ⟨eqvAll_self fun x hx => (h x hx).1, Nat.succ_le_succ (depthAll_le fun x hx => (h x hx).2)⟩
theorem sf_ne {x : D} (h : Sf 50 x) : neD x x = some (.bool false) := by
  unfold neD
  rw [if_pos (Nat.le_trans (Nat.min_le_left _ _) (Nat.le_trans h.2 (by decide))), h.1]; rfl
theorem sf_eq {x : D} (h : Sf 50 x) : eqD x x = some (.bool true) := by
  unfold eqD
  rw [if_pos (Nat.le_trans (Nat.min_le_left _ _) (Nat.le_trans h.2 (by decide))), h.1]
theorem sf_tell {k : Nat} {w : D} (hw : pw w = true ∨ qw w = true) (a b f e : Int) : Sf (k + 1) (.tuple [w, .int a, .int b, .int f, .int e]) := by
  obtain ⟨x, _, rfl⟩ := word_str hw
  refine sf_tup fun y hy => ?_
  simp only [List.mem_cons, List.not_mem_nil, or_false] at hy
  rcases hy with rfl | rfl | rfl | rfl | rfl
  · exact ⟨by show decide (x = x) = true; simp, Nat.zero_le _⟩
  · exact sf_int _ _
  · exact sf_int _ _
  · exact sf_int _ _
  · exact sf_int _ _
theorem sf_town {p : Int} {ws : List D} (h : ws.all (wayOk p) = true) : Sf 3 (.tuple [.int p, .tuple ws]) := by
  refine sf_tup fun y hy => ?_
  simp only [List.mem_cons, List.not_mem_nil, or_false] at hy
  rcases hy with rfl | rfl
  · exact sf_int _ _
  · refine sf_tup fun z hz => ?_
    obtain ⟨i, j, t, rfl, _⟩ := wayOk_iff.1 (List.all_eq_true.1 h z hz)
    refine sf_tup fun u hu => ?_
    simp only [List.mem_cons, List.not_mem_nil, or_false] at hu
    rcases hu with rfl | rfl | rfl <;> exact sf_int _ _
noncomputable def memI (g : List Int) (a : Int) : Bool := g.any fun y => decide (y = a)
noncomputable def ixI (g : List Int) (a : Int) : Int := ((g.findIdx? fun y => decide (y = a)).getD 0 : Nat)
theorem in_g (g : List Int) (a : Int) : inD (.int a) (IL g) = some (.bool (memI g a)) := by
  unfold inD
  simp only
  have hd : min (PyData.depthAll (g.map PyData.int)) (PyData.int a).depth ≤ deep := Nat.le_trans (Nat.min_le_right _ _) (show (0 : Nat) ≤ 100 by decide)
  rw [if_pos hd]
  congr 2
  rw [List.any_map]
  rfl
theorem ix_g {g : List Int} {a : Int} (h : memI g a = true) : indexD (IL g) (.int a) = some (.int (ixI g a)) ∧ 0 ≤ ixI g a ∧ ixI g a < g.length := by
  have e1 : (g.map PyData.int).findIdx? (fun d => dI d == some a) = g.findIdx? fun y => decide (y = a) := by
    rw [List.findIdx?_map]
    have : (fun d => dI d == some a) ∘ PyData.int = fun y => decide (y = a) := by
      funext y
      show (some y == some a) = decide (y = a)
      by_cases q : y = a
      · subst q; simp
      · simp [q]
    rw [this]
  have e2 : (g.map PyData.int).all (fun d => (dI d).isSome) = true := by
    rw [List.all_map, List.all_eq_true]
    intro y _; rfl
  cases q : g.findIdx? fun y => decide (y = a) with
  | none =>
    exfalso
    obtain ⟨y, hy, hh⟩ := List.any_eq_true.1 h
    have := List.findIdx?_eq_none_iff.1 q y hy
    rw [hh] at this; cases this
  | some j =>
    have hj : j < g.length := (List.findIdx?_eq_some_iff_findIdx_eq.1 q).1
    refine ⟨?_, by simp [ixI, q], by simp [ixI, q]; omega⟩
    show (if (g.map PyData.int).all (fun d => (dI d).isSome) = true then (match (g.map PyData.int).findIdx? (fun d => dI d == some a) with | some j => some (PyData.int (j : Int)) | none => none) else none) = _
    rw [if_pos e2, e1, q]
    simp [ixI, q]
noncomputable def ren (g : List Int) : D → D
  | .tuple [w, .int a, .int b, f, e] => .tuple [w, .int (ixI g a), .int (if pw w then ixI g b else b), f, e]
  | d => d
noncomputable def inG (g : List Int) : D → Bool
  | .tuple [_, .int a, _, _, _] => memI g a
  | _ => false
theorem G_ren {g : List Int} {w : D} {a b f e : Int} (h : memI g a = true) (hb : pw w = true → memI g b = true) : G_renumbered [.tuple [w, .int a, .int b, .int f, .int e], IL g] = some (ren g (.tuple [w, .int a, .int b, .int f, .int e])) := by
  have i1 := (ix_g h).1
  unfold G_renumbered b_renumbered
  refine run_of rfl ?_
  by_cases hw : pw w = true
  · have i2 := (ix_g (hb hw)).1
    refine (set_n (d := .int (ixI g b)) (by simp_arith [ixD, atI_zero, atI_two, in_pw, hw, i2])).trans (ret_r ?_)
    simp_arith [ixD, atI_zero, atI_one, atI_three, atI_four, i1, ren, hw]
  · refine (set_n (d := .int b) (by simp_arith [ixD, atI_zero, atI_two, in_pw, hw])).trans (ret_r ?_)
    simp_arith [ixD, atI_zero, atI_one, atI_three, atI_four, i1, ren, hw]
theorem comp_fm {t : Fn.Env → Option Bool} {fe : Fn.Env → Option D} {ρ : Fn.Env} {q : D → Bool} {h : D → D} : ∀ {ds : List D}, (∀ d ∈ ds, t (ρ.set 0 (.val d)) = some (q d)) → (∀ d ∈ ds, q d = true → fe (ρ.set 0 (.val d)) = some (h d)) → compF (gVar 0) t fe ρ ds = some ((ds.filter q).map h)
  | [], _, _ => rfl
  | d :: ds, H1, H2 => by
    have i := comp_fm (ds := ds) (fun x hx => H1 x (List.mem_cons_of_mem _ hx)) (fun x hx => H2 x (List.mem_cons_of_mem _ hx))
    have e1 := H1 d List.mem_cons_self
    unfold compF
    simp only [gVar]
    rw [e1]
    cases hq : q d with
    | false => simp only [hq, List.filter_cons_of_neg, Bool.false_eq_true, not_false_eq_true]; rw [i]
    | true =>
      simp only
      rw [H2 d List.mem_cons_self hq, i, List.filter_cons_of_pos hq]; rfl
structure GOk (ts : List D) (g : List Int) : Prop where
  len1 : 1 ≤ g.length
  len : g.length ≤ 3
  cl : ∀ e ∈ edges ts, memI g e.1 = memI g e.2
theorem G_part {p n l : Int} {W : D} {ts : List D} {g : List Int} (h : ts.all (tellOk p n l) = true) (hlen : ts.length ≤ 5) (hg : GOk ts g) :
    G_part_of [frOf p n l W (.tuple ts), IL g] = some (frOf p g.length l W (.tuple ((ts.filter (inG g)).map (ren g)))) := by
  have c : compF (gVar 0) (eT (e2 inD (e2 ixD (bVar 0) (eC (.int 1))) (bVar 1))) (eCall G_renumbered (aCons (eVar 0) (aCons (eVar 1) aNil))) [Cel.emp, .val (IL g)] ts = some ((ts.filter (inG g)).map (ren g)) := comp_fm (fun d hd => by
    obtain ⟨w, a, b, f, e, rfl, h1, h2, h4, h5, h6, h3⟩ := tell_form (List.all_eq_true.1 h d hd)
    simp_arith [ixD, atI_one, in_g, inG]) (fun d hd hq => by
    obtain ⟨w, a, b, f, e, rfl, h1, h2, h4, h5, h6, h3⟩ := tell_form (List.all_eq_true.1 h d hd)
    have hb : pw w = true → memI g b = true := fun hw => by
      have := hg.cl (a, b) (List.mem_filterMap.2 ⟨_, hd, by simp [edgeOf, hw]⟩)
      rw [← this]; exact hq
    simp_arith [G_ren (f := f) (e := e) (show memI g a = true from hq) hb])
  have hb : ((ts.filter (inG g)).map (ren g)).length ≤ 100000 := by
    have := List.length_filter_le (inG g) ts
    simp; omega
  unfold G_part_of b_part_of
  refine run_of rfl ?_
  refine (set_n (d := .list ((ts.filter (inG g)).map (ren g))) (comp_of (ds := ts) rfl rfl c hb)).trans (ret_r ?_)
  simp_arith [ixD, atI_zero, atI_two, len1, tuple1]
theorem caseB_is {p n l : Int} {ws ts : List D} (hn : 1 ≤ n) (hn3 : n ≤ 3) (hl : 0 ≤ l) (hl9 : l ≤ 9) (htv : townV (.tuple [.int p, .tuple ws]) = some (.bool true)) : caseB (frOf p n l (.tuple ws) (.tuple ts)) = (decide (ts.length ≤ 6) && ts.all (tellOk p n l)) := by
  have h1 : townB (.tuple [.int p, .tuple ws]) = true := by unfold townB; rw [htv]
  have h2 : within (.int n) 1 3 = true := within_iff.2 ⟨n, rfl, hn, hn3⟩
  have h3 : within (.int l) 0 9 = true := within_iff.2 ⟨l, rfl, hl, hl9⟩
  show (townB (.tuple [.int p, .tuple ws]) && (within (.int n) 1 3 && (within (.int l) 0 9 && tellsB (.tuple [.int p, .tuple ws]) (.int n) (.int l) (.tuple ts)))) = _
  rw [h1, h2, h3]
  rfl
theorem ix_at {g : List Int} {a : Int} (h : memI g a = true) : g[(ixI g a).toNat]? = some a := by
  cases q : g.findIdx? fun y => decide (y = a) with
  | none =>
    exfalso
    obtain ⟨y, hy, hh⟩ := List.any_eq_true.1 h
    have := List.findIdx?_eq_none_iff.1 q y hy
    rw [hh] at this; cases this
  | some j =>
    have hj : j < g.length := (List.findIdx?_eq_some_iff_findIdx_eq.1 q).1
    have hv := List.findIdx?_eq_some_iff_getElem.1 q
    obtain ⟨hlt, hp, _⟩ := hv
    have : (ixI g a).toNat = j := by simp [ixI, q]
    rw [this, List.getElem?_eq_getElem hlt]
    simpa using hp
theorem ix_inj {g : List Int} {a b : Int} (ha : memI g a = true) (hb : memI g b = true) (h : ixI g a = ixI g b) : a = b := by
  have h1 := ix_at ha
  have h2 := ix_at hb
  rw [h, h2] at h1
  exact (Option.some.inj h1).symm
theorem ren_ok {p n l : Int} {ts : List D} {g : List Int} (hg : GOk ts g) {t : D} (ht : t ∈ ts) (h : tellOk p n l t = true) (hq : inG g t = true) : tellOk p g.length l (ren g t) = true ∧ Sf 40 (ren g t) := by
  obtain ⟨w, a, b, f, e, rfl, h1, h2, h4, h5, h6, h3⟩ := tell_form h
  have ha : memI g a = true := hq
  obtain ⟨_, i1, i2⟩ := ix_g ha
  have hw' := (what_word h3).1
  refine ⟨tellOk_iff.2 ⟨w, ixI g a, .int (if pw w then ixI g b else b), f, e, rfl, i1, i2, ?_, h4, h5, h6⟩, sf_tell hw' _ _ _ _⟩
  by_cases hw : pw w = true
  · have hb : memI g b = true := by
      have := hg.cl (a, b) (List.mem_filterMap.2 ⟨_, ht, by simp [edgeOf, hw]⟩)
      rw [← this]; exact ha
    obtain ⟨_, j1, j2⟩ := ix_g hb
    have hab : a ≠ b := by simp [whatOk, hw] at h3; omega
    have hix : ixI g b ≠ ixI g a := fun q => hab (ix_inj hb ha q).symm
    simp [whatOk, hw]
    omega
  · simp [whatOk, hw] at h3 ⊢
    exact h3
noncomputable abbrev lB : Fn.Env → Option Fl := (sIf (eT (e2 inD (bVar 5) (bVar 11))) (sSeq (sSet 13 (eIf (eT (e2 inD (bVar 4) (eTup (aCons (eC (.str "met")) (aCons (eC (.str "apart")) aNil))))) (e2 indexD (bVar 11) (eVar 6)) (eVar 6))) (sApp 12 (eTup (aCons (eVar 4) (aCons (e2 indexD (bVar 11) (eVar 5)) (aCons (eVar 13) (aCons (eVar 7) (aCons (eVar 8) aNil)))))))) sNil)
noncomputable abbrev lE (c0 c nm : D) (c3 c4 c5 c6 c7 c8 c9 : Cel) (gs g : D) (acc : List D) (c13 c14 c15 c16 : Cel) : Fn.Env := [.val c0, .val c, .val nm, c3, c4, c5, c6, c7, c8, c9, .val gs, .val g, .own acc, c13, c14, c15, c16]
theorem l_loop {p n l : Int} {g : List Int} (c0 c nm : D) (c3 c9 : Cel) (gs : D) (c14 c15 c16 : Cel) (all : List D) (hg : GOk all g) : ∀ (ts : List D) (acc : List D) (c4 c5 c6 c7 c8 c13 : Cel), (∀ t ∈ ts, t ∈ all) → ts.all (tellOk p n l) = true → acc.length + ts.length ≤ 1000 →
    ∃ d4 d5 d6 d7 d8 d13, forF (gTupF [4, 5, 6, 7, 8]) lB ts (lE c0 c nm c3 c4 c5 c6 c7 c8 c9 gs (IL g) acc c13 c14 c15 c16) = some (.nx (lE c0 c nm c3 d4 d5 d6 d7 d8 c9 gs (IL g) (acc ++ (ts.filter (inG g)).map (ren g)) d13 c14 c15 c16))
  | [], acc, c4, c5, c6, c7, c8, c13, _, _, _ => ⟨c4, c5, c6, c7, c8, c13, by simp [forF]⟩
  | t :: ts, acc, c4, c5, c6, c7, c8, c13, hm, h, hb => by
    rw [List.all_cons, Bool.and_eq_true] at h
    simp only [List.length_cons] at hb
    have ht := hm t List.mem_cons_self
    obtain ⟨w, a, b, f, e, rfl, h1, h2, h4, h5, h6, h3⟩ := tell_form h.1
    by_cases ha : memI g a = true
    · have i1 := (ix_g ha).1
      obtain ⟨f4, f5, f6, f7, f8, f13, e'⟩ := l_loop c0 c nm c3 c9 gs c14 c15 c16 all hg ts (acc ++ [ren g (.tuple [w, .int a, .int b, .int f, .int e])]) (.val w) (.val (.int a)) (.val (.int b)) (.val (.int f)) (.val (.int e)) (.val (.int (if pw w then ixI g b else b))) (fun t ht => hm t (List.mem_cons_of_mem _ ht)) h.2 (by simp; omega)
      have hs : acc.length < 100000 := by omega
      refine ⟨f4, f5, f6, f7, f8, f13, (for_cons (ρ2 := lE c0 c nm c3 (.val w) (.val (.int a)) (.val (.int b)) (.val (.int f)) (.val (.int e)) c9 gs (IL g) (acc ++ [ren g (.tuple [w, .int a, .int b, .int f, .int e])]) (.val (.int (if pw w then ixI g b else b))) c14 c15 c16) rfl ?_).trans (e'.trans ?_)⟩
      · unfold lB
        refine (if_t (by simp_arith [in_g, ha])).trans ?_
        refine (set_n (d := .int (if pw w then ixI g b else b)) ?_).trans ?_
        · by_cases hw : pw w = true
          · have hb' : memI g b = true := by
              have := hg.cl (a, b) (List.mem_filterMap.2 ⟨_, ht, by simp [edgeOf, hw]⟩)
              rw [← this]; exact ha
            simp_arith [in_pw2, hw, (ix_g hb').1]
          · simp_arith [in_pw2, hw]
        · simp_arith [i1, hs, ren]
      · have : inG g (.tuple [w, .int a, .int b, .int f, .int e]) = true := ha
        rw [List.filter_cons_of_pos this]
        simp
    · obtain ⟨f4, f5, f6, f7, f8, f13, e'⟩ := l_loop c0 c nm c3 c9 gs c14 c15 c16 all hg ts acc (.val w) (.val (.int a)) (.val (.int b)) (.val (.int f)) (.val (.int e)) c13 (fun t ht => hm t (List.mem_cons_of_mem _ ht)) h.2 (by omega)
      refine ⟨f4, f5, f6, f7, f8, f13, (for_cons rfl ((if_f (by simp_arith [in_g, ha])).trans rfl)).trans (e'.trans ?_)⟩
      have : ¬ inG g (.tuple [w, .int a, .int b, .int f, .int e]) = true := ha
      rw [List.filter_cons_of_neg this]
theorem try_n {b : Fn.Env → Option Fl} {x : Fn.Env → Option Str} {r : Str → Option D} {ρ : Fn.Env} {fl : Fl} (h : b ρ = some fl) : sTry b x r ρ = some fl := by unfold sTry; rw [h]
theorem try_x {b : Fn.Env → Option Fl} {x : Fn.Env → Option Str} {r : Str → Option D} {ρ : Fn.Env} {c : Str} {d : D} (h : b ρ = none) (hx : x ρ = some c) (hr : r c = some d) : sTry b x r ρ = some (.rt d) := by
  unfold sTry; rw [h]; simp only [hx, hr]
theorem runx_of {n N : Nat} {y : Fn.Env → Option Str} {ds : List D} (h : ds.length = n) : runX n N y ds = y (ds.map Cel.val ++ List.replicate (N - n) Cel.emp) := by unfold runX; rw [if_pos h]
theorem demc_x {c : D} (h : G_is_case [c] = some (.bool false)) : G_demand_case [c] = none ∧ X_demand_case [c] = some ("NoCase" : Str) := by
  constructor
  · unfold G_demand_case b_demand_case
    simp_arith [sIf, h]
  · unfold X_demand_case y_demand_case
    rw [runx_of (by rfl)]
    simp_arith [xIf, h, xRz]
theorem demc_n {c : D} (h : G_is_case [c] = some (.bool true)) : G_demand_case [c] = some .none := by
  unfold G_demand_case b_demand_case
  simp_arith [sIf, h]
theorem tied_of {c d : D} (h : G_is_case [c] = some (.bool true)) (hx : G_groups_of [c] = some d) : G_tied [c] = some d := by
  unfold G_tied b_tied
  refine run_of rfl ((seq_n (ρ' := [.val c]) (by simp_arith [sExpr, demc_n h])).trans (ret_r ?_))
  simp_arith [hx]
theorem tiedN_of {c : D} {ys : List D} (h : G_is_case [c] = some (.bool true)) (hx : N_groups_of [c] = some ys) : N_tied [c] = some ys := by
  unfold N_tied bn_tied Fn.runN
  rw [if_pos (by rfl)]
  have e1 : (sExpr (eCall G_demand_case (aCons (eVar 0) aNil))) [.val c] = some (.nx [.val c]) := by simp_arith [sExpr, demc_n h]
  show nSeq _ _ [.val c] = _
  unfold nSeq
  rw [e1]
  simp_arith [nCall, hx]
theorem told0 {c x d : D} (h : G_is_case [c] = some (.bool true)) (hx : G_groups_of [c] = some d) : G__law_told [.int 0, c, x] = some d := by
  have g := tied_of h hx
  unfold G__law_told b__law_told
  refine run_of rfl (try_n (ret_r ?_))
  simp_arith [eqD_int, g]
theorem told1 {c x d : D} (h : G_is_case [c] = some (.bool true)) (hx : G_part_of [c, x] = some d) : G__law_told [.int 1, c, x] = some d := by
  have g : G_alone [c, x] = some d := by
    unfold G_alone b_alone
    refine run_of rfl ((seq_n (ρ' := [.val c, .val x]) (by simp_arith [sExpr, demc_n h])).trans (ret_r ?_))
    simp_arith [hx]
  unfold G__law_told b__law_told
  refine run_of rfl (try_n (ret_r ?_))
  simp_arith [eqD_int, g]
theorem badcase {c x : D} (h : G_is_case [c] = some (.bool false)) {k : Int} (hk : k = 0 ∨ k = 1) : G__law_told [.int k, c, x] = some (.tuple [.str "refused", .int 0]) := by
  obtain ⟨d1, d2⟩ := demc_x h
  have g : G_tied [c] = none := by
    unfold G_tied b_tied
    simp_arith [sSeq, sExpr, d1]
  have gx : X_tied [c] = some ("NoCase" : Str) := by
    unfold X_tied y_tied
    rw [runx_of (by rfl)]
    simp_arith [xCall, d2]
  have g2 : G_alone [c, x] = none := by
    unfold G_alone b_alone
    simp_arith [sSeq, sExpr, d1]
  have g2x : X_alone [c, x] = some ("NoCase" : Str) := by
    unfold X_alone y_alone
    rw [runx_of (by rfl)]
    simp_arith [xCall, d2]
  unfold G__law_told b__law_told
  rcases hk with rfl | rfl
  · refine run_of rfl (try_x (c := "NoCase") ?_ ?_ rfl)
    · simp_arith [eqD_int, g]
    · simp_arith [xIf, eqD_int, xCall, gx]
  · refine run_of rfl (try_x (c := "NoCase") ?_ ?_ rfl)
    · simp_arith [eqD_int, g2]
    · simp_arith [xIf, eqD_int, xCall, g2x]
structure Cx52 (p n l : Int) (ws ts : List D) : Prop where
  hl : 0 ≤ l
  hl3 : l ≤ 3
  hn1 : 1 ≤ n
  hn : n ≤ 3
  hw : ws.all (wayOk p) = true
  htv : townV (.tuple [.int p, .tuple ws]) = some (.bool true)
  df : DefT (.tuple [.int p, .tuple ws])
  gc : G_is_case [frOf p n l (.tuple ws) (.tuple ts)] = some (.bool true)
  len : ts.length ≤ 5
  ok : ts.all (tellOk p n l) = true
noncomputable abbrev bB : Fn.Env → Option Fl := (sSeq (sSetN 12 (nLst aNil)) (sSeq (sFor (eAny (e2 ixD (bVar 1) (eC (.int 3)))) (gTupF [4, 5, 6, 7, 8]) lB) (sSeq (sSet 14 (eTup (aCons (e2 ixD (bVar 1) (eC (.int 0))) (aCons (eCall len1 (aCons (bVar 11) aNil)) (aCons (e2 ixD (bVar 1) (eC (.int 2))) (aCons (eCall tuple1 (aCons (bVar 12) aNil)) aNil)))))) (sIf (tOrF (eT (e2 neD (eCall G__law_told (aCons (eC (.int 1)) (aCons (eVar 1) (aCons (eVar 11) aNil)))) (bVar 14))) (tNotF (eT (eCall G_is_case (aCons (eVar 14) aNil))))) (sRet (eC (.bool false))) sNil))))
noncomputable abbrev bE (c0 c nm : D) (c3 c4 c5 c6 c7 c8 c9 : Cel) (gs : D) (c11 c12 c13 c14 c15 c16 : Cel) : Fn.Env := [.val c0, .val c, .val nm, c3, c4, c5, c6, c7, c8, c9, .val gs, c11, c12, c13, c14, c15, c16]
section
variable {p n l : Int} {ws ts : List D}
theorem b_step (C : Cx52 p n l ws ts) {g : List Int} (hg : GOk ts g) (c0 nm gs : D) (c3 c4 c5 c6 c7 c8 c9 c12 c13 c14 c15 c16 : Cel) :
    ∃ d4 d5 d6 d7 d8 d12 d13 d14, bB (bE c0 (frOf p n l (.tuple ws) (.tuple ts)) nm c3 c4 c5 c6 c7 c8 c9 gs (.val (IL g)) c12 c13 c14 c15 c16) = some (.nx (bE c0 (frOf p n l (.tuple ws) (.tuple ts)) nm c3 d4 d5 d6 d7 d8 c9 gs (.val (IL g)) d12 d13 d14 c15 c16)) := by
  have C1 := C.hl; have C2 := C.hl3; have C3 := C.len; have G1 := hg.len1; have G2 := hg.len
  obtain ⟨d4, d5, d6, d7, d8, d13, lp⟩ := l_loop (p := p) (n := n) (l := l) c0 (frOf p n l (.tuple ws) (.tuple ts)) nm c3 c9 gs c14 c15 c16 ts hg ts [] c4 c5 c6 c7 c8 c13 (fun t h => h) C.ok (by simp; omega)
  rw [List.nil_append] at lp
  have hp := G_part (W := .tuple ws) C.ok C.len hg
  have mem : ∀ t ∈ (ts.filter (inG g)).map (ren g), tellOk p g.length l t = true ∧ Sf 40 t := fun t ht => by
    obtain ⟨x, hx, rfl⟩ := List.mem_map.1 ht
    obtain ⟨h1, h2⟩ := List.mem_filter.1 hx
    exact ren_ok hg h1 (List.all_eq_true.1 C.ok x h1) h2
  have hlen : ((ts.filter (inG g)).map (ren g)).length ≤ 5 := by
    have := List.length_filter_le (inG g) ts
    simp; omega
  generalize (ts.filter (inG g)).map (ren g) = ts' at *
  have sf : Sf 50 (frOf p g.length l (.tuple ws) (.tuple ts')) := by
    have s1 : Sf 49 (.tuple ts') := ⟨(sf_tup fun t ht => (mem t ht).2).1, Nat.le_trans (sf_tup fun t ht => (mem t ht).2).2 (by decide)⟩
    have s2 := sf_town C.hw
    refine sf_tup (k := 49) fun y hy => ?_
    simp only [List.mem_cons, List.not_mem_nil, or_false] at hy
    rcases hy with rfl | rfl | rfl | rfl
    · exact ⟨s2.1, Nat.le_trans s2.2 (by decide)⟩
    · exact sf_int _ _
    · exact sf_int _ _
    · exact s1
  have cs : G_is_case [frOf p g.length l (.tuple ws) (.tuple ts')] = some (.bool true) := by
    rw [G_case _ (fun T P L S e => by cases e; exact C.df), caseB_is (by omega) (by omega) C1 (by omega) C.htv]
    have : ts'.all (tellOk p g.length l) = true := List.all_eq_true.2 fun t ht => (mem t ht).1
    rw [this]
    simp; omega
  refine ⟨d4, d5, d6, d7, d8, .own ts', d13, .val (frOf p g.length l (.tuple ws) (.tuple ts')), ?_⟩
  unfold bB
  refine (seq_n (ρ' := lE c0 (frOf p n l (.tuple ws) (.tuple ts)) nm c3 c4 c5 c6 c7 c8 c9 gs (IL g) [] c13 c14 c15 c16) rfl).trans ?_
  refine (seq_n ((for_of (ds := ts) rfl).trans lp)).trans ?_
  refine (set_n (d := frOf p g.length l (.tuple ws) (.tuple ts')) (by simp_arith [ixD, atI_zero, atI_two, len1, tuple1])).trans ?_
  refine (if_f ?_).trans rfl
  rw [or_f]
  · simp_arith [cs]
  · exact eT_of ((e2_of (x := frOf p g.length l (.tuple ws) (.tuple ts')) (y := frOf p g.length l (.tuple ws) (.tuple ts')) (by simp_arith [told1 C.gc hp]) (by simp_arith [])).trans (sf_ne sf))
theorem b_loop (C : Cx52 p n l ws ts) (c0 nm gs : D) (c3 c9 c15 c16 : Cel) : ∀ (gl : List (List Int)) (c4 c5 c6 c7 c8 c11 c12 c13 c14 : Cel), (∀ g ∈ gl, GOk ts g) →
    ∃ d4 d5 d6 d7 d8 d11 d12 d13 d14, forF (gVar 11) bB (gl.map IL) (bE c0 (frOf p n l (.tuple ws) (.tuple ts)) nm c3 c4 c5 c6 c7 c8 c9 gs c11 c12 c13 c14 c15 c16) = some (.nx (bE c0 (frOf p n l (.tuple ws) (.tuple ts)) nm c3 d4 d5 d6 d7 d8 c9 gs d11 d12 d13 d14 c15 c16))
  | [], c4, c5, c6, c7, c8, c11, c12, c13, c14, _ => ⟨c4, c5, c6, c7, c8, c11, c12, c13, c14, rfl⟩
  | g :: gl, c4, c5, c6, c7, c8, c11, c12, c13, c14, h => by
    obtain ⟨d4, d5, d6, d7, d8, d12, d13, d14, e⟩ := b_step C (h g List.mem_cons_self) c0 nm gs c3 c4 c5 c6 c7 c8 c9 c12 c13 c14 c15 c16
    obtain ⟨f4, f5, f6, f7, f8, f11, f12, f13, f14, e'⟩ := b_loop C c0 nm gs c3 c9 c15 c16 gl d4 d5 d6 d7 d8 (.val (IL g)) d12 d13 d14 fun x hx => h x (List.mem_cons_of_mem _ hx)
    exact ⟨f4, f5, f6, f7, f8, f11, f12, f13, f14, (for_cons rfl e).trans e'⟩
end
noncomputable def chkG (n : Nat) : Bool := (labsN n).all fun L => (grp L).all fun g => decide (1 ≤ g.length) && decide (g.length ≤ 3) && (rngI n).all fun a => (rngI n).all fun b => !decide (gI L a = gI L b) || (memI g a == memI g b)
theorem chkG1 : chkG 1 = true := by decide +kernel
theorem chkG2 : chkG 2 = true := by decide +kernel
theorem chkG3 : chkG 3 = true := by decide +kernel
theorem mem_rngI {n : Nat} {a : Int} (h0 : 0 ≤ a) (h : a < n) : a ∈ rngI n := List.mem_map.2 ⟨a.toNat, List.mem_range.2 (by omega), by omega⟩
theorem grp_ok {p n l : Int} {ts : List D} (hn1 : 1 ≤ n) (hn3 : n ≤ 3) (hlen : ts.length ≤ 5) (h : ts.all (tellOk p n l) = true) : ∀ g ∈ grp ((edges ts).foldl joinI (rngI n.toNat)), GOk ts g := fun g hg => by
  obtain ⟨lab, _, same⟩ := labs_ok hn1 hn3 (Nat.le_trans (edges_len ts) hlen) (edge_ok h)
  have c : chkG n.toNat = true := by
    have hn : n = 1 ∨ n = 2 ∨ n = 3 := by omega
    rcases hn with rfl | rfl | rfl
    · exact chkG1
    · exact chkG2
    · exact chkG3
  have c1 := List.all_eq_true.1 (List.all_eq_true.1 c _ lab) g hg
  simp only [Bool.and_eq_true, decide_eq_true_eq] at c1
  refine ⟨c1.1.1, c1.1.2, fun e he => ?_⟩
  have hb := edge_ok h e he
  have c2 := List.all_eq_true.1 (List.all_eq_true.1 c1.2 e.1 (mem_rngI hb.1 (by omega))) e.2 (mem_rngI hb.2.2.1 (by omega))
  rw [same e he] at c2
  simpa using c2
theorem sf_GD (gs : List (List Int)) : Sf 50 (GD gs) := by
  have : Sf 2 (GD gs) := sf_lst fun x hx => by
    obtain ⟨g, _, rfl⟩ := List.mem_map.1 hx
    exact sf_lst fun y hy => by
      obtain ⟨i, _, rfl⟩ := List.mem_map.1 hy
      exact sf_int 0 i
  exact ⟨this.1, Nat.le_trans this.2 (by decide)⟩
theorem ref2 {fe : Fn.Env → Option D} {ρ : Fn.Env} (h : ∀ k : Int, k = 0 ∨ k = 1 → fe (ρ.set 0 (.val (.int k))) = some (.tuple [.str "refused", .int 0])) : compF (gVar 0) (fun _ => some true) fe ρ (rngD 0 2) = some [.tuple [.str "refused", .int 0], .tuple [.str "refused", .int 0]] := by
  have := comp_map (ρ := ρ) (fe := fe) (h := fun _ => .tuple [.str "refused", .int 0]) (ds := rngD 0 2) (fun d hd => by
    have : d = .int 0 ∨ d = .int 1 := by simpa [rngD, List.range, List.range.loop] using hd
    rcases this with rfl | rfl
    · exact h 0 (by simp)
    · exact h 1 (by simp))
  rw [this]; rfl
noncomputable abbrev known : D := .tuple [.tuple [.int 2, .tuple [.tuple [.int 0, .int 1, .int 1]]], .int 3, .int 1, .tuple [.tuple [.str "met", .int 1, .int 2, .int 0, .int 1], .tuple [.str "seen", .int 2, .int 1, .int 0, .int 0]]]
noncomputable abbrev knownD : D := .tuple [.tuple [.int 2, .tuple [.tuple [.int 0, .int 1, .int 1]]], .int 2, .int 1, .tuple [.tuple [.str "met", .int 0, .int 1, .int 0, .int 1], .tuple [.str "seen", .int 1, .int 1, .int 0, .int 0]]]
theorem acons_of {f : Fn.Env → Option D} {g : Fn.Env → Option (List D)} {ρ : Fn.Env} {d : D} {ds : List D} (h : f ρ = some d) (h2 : g ρ = some ds) : aCons f g ρ = some (d :: ds) := by unfold aCons; rw [h, h2]
theorem lst_of {g : Fn.Env → Option (List D)} {ρ : Fn.Env} {ds : List D} (h : g ρ = some ds) (hb : ds.length ≤ 100000) : eLst g ρ = some (.list ds) := by unfold eLst; rw [h]; exact if_pos hb
theorem known_case : G_is_case [known] = some (.bool true) := by rfl
theorem known0 : G__law_told [.int 0, known, .none] = some (GD [[0], [1, 2]]) := told0 known_case rfl
theorem known1 : G__law_told [.int 1, known, IL [1, 2]] = some knownD := told1 known_case rfl
theorem law_true (ns : List Int) (hl : ns.length ≤ 63) : G_law [.list (ns.map PyData.int)] = some (.bool true) := by
  obtain ⟨c, ec, hc⟩ := L_casemk ns hl
  obtain ⟨p, n, l, ws, ts, rfl, hp1, hp3, hn1, hn3, hl0, hl3, hw, ht5, hts, o1, o2, o3, rfl, h1, h2, h3⟩ := hc.ex
  have htv : townV (.tuple [.int p, .tuple (o1 ++ o2 ++ o3)]) = some (.bool true) := by
    rw [townV_yes (within_iff.2 ⟨p, rfl, hp1, by omega⟩), if_pos hw]
    exact (rise8 h1 h2 h3).1
  have hwl := ows_len h1 h2 h3
  have df : DefT (.tuple [.int p, .tuple (o1 ++ o2 ++ o3)]) := ⟨fun a ds e => by cases e; omega, true, htv⟩
  generalize hW : o1 ++ o2 ++ o3 = ws at *
  have cs : caseB (frOf p n l (.tuple ws) (.tuple ts)) = true := by rw [caseB_is hn1 (by omega) hl0 (by omega) htv, hts]; simp; omega
  have gc : G_is_case [frOf p n l (.tuple ws) (.tuple ts)] = some (.bool true) := by rw [G_case _ (fun T P L S e => by cases e; exact df), cs]
  have C : Cx52 p n l ws ts := ⟨hl0, hl3, hn1, hn3, hw, htv, df, gc, ht5, hts⟩
  obtain ⟨lab, l3, _⟩ := labs_ok hn1 hn3 (Nat.le_trans (edges_len ts) ht5) (edge_ok hts)
  obtain ⟨gg, gN⟩ := G_groups (W := .tuple ws) hn1 hn3 ht5 hts
  have gok := grp_ok hn1 hn3 ht5 hts
  obtain ⟨d3, d4, d5, d6, d7, d8, d9, et⟩ := n_turns (W := .tuple ws) hts (SS ns) [.emp, .emp, .emp, .emp, .emp, .emp, .emp] [.int 0, .int 1, .int 2] (rngI n.toNat) .emp .emp .emp .emp .emp .emp .emp (by simp [rngI]; omega)
  have l3' : [PyData.int 0, .int 1, .int 2].foldl (fun l _ => (edges ts).foldl setI l) (rngI n.toNat) = (edges ts).foldl joinI (rngI n.toNat) := l3
  rw [l3'] at et
  generalize (edges ts).foldl joinI (rngI n.toNat) = L at *
  have hnn : n = (n.toNat : Int) := by omega
  have hc2 : (decide (0 ≤ n) && decide (n ≤ 1000)) = true := by simp; omega
  have ne := n_end lab (SS ns) (.int p) (.int l) (.tuple ws) (.tuple ts) [d3, d4, d5, d6, d7, d8, d9, .emp, .emp, .emp, .emp, .emp, .emp, .emp]
  rw [← hnn] at ne
  unfold G_law b_law
  refine run_of rfl ?_
  refine (set_n (d := frOf p n l (.tuple ws) (.tuple ts)) (by simp_arith [ec])).trans ?_
  refine (seq_n (ρ' := nE (SS ns) (frOf p n l (.tuple ws) (.tuple ts)) (rngI n.toNat) .emp .emp .emp .emp .emp .emp .emp [.emp, .emp, .emp, .emp, .emp, .emp, .emp]) (by
    simp_arith [nLRng, ixD, atI_one, hc2]
    rw [rng_map]; simp [rngI])).trans ?_
  refine (seq_n ((for_of (ds := [.int 0, .int 1, .int 2]) rfl).trans et)).trans ?_
  refine (seq_n (ρ' := bE (SS ns) (frOf p n l (.tuple ws) (.tuple ts)) (IL L) d3 d4 d5 d6 d7 d8 d9 (GD (grp L)) .emp .emp .emp .emp .emp .emp) ((set_eq (d := GD (grp L)) ne).trans rfl)).trans ?_
  refine (si_f (eT_of ((e2_of (x := GD (grp L)) (y := GD (grp L)) (by simp_arith [told0 gc gg]) rfl).trans (sf_ne (sf_GD _))))).trans ?_
  obtain ⟨f4, f5, f6, f7, f8, f11, f12, f13, f14, eb⟩ := b_loop C (SS ns) (IL L) (GD (grp L)) d3 d9 .emp .emp (grp L) d4 d5 d6 d7 d8 .emp .emp .emp .emp gok
  refine (seq_n ((for_of (ds := (grp L).map IL) rfl).trans eb)).trans ?_
  refine (set_n (d := known) rfl).trans ?_
  refine (set_n (d := knownD) rfl).trans ?_
  refine (si_f (eT_of ((e2_of (x := .list [GD [[0], [1, 2]], knownD]) (y := .list [GD [[0], [1, 2]], knownD]) ?_ rfl).trans rfl))).trans ?_
  · have k1 : (eCall G__law_told (aCons (eC (.int 0)) (aCons (eVar 15) (aCons (eC .none) aNil)))) (bE (SS ns) (frOf p n l (.tuple ws) (.tuple ts)) (IL L) d3 f4 f5 f6 f7 f8 d9 (GD (grp L)) f11 f12 f13 (.val knownD) (.val known) .emp) = some (GD [[0], [1, 2]]) := known0
    have k2 : (eCall G__law_told (aCons (eC (.int 1)) (aCons (eVar 15) (aCons (eLst (aCons (eC (.int 1)) (aCons (eC (.int 2)) aNil))) aNil)))) (bE (SS ns) (frOf p n l (.tuple ws) (.tuple ts)) (IL L) d3 f4 f5 f6 f7 f8 d9 (GD (grp L)) f11 f12 f13 (.val knownD) (.val known) .emp) = some knownD := known1
    exact lst_of (acons_of k1 (acons_of k2 (show aNil (bE (SS ns) (frOf p n l (.tuple ws) (.tuple ts)) (IL L) d3 f4 f5 f6 f7 f8 d9 (GD (grp L)) f11 f12 f13 (.val knownD) (.val known) .emp) = some [] from rfl))) (show (2 : Nat) ≤ 100000 by decide)
  have tn := tiedN_of gc gN
  refine (seq_n (ρ' := [.val (SS ns), .val (frOf p n l (.tuple ws) (.tuple ts)), .val (IL L), d3, f4, f5, f6, f7, f8, d9, .val (GD (grp L)), f11, f12, f13, .val knownD, .val known, .own ((grp L).map IL)]) (by simp_arith [nCall, tn])).trans ?_
  have hgl : ((grp L).map IL).length < 100000 := by
    have := gok
    have h9 : (sortZ L).length ≤ L.length := nodup_leA _ _ ((sortZ_up L).imp (fun {a b} h => by omega)) (fun x hx => (sortZ_mem x L).1 hx)
    have hLl : L.length ≤ 3 := by
      have hn : n = 1 ∨ n = 2 ∨ n = 3 := by omega
      rcases hn with rfl | rfl | rfl <;> simp [labsN] at lab
      · subst lab; simp
      · rcases lab with rfl | rfl <;> simp
      · rcases lab with rfl | rfl | rfl | rfl | rfl <;> simp
    simp [grp]; omega
  refine (seq_n (ρ' := [.val (SS ns), .val (frOf p n l (.tuple ws) (.tuple ts)), .val (IL L), d3, f4, f5, f6, f7, f8, d9, .val (GD (grp L)), f11, f12, f13, .val knownD, .val known, .own ((grp L).map IL ++ [.list [.int 9]])]) (by
    have e9 : (eLst (aCons (eC (.int 9)) aNil)) [.val (SS ns), .val (frOf p n l (.tuple ws) (.tuple ts)), .val (IL L), d3, f4, f5, f6, f7, f8, d9, .val (GD (grp L)), f11, f12, f13, .val knownD, .val known, .own ((grp L).map IL)] = some (.list [.int 9]) := rfl
    unfold sApp
    rw [e9]
    show (if ((grp L).map IL).length < big then _ else _) = _
    rw [if_pos (show ((grp L).map IL).length < big from hgl)]
    rfl)).trans (ret_r ?_)
  refine (and_t ((e2_of (x := GD (grp L)) (y := GD (grp L)) (by simp_arith [tied_of gc gg]) rfl).trans (sf_eq (sf_GD _)))).trans ?_
  have g3' : G_is_case [.tuple [.tuple [.int p, .tuple ws], .int n, .int l]] = some (.bool false) := by rw [G_case _ (fun T P L S e => by cases e)]; rfl
  refine (e2_of (x := .list [.tuple [.str "refused", .int 0], .tuple [.str "refused", .int 0]]) (y := .list [.tuple [.str "refused", .int 0], .tuple [.str "refused", .int 0]]) (comp_of (ds := rngD 0 2) rfl rfl (ref2 fun k hk => (show _ = G__law_told [.int k, .tuple [.tuple [.int p, .tuple ws], .int n, .int l], IL [0]] from rfl).trans (badcase g3' hk)) (show (2 : Nat) ≤ 100000 by decide)) rfl).trans rfl
end KK
def PySem.W.Fast.tw17425953991204257085 : Nat := 0
def PySem.W.Fast.tw1924666433656049224 : Nat := 0
def PySem.W.Fast.tw5283736119457457276 : Nat := 0
def PySem.W.Fast.tw17823058345342260109 : Nat := 0
def PySem.W.Fast.tw14961578604928099232 : Nat := 0
def PySem.W.Fast.tw14892261548402816765 : Nat := 0
def PySem.W.Fast.tw6340299784863198865 : Nat := 0
def PySem.W.Fast.tw12144789972088583260 : Nat := 0
def PySem.W.Fast.tw2139594108519706366 : Nat := 0
namespace KK
open PySem L2 Fn PySem.Spec PyProof.Rows
theorem bnd0 {P : List Value → Prop} (h : P []) (us : List Value) (hl : us.length = 0) : P us := by
  cases us with
  | nil => exact h
  | cons a r => cases hl
theorem bndS {P : List Value → Prop} {n : Nat} (h : ∀ a, ∀ us : List Value, us.length = n → P (a :: us)) (us : List Value) (hl : us.length = n + 1) : P us := by
  cases us with
  | nil => cases hl
  | cons a r => exact h a r (Nat.succ.inj hl)
theorem has_ex {K : PySem.W.Frag} {mg : Str → Option Value} {x : Str} {st : Stmt} {ps : List Str} {p : Prop} (d : ∃ f fd, DefIn K mg x st ps f fd) (h : ∀ {f fd}, DefIn K mg x st ps f fd → p) : p := let ⟨_, _, D⟩ := d; h D
theorem exs_mk {K : PySem.W.Frag} {h : Heap} {mg : Str → Option Value} {T_ C_NoCase C_NoTelling C_NoPlace C_Nothing : Addr} (KX : K.In h) (G : h.Ns mainGlobals mg) (eT : PySem.W.nsIn K mainGlobals "TellingError" = some (some (.ref T_))) (e_NoCase : PySem.W.nsIn K mainGlobals "NoCase" = some (some (.ref C_NoCase))) (e_NoTelling : PySem.W.nsIn K mainGlobals "NoTelling" = some (some (.ref C_NoTelling))) (e_NoPlace : PySem.W.nsIn K mainGlobals "NoPlace" = some (some (.ref C_NoPlace))) (e_Nothing : PySem.W.nsIn K mainGlobals "Nothing" = some (some (.ref C_Nothing))) (T_tb : PySem.W.mroIn K T_ (.type "BaseException") = some true) (T_ty : PySem.W.typeIn K (.ref T_) = some (.type "type")) (q_NoCase : PySem.W.excIn K C_NoCase bmV "ValueError.__new__" = true) (ga_NoCase : PySem.W.findIn K (.ref C_NoCase) "__getattribute__" = some (some (.builtin "BaseException.__getattribute__"))) (gg_NoCase : PySem.W.findIn K (.ref C_NoCase) "__getattr__" = some none) (gc_NoCase : PySem.W.findIn K (.ref C_NoCase) "__class__" = some (some (.builtin "object.__class__"))) (mo_NoCase : PySem.W.mroIn K C_NoCase (.type "object") = some true) (mb_NoCase : PySem.W.mroIn K C_NoCase (.type "BaseException") = some true) (up_NoCase : PySem.W.mroIn K C_NoCase (.ref T_) = some true) (v_NoCase : PySem.W.mroIn K C_NoCase (.type "ValueError") = some true) (s_NoCase : PySem.W.mroIn K C_NoCase (.ref C_NoCase) = some true) (ty_NoCase : PySem.W.typeIn K (.ref C_NoCase) = some (.type "type")) (i_NoCase_NoTelling : PySem.W.mroIn K C_NoCase (.ref C_NoTelling) = some false) (i_NoCase_NoPlace : PySem.W.mroIn K C_NoCase (.ref C_NoPlace) = some false) (i_NoCase_Nothing : PySem.W.mroIn K C_NoCase (.ref C_Nothing) = some false) (q_NoTelling : PySem.W.excIn K C_NoTelling bmV "ValueError.__new__" = true) (ga_NoTelling : PySem.W.findIn K (.ref C_NoTelling) "__getattribute__" = some (some (.builtin "BaseException.__getattribute__"))) (gg_NoTelling : PySem.W.findIn K (.ref C_NoTelling) "__getattr__" = some none) (gc_NoTelling : PySem.W.findIn K (.ref C_NoTelling) "__class__" = some (some (.builtin "object.__class__"))) (mo_NoTelling : PySem.W.mroIn K C_NoTelling (.type "object") = some true) (mb_NoTelling : PySem.W.mroIn K C_NoTelling (.type "BaseException") = some true) (up_NoTelling : PySem.W.mroIn K C_NoTelling (.ref T_) = some true) (v_NoTelling : PySem.W.mroIn K C_NoTelling (.type "ValueError") = some true) (s_NoTelling : PySem.W.mroIn K C_NoTelling (.ref C_NoTelling) = some true) (ty_NoTelling : PySem.W.typeIn K (.ref C_NoTelling) = some (.type "type")) (i_NoTelling_NoCase : PySem.W.mroIn K C_NoTelling (.ref C_NoCase) = some false) (i_NoTelling_NoPlace : PySem.W.mroIn K C_NoTelling (.ref C_NoPlace) = some false) (i_NoTelling_Nothing : PySem.W.mroIn K C_NoTelling (.ref C_Nothing) = some false) (q_NoPlace : PySem.W.excIn K C_NoPlace bmV "ValueError.__new__" = true) (ga_NoPlace : PySem.W.findIn K (.ref C_NoPlace) "__getattribute__" = some (some (.builtin "BaseException.__getattribute__"))) (gg_NoPlace : PySem.W.findIn K (.ref C_NoPlace) "__getattr__" = some none) (gc_NoPlace : PySem.W.findIn K (.ref C_NoPlace) "__class__" = some (some (.builtin "object.__class__"))) (mo_NoPlace : PySem.W.mroIn K C_NoPlace (.type "object") = some true) (mb_NoPlace : PySem.W.mroIn K C_NoPlace (.type "BaseException") = some true) (up_NoPlace : PySem.W.mroIn K C_NoPlace (.ref T_) = some true) (v_NoPlace : PySem.W.mroIn K C_NoPlace (.type "ValueError") = some true) (s_NoPlace : PySem.W.mroIn K C_NoPlace (.ref C_NoPlace) = some true) (ty_NoPlace : PySem.W.typeIn K (.ref C_NoPlace) = some (.type "type")) (i_NoPlace_NoCase : PySem.W.mroIn K C_NoPlace (.ref C_NoCase) = some false) (i_NoPlace_NoTelling : PySem.W.mroIn K C_NoPlace (.ref C_NoTelling) = some false) (i_NoPlace_Nothing : PySem.W.mroIn K C_NoPlace (.ref C_Nothing) = some false) (q_Nothing : PySem.W.excIn K C_Nothing bmV "ValueError.__new__" = true) (ga_Nothing : PySem.W.findIn K (.ref C_Nothing) "__getattribute__" = some (some (.builtin "BaseException.__getattribute__"))) (gg_Nothing : PySem.W.findIn K (.ref C_Nothing) "__getattr__" = some none) (gc_Nothing : PySem.W.findIn K (.ref C_Nothing) "__class__" = some (some (.builtin "object.__class__"))) (mo_Nothing : PySem.W.mroIn K C_Nothing (.type "object") = some true) (mb_Nothing : PySem.W.mroIn K C_Nothing (.type "BaseException") = some true) (up_Nothing : PySem.W.mroIn K C_Nothing (.ref T_) = some true) (v_Nothing : PySem.W.mroIn K C_Nothing (.type "ValueError") = some true) (s_Nothing : PySem.W.mroIn K C_Nothing (.ref C_Nothing) = some true) (ty_Nothing : PySem.W.typeIn K (.ref C_Nothing) = some (.type "type")) (i_Nothing_NoCase : PySem.W.mroIn K C_Nothing (.ref C_NoCase) = some false) (i_Nothing_NoTelling : PySem.W.mroIn K C_Nothing (.ref C_NoTelling) = some false) (i_Nothing_NoPlace : PySem.W.mroIn K C_Nothing (.ref C_NoPlace) = some false) : ∃ T_ C_NoCase C_NoTelling C_NoPlace C_Nothing, Exs K mg T_ C_NoCase C_NoTelling C_NoPlace C_Nothing :=
  ⟨_, _, _, _, _, ⟨PySem.W.mg_of KX G eT, PySem.W.mg_of KX G e_NoCase, q_NoCase, ⟨ga_NoCase, gg_NoCase, gc_NoCase, mo_NoCase, mb_NoCase, Fn.cls_of_mro mo_NoCase⟩, ⟨up_NoCase, T_tb, T_ty, Fn.cls_of_mro T_tb⟩, Fn.kit_V v_NoCase, Fn.kit_self, Fn.kit_no mo_NoTelling ty_NoTelling i_NoCase_NoTelling s_NoCase, Fn.kit_no mo_NoPlace ty_NoPlace i_NoCase_NoPlace s_NoCase, Fn.kit_no mo_Nothing ty_Nothing i_NoCase_Nothing s_NoCase, PySem.W.mg_of KX G e_NoTelling, q_NoTelling, ⟨ga_NoTelling, gg_NoTelling, gc_NoTelling, mo_NoTelling, mb_NoTelling, Fn.cls_of_mro mo_NoTelling⟩, ⟨up_NoTelling, T_tb, T_ty, Fn.cls_of_mro T_tb⟩, Fn.kit_V v_NoTelling, Fn.kit_no mo_NoCase ty_NoCase i_NoTelling_NoCase s_NoTelling, Fn.kit_self, Fn.kit_no mo_NoPlace ty_NoPlace i_NoTelling_NoPlace s_NoTelling, Fn.kit_no mo_Nothing ty_Nothing i_NoTelling_Nothing s_NoTelling, PySem.W.mg_of KX G e_NoPlace, q_NoPlace, ⟨ga_NoPlace, gg_NoPlace, gc_NoPlace, mo_NoPlace, mb_NoPlace, Fn.cls_of_mro mo_NoPlace⟩, ⟨up_NoPlace, T_tb, T_ty, Fn.cls_of_mro T_tb⟩, Fn.kit_V v_NoPlace, Fn.kit_no mo_NoCase ty_NoCase i_NoPlace_NoCase s_NoPlace, Fn.kit_no mo_NoTelling ty_NoTelling i_NoPlace_NoTelling s_NoPlace, Fn.kit_self, Fn.kit_no mo_Nothing ty_Nothing i_NoPlace_Nothing s_NoPlace, PySem.W.mg_of KX G e_Nothing, q_Nothing, ⟨ga_Nothing, gg_Nothing, gc_Nothing, mo_Nothing, mb_Nothing, Fn.cls_of_mro mo_Nothing⟩, ⟨up_Nothing, T_tb, T_ty, Fn.cls_of_mro T_tb⟩, Fn.kit_V v_Nothing, Fn.kit_no mo_NoCase ty_NoCase i_Nothing_NoCase s_Nothing, Fn.kit_no mo_NoTelling ty_NoTelling i_Nothing_NoTelling s_Nothing, Fn.kit_no mo_NoPlace ty_NoPlace i_Nothing_NoPlace s_Nothing, Fn.kit_self⟩⟩
theorem law_all {P : Program} {w : World} {K : PySem.W.Frag} {mg : Str → Option Value} {fa : Addr} {p q : Heap → Prop} (hmg : mg "law" = some (.ref fa)) (B : Blt mg) (T : Cns w K mg)
    (d_is_whole : ∃ f fd, DefIn K mg "is_whole" st_is_whole ["thing"] f fd)
    (d_is_whole_within : ∃ f fd, DefIn K mg "is_whole_within" st_is_whole_within ["thing", "least", "most"] f fd)
    (d_is_tuple_of : ∃ f fd, DefIn K mg "is_tuple_of" st_is_tuple_of ["thing", "length"] f fd)
    (d_is_way : ∃ f fd, DefIn K mg "is_way" st_is_way ["places", "thing"] f fd)
    (d_are_ways : ∃ f fd, DefIn K mg "are_ways" st_are_ways ["places", "thing"] f fd)
    (d_is_town : ∃ f fd, DefIn K mg "is_town" st_is_town ["thing"] f fd)
    (d_is_what : ∃ f fd, DefIn K mg "is_what" st_is_what ["frame", "word", "who", "what"] f fd)
    (d_fits_frame : ∃ f fd, DefIn K mg "fits_frame" st_fits_frame ["frame", "thing"] f fd)
    (d_are_tellings : ∃ f fd, DefIn K mg "are_tellings" st_are_tellings ["frame", "thing"] f fd)
    (d_is_case : ∃ f fd, DefIn K mg "is_case" st_is_case ["thing"] f fd)
    (d_demand_case : ∃ f fd, DefIn K mg "demand_case" st_demand_case ["thing"] f fd)
    (d_labels_joined : ∃ f fd, DefIn K mg "labels_joined" st_labels_joined ["labels", "one", "other"] f fd)
    (d_persons_with : ∃ f fd, DefIn K mg "persons_with" st_persons_with ["labels", "wanted"] f fd)
    (d_groups_of : ∃ f fd, DefIn K mg "groups_of" st_groups_of ["case"] f fd)
    (d_renumbered : ∃ f fd, DefIn K mg "renumbered" st_renumbered ["telling", "group"] f fd)
    (d_part_of : ∃ f fd, DefIn K mg "part_of" st_part_of ["case", "group"] f fd)
    (d_tied : ∃ f fd, DefIn K mg "tied" st_tied ["case"] f fd)
    (d_alone : ∃ f fd, DefIn K mg "alone" st_alone ["case", "group"] f fd)
    (d__law_cell : ∃ f fd, DefIn K mg "_law_cell" st__law_cell ["_law_script", "_law_k"] f fd)
    (d__law_drawn : ∃ f fd, DefIn K mg "_law_drawn" st__law_drawn ["_law_script", "_law_k", "_law_many_here"] f fd)
    (d__law_town : ∃ f fd, DefIn K mg "_law_town" st__law_town ["_law_script", "_law_at", "_law_most"] f fd)
    (d__law_telling : ∃ f fd, DefIn K mg "_law_telling" st__law_telling ["_law_script", "_law_at", "_law_many_here", "_law_persons", "_law_last"] f fd)
    (d__law_refused : ∃ f fd, DefIn K mg "_law_refused" st__law_refused ["_law_e"] f fd)
    (d__law_told : ∃ f fd, DefIn K mg "_law_told" st__law_told ["_law_way", "_law_case_here", "_law_group"] f fd)
    (d__law_many : ∃ f fd, DefIn K mg "_law_many" st__law_many ["_law_script", "_law_at", "_law_most"] f fd)
    (d_law : ∃ f fd, DefIn K mg "law" st_law ["_law_script"] f fd) :
    ∃ fd : FuncData, (∀ (s : Shared) (u : Value), BindsTo s fd ⟨[u], []⟩ [("_law_script", u)]) ∧ ∀ base : Heap, p base → q base → FnOk P w K mg base CX0 10 fa fd ["_law_script"] (spF K G_law) := by
  obtain ⟨f_law, fd_law, D_law⟩ := d_law
  have e := hmg.symm.trans D_law.mg
  cases e
  refine ⟨fd_law, fun s u => ?_, fun base _ _ => ?_⟩
  · obtain ⟨oc, od, kV, doc, pm, an, cdv, ct, osl, rfl, lk, hcd⟩ := D_law.fn.ex
    exact .of_eq rfl
  · skip
    have h_is_whole : Has P w K mg base "is_whole" 1 G_is_whole := has_ex d_is_whole fun D => ok_is_whole D T B 
    have h_is_whole_within : Has P w K mg base "is_whole_within" 2 G_is_whole_within := has_ex d_is_whole_within fun D => ok_is_whole_within D T B h_is_whole
    have h_is_tuple_of : Has P w K mg base "is_tuple_of" 1 G_is_tuple_of := has_ex d_is_tuple_of fun D => ok_is_tuple_of D T B 
    have h_is_way : Has P w K mg base "is_way" 3 G_is_way := has_ex d_is_way fun D => ok_is_way D T B h_is_tuple_of h_is_whole_within
    have h_are_ways : Has P w K mg base "are_ways" 4 G_are_ways := has_ex d_are_ways fun D => ok_are_ways D T B h_is_way
    have h_is_town : Has P w K mg base "is_town" 5 G_is_town := has_ex d_is_town fun D => ok_is_town D T B h_are_ways h_is_tuple_of h_is_whole_within
    have h_is_what : Has P w K mg base "is_what" 3 G_is_what := has_ex d_is_what fun D => ok_is_what D T B h_is_whole_within
    have h_fits_frame : Has P w K mg base "fits_frame" 4 G_fits_frame := has_ex d_fits_frame fun D => ok_fits_frame D T B h_is_tuple_of h_is_what h_is_whole_within
    have h_are_tellings : Has P w K mg base "are_tellings" 5 G_are_tellings := has_ex d_are_tellings fun D => ok_are_tellings D T B h_fits_frame
    have h_is_case : Has P w K mg base "is_case" 6 G_is_case := has_ex d_is_case fun D => ok_is_case D T B h_are_tellings h_is_town h_is_tuple_of h_is_whole_within
    have h_demand_case : Has P w K mg base "demand_case" 7 G_demand_case := has_ex d_demand_case fun D => ok_demand_case D T B h_is_case
    have hx_demand_case : HasX P w K mg base "demand_case" 7 X_demand_case := has_ex d_demand_case fun D => okx_demand_case D T B h_is_case
    have h_labels_joined : Has P w K mg base "labels_joined" 1 G_labels_joined := has_ex d_labels_joined fun D => ok_labels_joined D T B 
    have h_persons_with : Has P w K mg base "persons_with" 1 G_persons_with := has_ex d_persons_with fun D => ok_persons_with D T B 
    have h_groups_of : Has P w K mg base "groups_of" 2 G_groups_of := has_ex d_groups_of fun D => ok_groups_of D T B h_labels_joined h_persons_with
    have hn_groups_of : HasN P w K mg base "groups_of" 2 N_groups_of := has_ex d_groups_of fun D => okn_groups_of D T B h_labels_joined h_persons_with
    have h_renumbered : Has P w K mg base "renumbered" 1 G_renumbered := has_ex d_renumbered fun D => ok_renumbered D T B 
    have h_part_of : Has P w K mg base "part_of" 2 G_part_of := has_ex d_part_of fun D => ok_part_of D T B h_renumbered
    have h_tied : Has P w K mg base "tied" 8 G_tied := has_ex d_tied fun D => ok_tied D T B h_demand_case h_groups_of
    have hn_tied : HasN P w K mg base "tied" 8 N_tied := has_ex d_tied fun D => okn_tied D T B h_demand_case hn_groups_of
    have hx_tied : HasX P w K mg base "tied" 8 X_tied := has_ex d_tied fun D => okx_tied D T B hx_demand_case
    have h_alone : Has P w K mg base "alone" 8 G_alone := has_ex d_alone fun D => ok_alone D T B h_demand_case h_part_of
    have hx_alone : HasX P w K mg base "alone" 8 X_alone := has_ex d_alone fun D => okx_alone D T B hx_demand_case
    have h__law_cell : Has P w K mg base "_law_cell" 1 G__law_cell := has_ex d__law_cell fun D => ok__law_cell D T B 
    have h__law_drawn : Has P w K mg base "_law_drawn" 2 G__law_drawn := has_ex d__law_drawn fun D => ok__law_drawn D T B h__law_cell
    have h__law_town : Has P w K mg base "_law_town" 3 G__law_town := has_ex d__law_town fun D => ok__law_town D T B h__law_drawn
    have h__law_telling : Has P w K mg base "_law_telling" 3 G__law_telling := has_ex d__law_telling fun D => ok__law_telling D T B h__law_drawn
    have h__law_refused : HA__law_refused P w K mg base := has_ex d__law_refused fun D => ok__law_refused D T B
    have h__law_told : Has P w K mg base "_law_told" 9 G__law_told := has_ex d__law_told fun D => ok__law_told D T B h__law_refused h_alone h_tied hx_alone hx_tied
    have h__law_many : Has P w K mg base "_law_many" 4 G__law_many := has_ex d__law_many fun D => ok__law_many D T B h__law_drawn h__law_telling h__law_town
    exact ok_law D_law T B h__law_many h__law_told h_is_case h_tied hn_tied
end KK
open PySem PySem.W PyProof.Rows
set_option maxRecDepth 100000 in
set_option maxHeartbeats 0 in
theorem PySem.Challenge.cw_daytellings_k52_groups_holds : PySem.Challenge.rw_daytellings_k52_groups.Holds := by
  w_on; o_law; k_head; (case hw => w_witness2)
  k_fill
  refine L2.walk_ofK (l := PySem.Challenge.rw_daytellings_k52_groups) (n := 63) (k := 10) (x := "_law_script") (CX := L2.CX0) (sp := fun K => Fn.spF K KK.G_law) rfl (by decide) rfl ⟨rfl, by decide, by decide⟩ (fun w h Y => PySem.W.kIn_of Y) ?F ?S ?C
  case F =>
    intro w mg fa h KX G hmg
    refine KK.law_all (P := _) (w := w) (K := L2.KOf KX) hmg ⟨?xb_ValueError, ?xb_all, ?xb_bool, ?xb_enumerate, ?xb_int, ?xb_isinstance, ?xb_len, ?xb_list, ?xb_min, ?xb_range, ?xb_set, ?xb_sorted, ?xb_tuple⟩ ⟨?xc_GREATEST_LAST, ?xc_LONGEST_WAY, ?xc_MOST_PERSONS, ?xc_MOST_PLACES, ?xc_MOST_TELLINGS, ?xc_PERSON_WORDS, ?xc_PLACE_WORDS, ?xex⟩ ?xd_is_whole ?xd_is_whole_within ?xd_is_tuple_of ?xd_is_way ?xd_are_ways ?xd_is_town ?xd_is_what ?xd_fits_frame ?xd_are_tellings ?xd_is_case ?xd_demand_case ?xd_labels_joined ?xd_persons_with ?xd_groups_of ?xd_renumbered ?xd_part_of ?xd_tied ?xd_alone ?xd__law_cell ?xd__law_drawn ?xd__law_town ?xd__law_telling ?xd__law_refused ?xd__law_told ?xd__law_many ?xd_law
    case xb_ValueError => exact PySem.W.mg_none_of KX G (by k_is)
    case xb_all => exact PySem.W.mg_none_of KX G (by k_is)
    case xb_bool => exact PySem.W.mg_none_of KX G (by k_is)
    case xb_enumerate => exact PySem.W.mg_none_of KX G (by k_is)
    case xb_int => exact PySem.W.mg_none_of KX G (by k_is)
    case xb_isinstance => exact PySem.W.mg_none_of KX G (by k_is)
    case xb_len => exact PySem.W.mg_none_of KX G (by k_is)
    case xb_list => exact PySem.W.mg_none_of KX G (by k_is)
    case xb_min => exact PySem.W.mg_none_of KX G (by k_is)
    case xb_range => exact PySem.W.mg_none_of KX G (by k_is)
    case xb_set => exact PySem.W.mg_none_of KX G (by k_is)
    case xb_sorted => exact PySem.W.mg_none_of KX G (by k_is)
    case xb_tuple => exact PySem.W.mg_none_of KX G (by k_is)
    case xc_GREATEST_LAST =>
      refine' Fn.constI_ex KX G ?a
      (case a => k_is)
    case xc_LONGEST_WAY =>
      refine' Fn.constI_ex KX G ?a
      (case a => k_is)
    case xc_MOST_PERSONS =>
      refine' Fn.constI_ex KX G ?a
      (case a => k_is)
    case xc_MOST_PLACES =>
      refine' Fn.constI_ex KX G ?a
      (case a => k_is)
    case xc_MOST_TELLINGS =>
      refine' Fn.constI_ex KX G ?a
      (case a => k_is)
    case xc_PERSON_WORDS =>
      dsimp only [L2.KOf]
      refine' Fn.constT_ex (xs := [.str "met", .str "apart"]) KX G ?a ?l ?v ?r ?z
      (case a => k_is); (case l => k_is)
      (case v => exact .cons ⟨_, rfl⟩ (.cons ⟨_, rfl⟩ (.nil)))
      (case r => exact fun H => ⟨_, _, rfl, ⟨rfl, by decide +kernel⟩, ⟨_, _, rfl, ⟨rfl, by decide +kernel⟩, rfl⟩⟩)
      (case z => decide)
    case xc_PLACE_WORDS =>
      dsimp only [L2.KOf]
      refine' Fn.constT_ex (xs := [.str "there", .str "seen", .str "never"]) KX G ?a ?l ?v ?r ?z
      (case a => k_is); (case l => k_is)
      (case v => exact .cons ⟨_, rfl⟩ (.cons ⟨_, rfl⟩ (.cons ⟨_, rfl⟩ (.nil))))
      (case r => exact fun H => ⟨_, _, rfl, ⟨rfl, by decide +kernel⟩, ⟨_, _, rfl, ⟨rfl, by decide +kernel⟩, ⟨_, _, rfl, ⟨rfl, by decide +kernel⟩, rfl⟩⟩⟩)
      (case z => decide)
    case xex =>
      dsimp only [L2.KOf]
      refine' KK.exs_mk KX G ?y_eT ?y_e_NoCase ?y_e_NoTelling ?y_e_NoPlace ?y_e_Nothing ?y_T_tb ?y_T_ty ?y_q_NoCase ?y_ga_NoCase ?y_gg_NoCase ?y_gc_NoCase ?y_mo_NoCase ?y_mb_NoCase ?y_up_NoCase ?y_v_NoCase ?y_s_NoCase ?y_ty_NoCase ?y_i_NoCase_NoTelling ?y_i_NoCase_NoPlace ?y_i_NoCase_Nothing ?y_q_NoTelling ?y_ga_NoTelling ?y_gg_NoTelling ?y_gc_NoTelling ?y_mo_NoTelling ?y_mb_NoTelling ?y_up_NoTelling ?y_v_NoTelling ?y_s_NoTelling ?y_ty_NoTelling ?y_i_NoTelling_NoCase ?y_i_NoTelling_NoPlace ?y_i_NoTelling_Nothing ?y_q_NoPlace ?y_ga_NoPlace ?y_gg_NoPlace ?y_gc_NoPlace ?y_mo_NoPlace ?y_mb_NoPlace ?y_up_NoPlace ?y_v_NoPlace ?y_s_NoPlace ?y_ty_NoPlace ?y_i_NoPlace_NoCase ?y_i_NoPlace_NoTelling ?y_i_NoPlace_Nothing ?y_q_Nothing ?y_ga_Nothing ?y_gg_Nothing ?y_gc_Nothing ?y_mo_Nothing ?y_mb_Nothing ?y_up_Nothing ?y_v_Nothing ?y_s_Nothing ?y_ty_Nothing ?y_i_Nothing_NoCase ?y_i_Nothing_NoTelling ?y_i_Nothing_NoPlace
      (case y_eT => k_is)
      (case y_e_NoCase => k_is)
      (case y_e_NoTelling => k_is)
      (case y_e_NoPlace => k_is)
      (case y_e_Nothing => k_is)
      (case y_T_tb => k_is)
      (case y_T_ty => k_is)
      (case y_q_NoCase => k_exc)
      (case y_ga_NoCase => k_is)
      (case y_gg_NoCase => k_is)
      (case y_gc_NoCase => k_is)
      (case y_mo_NoCase => k_is)
      (case y_mb_NoCase => k_is)
      (case y_up_NoCase => k_is)
      (case y_v_NoCase => k_is)
      (case y_s_NoCase => k_is)
      (case y_ty_NoCase => k_is)
      (case y_i_NoCase_NoTelling => k_is)
      (case y_i_NoCase_NoPlace => k_is)
      (case y_i_NoCase_Nothing => k_is)
      (case y_q_NoTelling => k_exc)
      (case y_ga_NoTelling => k_is)
      (case y_gg_NoTelling => k_is)
      (case y_gc_NoTelling => k_is)
      (case y_mo_NoTelling => k_is)
      (case y_mb_NoTelling => k_is)
      (case y_up_NoTelling => k_is)
      (case y_v_NoTelling => k_is)
      (case y_s_NoTelling => k_is)
      (case y_ty_NoTelling => k_is)
      (case y_i_NoTelling_NoCase => k_is)
      (case y_i_NoTelling_NoPlace => k_is)
      (case y_i_NoTelling_Nothing => k_is)
      (case y_q_NoPlace => k_exc)
      (case y_ga_NoPlace => k_is)
      (case y_gg_NoPlace => k_is)
      (case y_gc_NoPlace => k_is)
      (case y_mo_NoPlace => k_is)
      (case y_mb_NoPlace => k_is)
      (case y_up_NoPlace => k_is)
      (case y_v_NoPlace => k_is)
      (case y_s_NoPlace => k_is)
      (case y_ty_NoPlace => k_is)
      (case y_i_NoPlace_NoCase => k_is)
      (case y_i_NoPlace_NoTelling => k_is)
      (case y_i_NoPlace_Nothing => k_is)
      (case y_q_Nothing => k_exc)
      (case y_ga_Nothing => k_is)
      (case y_gg_Nothing => k_is)
      (case y_gc_Nothing => k_is)
      (case y_mo_Nothing => k_is)
      (case y_mb_Nothing => k_is)
      (case y_up_Nothing => k_is)
      (case y_v_Nothing => k_is)
      (case y_s_Nothing => k_is)
      (case y_ty_Nothing => k_is)
      (case y_i_Nothing_NoCase => k_is)
      (case y_i_Nothing_NoTelling => k_is)
      (case y_i_Nothing_NoPlace => k_is)
    case xd_is_whole =>
      dsimp only [L2.KOf]
      refine' Fn.def_ex KX G ?a ?l ?c ?k ?b
      (case a => k_is); (case l => k_is); (case c => k_is); (case k => k_is)
      (case b => exact fun _ _ _ _ _ _ => KK.bndS fun _ => KK.bnd0 rfl)
    case xd_is_whole_within =>
      dsimp only [L2.KOf]
      refine' Fn.def_ex KX G ?a ?l ?c ?k ?b
      (case a => k_is); (case l => k_is); (case c => k_is); (case k => k_is)
      (case b => exact fun _ _ _ _ _ _ => KK.bndS fun _ => KK.bndS fun _ => KK.bndS fun _ => KK.bnd0 rfl)
    case xd_is_tuple_of =>
      dsimp only [L2.KOf]
      refine' Fn.def_ex KX G ?a ?l ?c ?k ?b
      (case a => k_is); (case l => k_is); (case c => k_is); (case k => k_is)
      (case b => exact fun _ _ _ _ _ _ => KK.bndS fun _ => KK.bndS fun _ => KK.bnd0 rfl)
    case xd_is_way =>
      dsimp only [L2.KOf]
      refine' Fn.def_ex KX G ?a ?l ?c ?k ?b
      (case a => k_is); (case l => k_is); (case c => k_is); (case k => k_is)
      (case b => exact fun _ _ _ _ _ _ => KK.bndS fun _ => KK.bndS fun _ => KK.bnd0 rfl)
    case xd_are_ways =>
      dsimp only [L2.KOf]
      refine' Fn.def_ex KX G ?a ?l ?c ?k ?b
      (case a => k_is); (case l => k_is); (case c => k_is); (case k => k_is)
      (case b => exact fun _ _ _ _ _ _ => KK.bndS fun _ => KK.bndS fun _ => KK.bnd0 rfl)
    case xd_is_town =>
      dsimp only [L2.KOf]
      refine' Fn.def_ex KX G ?a ?l ?c ?k ?b
      (case a => k_is); (case l => k_is); (case c => k_is); (case k => k_is)
      (case b => exact fun _ _ _ _ _ _ => KK.bndS fun _ => KK.bnd0 rfl)
    case xd_is_what =>
      dsimp only [L2.KOf]
      refine' Fn.def_ex KX G ?a ?l ?c ?k ?b
      (case a => k_is); (case l => k_is); (case c => k_is); (case k => k_is)
      (case b => exact fun _ _ _ _ _ _ => KK.bndS fun _ => KK.bndS fun _ => KK.bndS fun _ => KK.bndS fun _ => KK.bnd0 rfl)
    case xd_fits_frame =>
      dsimp only [L2.KOf]
      refine' Fn.def_ex KX G ?a ?l ?c ?k ?b
      (case a => k_is); (case l => k_is); (case c => k_is); (case k => k_is)
      (case b => exact fun _ _ _ _ _ _ => KK.bndS fun _ => KK.bndS fun _ => KK.bnd0 rfl)
    case xd_are_tellings =>
      dsimp only [L2.KOf]
      refine' Fn.def_ex KX G ?a ?l ?c ?k ?b
      (case a => k_is); (case l => k_is); (case c => k_is); (case k => k_is)
      (case b => exact fun _ _ _ _ _ _ => KK.bndS fun _ => KK.bndS fun _ => KK.bnd0 rfl)
    case xd_is_case =>
      dsimp only [L2.KOf]
      refine' Fn.def_ex KX G ?a ?l ?c ?k ?b
      (case a => k_is); (case l => k_is); (case c => k_is); (case k => k_is)
      (case b => exact fun _ _ _ _ _ _ => KK.bndS fun _ => KK.bnd0 rfl)
    case xd_demand_case =>
      dsimp only [L2.KOf]
      refine' Fn.def_ex KX G ?a ?l ?c ?k ?b
      (case a => k_is); (case l => k_is); (case c => k_is); (case k => k_is)
      (case b => exact fun _ _ _ _ _ _ => KK.bndS fun _ => KK.bnd0 rfl)
    case xd_labels_joined =>
      dsimp only [L2.KOf]
      refine' Fn.def_ex KX G ?a ?l ?c ?k ?b
      (case a => k_is); (case l => k_is); (case c => k_is); (case k => k_is)
      (case b => exact fun _ _ _ _ _ _ => KK.bndS fun _ => KK.bndS fun _ => KK.bndS fun _ => KK.bnd0 rfl)
    case xd_persons_with =>
      dsimp only [L2.KOf]
      refine' Fn.def_ex KX G ?a ?l ?c ?k ?b
      (case a => k_is); (case l => k_is); (case c => k_is); (case k => k_is)
      (case b => exact fun _ _ _ _ _ _ => KK.bndS fun _ => KK.bndS fun _ => KK.bnd0 rfl)
    case xd_groups_of =>
      dsimp only [L2.KOf]
      refine' Fn.def_ex KX G ?a ?l ?c ?k ?b
      (case a => k_is); (case l => k_is); (case c => k_is); (case k => k_is)
      (case b => exact fun _ _ _ _ _ _ => KK.bndS fun _ => KK.bnd0 rfl)
    case xd_renumbered =>
      dsimp only [L2.KOf]
      refine' Fn.def_ex KX G ?a ?l ?c ?k ?b
      (case a => k_is); (case l => k_is); (case c => k_is); (case k => k_is)
      (case b => exact fun _ _ _ _ _ _ => KK.bndS fun _ => KK.bndS fun _ => KK.bnd0 rfl)
    case xd_part_of =>
      dsimp only [L2.KOf]
      refine' Fn.def_ex KX G ?a ?l ?c ?k ?b
      (case a => k_is); (case l => k_is); (case c => k_is); (case k => k_is)
      (case b => exact fun _ _ _ _ _ _ => KK.bndS fun _ => KK.bndS fun _ => KK.bnd0 rfl)
    case xd_tied =>
      dsimp only [L2.KOf]
      refine' Fn.def_ex KX G ?a ?l ?c ?k ?b
      (case a => k_is); (case l => k_is); (case c => k_is); (case k => k_is)
      (case b => exact fun _ _ _ _ _ _ => KK.bndS fun _ => KK.bnd0 rfl)
    case xd_alone =>
      dsimp only [L2.KOf]
      refine' Fn.def_ex KX G ?a ?l ?c ?k ?b
      (case a => k_is); (case l => k_is); (case c => k_is); (case k => k_is)
      (case b => exact fun _ _ _ _ _ _ => KK.bndS fun _ => KK.bndS fun _ => KK.bnd0 rfl)
    case xd__law_cell =>
      dsimp only [L2.KOf]
      refine' Fn.def_ex KX G ?a ?l ?c ?k ?b
      (case a => k_is); (case l => k_is); (case c => k_is); (case k => k_is)
      (case b => exact fun _ _ _ _ _ _ => KK.bndS fun _ => KK.bndS fun _ => KK.bnd0 rfl)
    case xd__law_drawn =>
      dsimp only [L2.KOf]
      refine' Fn.def_ex KX G ?a ?l ?c ?k ?b
      (case a => k_is); (case l => k_is); (case c => k_is); (case k => k_is)
      (case b => exact fun _ _ _ _ _ _ => KK.bndS fun _ => KK.bndS fun _ => KK.bndS fun _ => KK.bnd0 rfl)
    case xd__law_town =>
      dsimp only [L2.KOf]
      refine' Fn.def_ex KX G ?a ?l ?c ?k ?b
      (case a => k_is); (case l => k_is); (case c => k_is); (case k => k_is)
      (case b => exact fun _ _ _ _ _ _ => KK.bndS fun _ => KK.bndS fun _ => KK.bndS fun _ => KK.bnd0 rfl)
    case xd__law_telling =>
      dsimp only [L2.KOf]
      refine' Fn.def_ex KX G ?a ?l ?c ?k ?b
      (case a => k_is); (case l => k_is); (case c => k_is); (case k => k_is)
      (case b => exact fun _ _ _ _ _ _ => KK.bndS fun _ => KK.bndS fun _ => KK.bndS fun _ => KK.bndS fun _ => KK.bndS fun _ => KK.bnd0 rfl)
    case xd__law_refused =>
      dsimp only [L2.KOf]
      refine' Fn.def_ex KX G ?a ?l ?c ?k ?b
      (case a => k_is); (case l => k_is); (case c => k_is); (case k => k_is)
      (case b => exact fun _ _ _ _ _ _ => KK.bndS fun _ => KK.bnd0 rfl)
    case xd__law_told =>
      dsimp only [L2.KOf]
      refine' Fn.def_ex KX G ?a ?l ?c ?k ?b
      (case a => k_is); (case l => k_is); (case c => k_is); (case k => k_is)
      (case b => exact fun _ _ _ _ _ _ => KK.bndS fun _ => KK.bndS fun _ => KK.bndS fun _ => KK.bnd0 rfl)
    case xd__law_many =>
      dsimp only [L2.KOf]
      refine' Fn.def_ex KX G ?a ?l ?c ?k ?b
      (case a => k_is); (case l => k_is); (case c => k_is); (case k => k_is)
      (case b => exact fun _ _ _ _ _ _ => KK.bndS fun _ => KK.bndS fun _ => KK.bndS fun _ => KK.bnd0 rfl)
    case xd_law =>
      dsimp only [L2.KOf]
      refine' Fn.def_ex KX G ?a ?l ?c ?k ?b
      (case a => k_is); (case l => k_is); (case c => k_is); (case k => k_is)
      (case b => exact fun _ _ _ _ _ _ => KK.bndS fun _ => KK.bnd0 rfl)
  case S => exact fun K H a ns hl hO hS => Fn.law_sp hS (KK.law_true ns hl)
  case C => exact fun _ _ _ _ z => z
