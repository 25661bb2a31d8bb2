import PyProof.Rows.All
import Wide.All
import OpenK.AllK
import Wide.FinOn
import Lean
import PyProof.EqAt
import PyProof.EqKinds
import PyProof.TupleCall
import PySem.Challenge.RW_driftmeet_k62_choices_of_liars
set_option Elab.async false
set_option linter.all false
set_option maxRecDepth 100000
namespace L2
open PySem PySem.Spec PyProof.Rows
noncomputable abbrev Key := Sum Int Str
noncomputable def keyIs : Key → Value → Bool
  | .inl k, v => Value.isInt k v
  | .inr x, v => Value.isStrOf x v
noncomputable def keyH (w : World) : Key → Int
  | .inl k => hashInt k
  | .inr x => hashStr w x
theorem keyIs_shape : ∀ {k : Key} {v : Value}, keyIs k v = true → (∃ i t, k = Sum.inl i ∧ v = Value.int i t) ∨ (∃ x t, k = Sum.inr x ∧ v = Value.str x t)
  | .inl i, v, h => by
    obtain ⟨t, e⟩ := Value.isInt_shape (k := i) (v := v) h
    exact .inl ⟨i, t, rfl, e⟩
  | .inr x, v, h => by
    obtain ⟨t, e⟩ := Value.isStrOf_shape (x := x) (v := v) h
    exact .inr ⟨x, t, rfl, e⟩
theorem keyIs_int (i : Int) (t : Tok) : keyIs (.inl i) (.int i t) = true := by simp [keyIs, Value.isInt]
theorem keyIs_str (x : Str) (t : Tok) : keyIs (.inr x) (.str x t) = true := by simp [keyIs, Value.isStrOf]
theorem key_ll (a b : Int) : decide ((Sum.inl a : Key) = Sum.inl b) = (a == b) := by
  by_cases e : a = b
  · subst e; simp
  · have h : ¬ (Sum.inl a : Key) = Sum.inl b := fun q => e (Sum.inl.inj q)
    rw [decide_eq_false h]
    exact (beq_eq_false_iff_ne.mpr e).symm
theorem key_rr (a b : Str) : decide ((Sum.inr a : Key) = Sum.inr b) = decide (a = b) := by
  by_cases e : a = b
  · subst e; simp
  · have h : ¬ (Sum.inr a : Key) = Sum.inr b := fun q => e (Sum.inr.inj q)
    rw [decide_eq_false h, decide_eq_false e]
theorem key_lr (a : Int) (b : Str) : decide ((Sum.inl a : Key) = Sum.inr b) = false := decide_eq_false (fun q => nomatch q)
theorem key_rl (a : Str) (b : Int) : decide ((Sum.inr a : Key) = Sum.inl b) = false := decide_eq_false (fun q => nomatch q)
noncomputable def mixKind (prog : Program) (w : World) : PySem.KeyKind prog w Key where
  is := keyIs
  hash := keyH w
  inj := fun v a b ha hb => by
    rcases keyIs_shape ha with ⟨i, t, rfl, rfl⟩ | ⟨x, t, rfl, rfl⟩
    · rcases keyIs_shape hb with ⟨j, u, rfl, e⟩ | ⟨y, u, rfl, e⟩
      · injection e with e1 _; rw [e1]
      · exact nomatch e
    · rcases keyIs_shape hb with ⟨j, u, rfl, e⟩ | ⟨y, u, rfl, e⟩
      · exact nomatch e
      · injection e with e1 _; rw [e1]
  byValue := fun k v h => by
    rcases keyIs_shape h with ⟨i, t, rfl, rfl⟩ | ⟨x, t, rfl, rfl⟩ <;> rfl
  pyHash := fun hv h => by
    rcases keyIs_shape hv with ⟨i, t, rfl, rfl⟩ | ⟨x, t, rfl, rfl⟩
    · exact wpAny_pyHash_int h
    · exact wpAny_pyHash_str h
  eqBool := fun hu hv h => by
    rcases keyIs_shape hu with ⟨i, t, rfl, rfl⟩ | ⟨x, t, rfl, rfl⟩
    · rcases keyIs_shape hv with ⟨j, u, rfl, rfl⟩ | ⟨y, u, rfl, rfl⟩
      · rw [key_ll] at h; exact wpAny_eqBool_int h
      · rw [key_lr] at h; exact SeqAt.EqAt.int_str i t y u _ _ _ _ h
    · rcases keyIs_shape hv with ⟨j, u, rfl, rfl⟩ | ⟨y, u, rfl, rfl⟩
      · rw [key_rl] at h; exact SeqAt.EqAt.str_int x t j u _ _ _ _ h
      · rw [key_rr] at h; exact wpAny_eqBool_str h
  «strs» := fun k x t v h => by
    rcases keyIs_shape h with ⟨i, u, rfl, e⟩ | ⟨y, u, rfl, e⟩
    · exact nomatch e
    · injection e with e1 _
      subst e1
      cases v <;> rfl
theorem mixKind_int (prog : Program) (w : World) (i : Int) (t : Tok) : (mixKind prog w).is (.inl i) (.int i t) = true := keyIs_int i t
theorem mixKind_str (prog : Program) (w : World) (x : Str) (t : Tok) : (mixKind prog w).is (.inr x) (.str x t) = true := keyIs_str x t
end L2
namespace L2
open PySem PySem.Spec PyProof.Rows
inductive V where
  | non | bl (b : Bool) | int (i : Int) | str (x : Str) | byt (b : Array UInt8) | flt (b : UInt64) | ref (a : Addr) | ty (n : String)
  deriving DecidableEq
noncomputable def RelV : V → Value → Prop
  | .non, u => u = Value.none
  | .bl b, u => u = Value.bool b
  | .int i, u => ∃ t, u = Value.int i t
  | .str x, u => ∃ t, u = Value.str x t
  | .byt b, u => ∃ t, u = Value.bytes b t
  | .flt b, u => ∃ t, u = Value.float b t
  | .ref a, u => u = Value.ref a
  | .ty n, u => u = Value.type n
noncomputable abbrev Vals : List V → List Value → Prop := Paired RelV
theorem Vals.length {xs : List V} {us : List Value} (r : Vals xs us) : xs.length = us.length := Paired.length r
theorem Vals.get : ∀ {xs : List V} {us : List Value} {i : Nat} {x : V}, Vals xs us → xs[i]? = some x → ∃ u, us[i]? = some u ∧ RelV x u
  | _, _, _, _, .nil, e => by simp at e
  | _, _, 0, _, .cons r _, e => by simp at e; subst e; exact ⟨_, rfl, r⟩
  | _, _, i + 1, x, .cons _ t, e => by
    obtain ⟨u, h1, h2⟩ := Vals.get (i := i) (x := x) t (by simpa using e)
    exact ⟨u, by simpa using h1, h2⟩
theorem Vals.set {x : V} {u : Value} (r : RelV x u) : ∀ {xs : List V} {us : List Value} (i : Nat), Vals xs us → Vals (xs.set i x) (us.set i u)
  | _, _, _, .nil => .nil
  | _, _, 0, .cons _ t => .cons r t
  | _, _, i + 1, .cons q t => .cons q (Vals.set r i t)
theorem Vals.append : ∀ {xs ys : List V} {us ws : List Value}, Vals xs us → Vals ys ws → Vals (xs ++ ys) (us ++ ws)
  | _, _, _, _, .nil, s => s
  | _, _, _, _, .cons r t, s => .cons r (Vals.append t s)
theorem Vals.take : ∀ {xs : List V} {us : List Value} (n : Nat), Vals xs us → Vals (xs.take n) (us.take n)
  | _, _, 0, _ => .nil
  | _, _, _ + 1, .nil => .nil
  | _, _, n + 1, .cons r t => .cons r (Vals.take n t)
theorem Vals.drop : ∀ {xs : List V} {us : List Value} (n : Nat), Vals xs us → Vals (xs.drop n) (us.drop n)
  | _, _, 0, r => r
  | _, _, _ + 1, .nil => .nil
  | _, _, n + 1, .cons _ t => Vals.drop n t
noncomputable def RelO : Option V → Option Value → Prop
  | some v, some u => RelV v u
  | none, none => True
  | _, _ => False
noncomputable def KV {κ : Type} : List (κ × V) → List (κ × Value) → Prop := Paired fun (p : κ × V) (q : κ × Value) => p.1 = q.1 ∧ RelV p.2 q.2
noncomputable def kV : Key → V
  | .inl i => .int i
  | .inr x => .str x
inductive HO where
  | lst (xs : List V)
  | tup (xs : List V)
  | dK (kvs : List (Key × V)) | dT (kvs : List (List Key × V))
  | set (S : Int → Bool) (n : Nat)
  | ins (C dx : Addr) (fs : List (Str × V))
  | own (x : Addr)
  | xd (fs : List (Str × V))
  | met (f x : Addr)
  | rng (lo hi : Int)
  | frz (o : Obj) (u : HO)
  | tbl (ps : Array Value)
  | ext (φ : Heap → Prop)
noncomputable abbrev Hp := Addr → Option HO
noncomputable def upd (H : Hp) (a : Addr) (o : HO) : Hp := fun b => if b = a then some o else H b
theorem upd_same {H : Hp} {a : Addr} {o : HO} : upd H a o a = some o := by unfold upd; rw [if_pos rfl]
theorem upd_ne {H : Hp} {a b : Addr} {o : HO} (h : b ≠ a) : upd H a o b = H b := by unfold upd; rw [if_neg h]
theorem ne_of {H : Hp} {a b : Addr} {o u : HO} (h : H a = some o) (h' : H b = some u) (d : o ≠ u) : a ≠ b := by
  intro e; subst e; rw [h] at h'; exact d (Option.some.inj h')
theorem ne_of_none {H : Hp} {a b : Addr} {o : HO} (h : H a = some o) (h' : H b = none) : a ≠ b := by
  intro e; subst e; rw [h] at h'; cases h'
section
variable (P : Program) (w : World)
noncomputable def ObjOk (H : Hp) (h : Heap) (a : Addr) : HO → Prop
  | .lst xs => xs.length ≤ sizeLine ∧ ∃ (its : List Value) (n : Nat), Vals xs its ∧ h.get? a = some { cls := .type "list", data := .seq its.toArray n }
  | .tup xs => xs.length ≤ sizeLine ∧ ∃ its : List Value, Vals xs its ∧ IsTup h a its.toArray
  | .dK kvs => kvs.length ≤ sizeLine ∧ (a == sysModules) = false ∧ ∃ vs, KV kvs vs ∧ h.DictOf (mixKind P w) a vs
  | .dT kvs => kvs.length ≤ sizeLine ∧ (a == sysModules) = false ∧ ∃ xs : List (List Key × Addr × Value),
      Paired (fun (p : List Key × V) (q : List Key × Addr × Value) => p.1 = q.1 ∧ H q.2.1 = some (.tup (p.1.map kV)) ∧ RelV p.2 q.2.2) kvs xs ∧
      ∃ o es ep, h.get? a = some o ∧ o.ExactDict ∧ o.data = .dict es ep ∧ es.toList = xs.map (entryOfKey (tupleKind (mixKind P w))) ∧ (xs.map (·.1)).Nodup
  | .set S n => h.SetOf (intKind P w) a S n
  | .ins C dx fs => H dx = some (.own a) ∧ fs.length ≤ 1000 ∧ dx ≠ a ∧ h.get? a = some (PySem.W.instObj C dx) ∧
      ∃ mA, h.Ns1 dx mA ∧ (∀ f, RelO (fs.lookup f) (mA f)) ∧ PySem.Within mA (fs.map (·.1))
  | .own _ => ∃ o, h.get? a = some o
  | .xd fs => ∃ mA, h.Ns1 a mA ∧ ∀ f, RelO (fs.lookup f) (mA f)
  | .rng lo hi => ∃ t u v, h.get? a = some { cls := .type "range", data := .fields #[.int lo t, .int hi u, .int 1 v] }
  | .frz o u => h.get? a = some o ∧ ObjOk H h a u
  | .tbl ps => h.get? a = some { cls := .none, data := .fields ps }
  | .met f x => h.get? a = some (PySem.W.methodObj (.ref f) (.ref x))
  | .ext φ => φ h ∧ (∃ o, h.get? a = some o) ∧ ∀ h1 h2 : Heap, φ h1 → (∀ o, h1.get? a = some o → h2.get? a = some o) → φ h2
noncomputable def HOk (H : Hp) (h : Heap) : Prop := ∀ a o, H a = some o → ObjOk P w H h a o
end
section
variable {P : Program} {w : World} {H H' : Hp} {h h' : Heap} {a : Addr} {o : HO}
theorem ObjOk.lt (x : ObjOk P w H h a o) : a < h.objs.size := by
  cases o with
  | lst xs => obtain ⟨_, _, _, _, e⟩ := x; exact Heap.lt_size e
  | tup xs => obtain ⟨_, _, _, p⟩ := x; exact p.lt
  | dK kvs => obtain ⟨_, _, _, _, o, _, _, e, _⟩ := x; exact Heap.lt_size e
  | dT kvs => obtain ⟨_, _, _, _, o, _, _, e, _⟩ := x; exact Heap.lt_size e
  | set S n => obtain ⟨o, _, _, _, e, _⟩ := x; exact Heap.lt_size e
  | ins C dx fs => obtain ⟨_, _, _, e, _⟩ := x; exact Heap.lt_size e
  | own y => obtain ⟨_, e⟩ := x; exact Heap.lt_size e
  | xd fs => obtain ⟨_, ⟨_, _, _, e, _⟩, _⟩ := x; exact Heap.lt_size e
  | rng lo hi => obtain ⟨_, _, _, e⟩ := x; exact Heap.lt_size e
  | frz ob u => obtain ⟨e, _⟩ := x; exact Heap.lt_size e
  | tbl ps => exact Heap.lt_size (show h.get? a = some _ from x)
  | met f y => exact Heap.lt_size (show h.get? a = some _ from x)
  | ext φ => obtain ⟨_, ⟨_, e⟩, _⟩ := x; exact Heap.lt_size e
theorem Paired.mapP {α β : Type} {F G : α → β → Prop} : ∀ {l₁ : List α} {l₂ : List β}, Paired F l₁ l₂ → (∀ a b, F a b → G a b) → Paired G l₁ l₂
  | _, _, .nil, _ => .nil
  | _, _, .cons r t, f => .cons (f _ _ r) (Paired.mapP t f)
theorem ObjOk.stay (x : ObjOk P w H h a o) (k : ∀ b u, (b = a ∨ H b = some (.own a)) → h.get? b = some u → h'.get? b = some u)
    (ho : ∀ b, H b = some (.own a) → H' b = some (.own a)) (ht : ∀ b xs, H b = some (.tup xs) → H' b = some (.tup xs)) : ObjOk P w H' h' a o := by
  induction o with
  | lst xs => obtain ⟨z, its, n, r, e⟩ := x; exact ⟨z, its, n, r, k _ _ (.inl rfl) e⟩
  | tup xs => obtain ⟨z, its, r, ob, e, c⟩ := x; exact ⟨z, its, r, ob, k _ _ (.inl rfl) e, c⟩
  | dK kvs => obtain ⟨z, y, vs, r, ob, es, ep, e, c⟩ := x; exact ⟨z, y, vs, r, ob, es, ep, k _ _ (.inl rfl) e, c⟩
  | dT kvs =>
    obtain ⟨z, y, xs, r, ob, es, ep, e, c⟩ := x
    exact ⟨z, y, xs, Paired.mapP r fun p q z => ⟨z.1, ht _ _ z.2.1, z.2.2⟩, ob, es, ep, k _ _ (.inl rfl) e, c⟩
  | set S n => obtain ⟨ob, es, ep, t, e, c⟩ := x; exact ⟨ob, es, ep, t, k _ _ (.inl rfl) e, c⟩
  | ins C dx fs =>
    obtain ⟨d, z, ne, e, mA, ⟨od, es, ep, e2, c⟩, r⟩ := x
    exact ⟨ho _ d, z, ne, k _ _ (.inl rfl) e, mA, ⟨od, es, ep, k _ _ (.inr d) e2, c⟩, r⟩
  | own y => obtain ⟨ob, e⟩ := x; exact ⟨ob, k _ _ (.inl rfl) e⟩
  | xd fs => obtain ⟨mA, ⟨od, es, ep, e, c⟩, r⟩ := x; exact ⟨mA, ⟨od, es, ep, k _ _ (.inl rfl) e, c⟩, r⟩
  | rng lo hi => obtain ⟨t, u, v, e⟩ := x; exact ⟨t, u, v, k _ _ (.inl rfl) e⟩
  | frz ob u ih => obtain ⟨e, q⟩ := x; exact ⟨k _ _ (.inl rfl) e, ih q⟩
  | tbl ps =>
    have e : h.get? a = some { cls := .none, data := .fields ps } := x
    show h'.get? a = some { cls := .none, data := .fields ps }
    exact k a _ (.inl rfl) e
  | met f y =>
    have e : h.get? a = some (PySem.W.methodObj (.ref f) (.ref y)) := x
    show h'.get? a = some (PySem.W.methodObj (.ref f) (.ref y))
    exact k a _ (.inl rfl) e
  | ext φ => obtain ⟨p, ⟨o, e⟩, st⟩ := x; exact ⟨st _ _ p fun o q => k _ _ (.inl rfl) q, ⟨o, k _ _ (.inl rfl) e⟩, st⟩
theorem HOk.lt (x : HOk P w H h) (e : H a = some o) : a < h.objs.size := (x a o e).lt
theorem HOk.fresh (x : HOk P w H h) (e : h.objs.size ≤ a) : H a = none := by
  cases q : H a with
  | none => rfl
  | some u => exact absurd (Nat.lt_of_lt_of_le (x.lt q) e) (Nat.lt_irrefl _)
theorem HOk.kept (x : HOk P w H h) (k : ∀ b u, h.get? b = some u → h'.get? b = some u) : HOk P w H h' := fun a o e =>
  (x a o e).stay (fun b u _ q => k b u q) (fun _ q => q) fun _ _ q => q
theorem HOk.laid (x : HOk P w H h) (k : ∀ b u, h.get? b = some u → h'.get? b = some u) (hp : h.objs.size ≤ a) (new : ObjOk P w (upd H a o) h' a o) : HOk P w (upd H a o) h' := fun b u e => by
  have hn := x.fresh hp
  by_cases hb : b = a
  · subst hb; rw [upd_same] at e; cases e; exact new
  · rw [upd_ne hb] at e
    exact (x b u e).stay (fun c v _ q => k c v q) (fun c q => by rw [upd_ne (ne_of_none q hn)]; exact q) fun c xs q => by rw [upd_ne (ne_of_none q hn)]; exact q
end
noncomputable def Rd (H : Hp) (a : Addr) (u : HO) : Prop := H a = some u ∨ ∃ o, H a = some (.frz o u)
theorem Rd.ok {P : Program} {w : World} {H : Hp} {h : Heap} {a : Addr} {u : HO} (r : Rd H a u) (x : HOk P w H h) : ObjOk P w H h a u := by
  rcases r with r | ⟨o, r⟩
  · exact x a u r
  · obtain ⟨_, q⟩ := x a _ r
    exact q
noncomputable def Mut : Option HO → Prop
  | some (.lst _) => True
  | some (.dK _) => True
  | some (.dT _) => True
  | some (.set _ _) => True
  | some (.ins _ _ _) => True
  | some (.ext _) => True
  | _ => False
section
variable {P : Program} {w : World} {H : Hp} {h h' : Heap} {x e : Addr} {o' : HO}
theorem HOk.write (ok : HOk P w H h) (mu : Mut (H x)) (he : e = x ∨ H e = some (.own x)) (k : ∀ b u, b ≠ e → h.get? b = some u → h'.get? b = some u) (heo : ∃ u, h'.get? e = some u)
    (new : ObjOk P w (upd H x o') h' x o') : HOk P w (upd H x o') h' := fun b u q => by
  have nown : ∀ c y, H c = some (.own y) → c ≠ x := fun c y r z => by subst z; rw [r] at mu; exact mu
  have ntup : ∀ c xs, H c = some (.tup xs) → c ≠ x := fun c xs r z => by subst z; rw [r] at mu; exact mu
  by_cases hb : b = x
  · subst hb; rw [upd_same] at q; cases q; exact new
  · rw [upd_ne hb] at q
    by_cases hbe : b = e
    · have q' : H b = some (.own x) := by
        rcases he with z | z
        · exact absurd (hbe.trans z) hb
        · rw [hbe]; exact z
      rw [q] at q'; cases q'
      obtain ⟨v, hv⟩ := heo
      exact ⟨v, by rw [hbe]; exact hv⟩
    · refine (ok b u q).stay (fun c v hc r => k c v ?_ r) (fun c r => by rw [upd_ne (nown c b r)]; exact r) fun c xs r => by rw [upd_ne (ntup c xs r)]; exact r
      rcases hc with rfl | hc
      · exact hbe
      · rintro rfl
        rcases he with z | z
        · exact nown c b hc z
        · rw [hc] at z; cases z; exact hb rfl
end
structure Un (fs ex : List Addr) (H H' : Hp) (h h' : Heap) : Prop where
  keep : ∀ b o, h.get? b = some o → H b = none → b ∉ fs → b ∉ ex → h'.get? b = some o
  slot : ∀ b o, h.get? b = some o → H b = none → b ∈ fs → b ∉ ex → ∃ sl, h'.get? b = some { o with slots := sl }
  free : ∀ b o, h.get? b = some o → H b = none → b ∉ ex → H' b = none
  there : ∀ b o, h.get? b = some o → b ∉ ex → ∃ o', h'.get? b = some o'
  tups : ∀ b xs, H b = some (.tup xs) → H' b = some (.tup xs)
  frzs : ∀ b o u, H b = some (.frz o u) → H' b = some (.frz o u)
  tbls : ∀ b ps, H b = some (.tbl ps) → ∃ more, H' b = some (.tbl (ps ++ more))
section
variable {fs fs' ex ex' : List Addr} {H H1 H2 : Hp} {h h1 h2 h' : Heap} {a x e : Addr} {o : HO}
theorem Un.any (u : Un fs ex H H1 h h1) {b : Addr} {ob : Obj} (q : h.get? b = some ob) (n : H b = none) (hx : b ∉ ex) : ∃ sl, h1.get? b = some { ob with slots := sl } := by
  by_cases hb : b ∈ fs
  · exact u.slot b ob q n hb hx
  · exact ⟨ob.slots, u.keep b ob q n hb hx⟩
theorem Un.trans (a : Un fs ex H H1 h h1) (b : Un fs ex H1 H2 h1 h2) : Un fs ex H H2 h h2 where
  keep := fun c ob q n hc hx => b.keep c ob (a.keep c ob q n hc hx) (a.free c ob q n hx) hc hx
  slot := fun c ob q n hc hx => by
    obtain ⟨sl, e1⟩ := a.slot c ob q n hc hx
    obtain ⟨sl', e2⟩ := b.slot c _ e1 (a.free c ob q n hx) hc hx
    exact ⟨sl', e2⟩
  free := fun c ob q n hx => by
    obtain ⟨o', e1⟩ := a.there c ob q hx
    exact b.free c o' e1 (a.free c ob q n hx) hx
  there := fun c ob q hx => by
    obtain ⟨o', e1⟩ := a.there c ob q hx
    exact b.there c o' e1 hx
  tups := fun c xs q => b.tups c xs (a.tups c xs q)
  frzs := fun c ob xs q => b.frzs c ob xs (a.frzs c ob xs q)
  tbls := fun c ps q => by
    obtain ⟨m1, e1⟩ := a.tbls c ps q
    obtain ⟨m2, e2⟩ := b.tbls c _ e1
    exact ⟨m1 ++ m2, by rw [e2, Array.append_assoc]⟩
theorem Un.kept (k : ∀ b u, h.get? b = some u → h'.get? b = some u) : Un fs ex H H h h' :=
  ⟨fun b ob q _ _ _ => k b ob q, fun b ob q _ _ _ => ⟨ob.slots, k b ob q⟩, fun _ _ _ n _ => n, fun b ob q _ => ⟨ob, k b ob q⟩, fun _ _ q => q, fun _ _ _ q => q, fun _ ps q => ⟨#[], by rw [q]; simp⟩⟩
theorem Un.refl : Un fs ex H H h h := Un.kept fun _ _ q => q
theorem Un.laid (k : ∀ b u, h.get? b = some u → h'.get? b = some u) (hp : h.objs.size ≤ a) (hn : H a = none) : Un fs ex H (upd H a o) h h' where
  keep := fun b u q _ _ _ => k b u q
  slot := fun b u q _ _ _ => ⟨u.slots, k b u q⟩
  free := fun b u q n _ => by rw [upd_ne (Nat.ne_of_lt (Nat.lt_of_lt_of_le (Heap.lt_size q) hp))]; exact n
  there := fun b u q _ => ⟨u, k b u q⟩
  tups := fun b xs q => by rw [upd_ne (ne_of_none q hn)]; exact q
  frzs := fun b u xs q => by rw [upd_ne (ne_of_none q hn)]; exact q
  tbls := fun b ps q => ⟨#[], by rw [upd_ne (ne_of_none q hn), q]; simp⟩
theorem Un.write (mu : Mut (H x)) (he : e = x ∨ H e = some (.own x)) (k : ∀ b u, b ≠ e → h.get? b = some u → h'.get? b = some u) (heo : ∃ u, h'.get? e = some u) : Un fs ex H (upd H x o) h h' := by
  have hx : ∀ b, H b = none → b ≠ x := fun b n z => by subst z; rw [n] at mu; exact mu
  have hb : ∀ b, H b = none → b ≠ e := fun b n z => by
    subst z
    rcases he with r | r
    · exact hx b n r
    · rw [n] at r; cases r
  have hm : ∀ b u, H b = some u → ¬ Mut (some u) → b ≠ x := fun b u q nm z => by subst z; rw [q] at mu; exact nm mu
  refine ⟨fun b u q n _ _ => k b u (hb b n) q, fun b u q n _ _ => ⟨u.slots, k b u (hb b n) q⟩, fun b u q n _ => by rw [upd_ne (hx b n)]; exact n, fun b u q _ => ?_,
    fun b xs q => by rw [upd_ne (hm b _ q fun z => z)]; exact q, fun b u xs q => by rw [upd_ne (hm b _ q fun z => z)]; exact q, fun b ps q => ⟨#[], by rw [upd_ne (hm b _ q fun z => z), q]; simp⟩⟩
  by_cases hbe : b = e
  · subst hbe; exact heo
  · exact ⟨u, k b u hbe q⟩
end
noncomputable def trk (h : Heap) (H : Hp) : List Addr := (List.range h.objs.size).filter fun a => (H a).isSome
noncomputable def hidT (h : Heap) (H : Hp) : Heap := PySem.W.hideAll h (trk h H)
theorem hidT_size (h : Heap) (H : Hp) : (hidT h H).objs.size = h.objs.size := PySem.W.hideAll_size _ _
theorem hidT_get {h : Heap} {H : Hp} {b : Addr} {o : Obj} (e : h.get? b = some o) (n : H b = none) : (hidT h H).get? b = some o :=
  PySem.W.hideAll_get _ e fun hm => by
    have q : (H b).isSome = true := (List.mem_filter.mp hm).2
    rw [n] at q; simp at q
theorem of_hidT {h : Heap} {H : Hp} {b : Addr} {o : Obj} (e : (hidT h H).get? b = some o) : h.get? b = some o ∧ H b = none := by
  have e' : h.get? b = some o := PySem.W.of_hideAll (trk h H) e
  refine ⟨e', ?_⟩
  cases q : H b with
  | none => rfl
  | some x =>
    have hm : b ∈ trk h H := List.mem_filter.mpr ⟨List.mem_range.mpr (Heap.lt_size e'), by simp [q]⟩
    have z : (hidT h H).get? b = none := PySem.W.hideAll_none (trk h H) hm
    rw [z] at e; cases e
noncomputable def allNews (g h : Heap) (L : Addr) : List (Addr × Obj) := (List.range h.objs.size).filterMap fun a => if a = L ∨ (g.get? a).isSome = true then none else (h.get? a).map fun o => (a, o)
noncomputable def rest (g h : Heap) (L d : Addr) : List (Addr × Obj) := (allNews g h L).filter fun p => decide (p.1 ≠ d)
end L2
namespace L2
open PySem PySem.Spec PyProof.Rows
structure Mod (K : PySem.W.Frag) (mg : Str → Option Value) (base : Heap) : Prop where
  kin : K.In base
  glob : base.Ns mainGlobals mg
  blt : ∃ mb, base.Ns builtinsNs mb ∧ ∀ x : Str, x ≠ "__name__" → mb x = bootBuiltins x
  nolimit : base.NoLimit
structure Cx where
  prog : Program
  w : World
  K : PySem.W.Frag
  mg : Str → Option Value
  base : Heap
  A : Around
  N : List Str
  s₀ : Shared
  H₀ : Hp
  env : Env
  outer : List Env
  stack : List Env
  ex : List Addr
  fn : Str → Bool
  calm : Bool
  pn : List (Addr × Obj)
  xe : Value → Shared → Prop
noncomputable def frs (l : List Env) : List Addr := l.filterMap (·.frame)
noncomputable abbrev Cx.fs (X : Cx) : List Addr := frs X.outer
noncomputable def Vis (sc : Scope) (x : Str) : Prop := sc.names.lookup x = some .local ∨ sc.names.lookup x = some .cell ∨ sc.names.lookup x = some .free
noncomputable def Loc (sc : Scope) (x : Str) : Prop := sc.names.lookup x = some .local ∨ sc.names.lookup x = some .cell
noncomputable def Look (env : Env) (h : Heap) (m : Str → Option Value) (x : Str) (u : Value) : Prop :=
  (env.kindOf x = some .local ∧ m x = some u) ∨ ((env.kindOf x = some .cell ∨ env.kindOf x = some .free) ∧ ∃ c, env.cells.lookup x = some c ∧ h.IsCell c (some u))
structure Cx.Ok (X : Cx) : Prop where
  mod : Mod X.K X.mg X.base
  kind : X.env.scope.kind = .function
  glob : X.env.globals = mainGlobals
  blt : X.env.builtins = builtinsNs
  above : X.s₀.heap.objs.size ≤ X.env.locals
  inj : ∀ x y c, X.env.cells.lookup x = some c → X.env.cells.lookup y = some c → x = y
  has : ∀ x, (X.env.kindOf x = some .cell ∨ X.env.kindOf x = some .free) → ∃ c, X.env.cells.lookup x = some c
  cab : ∀ x c, X.fn x = true → X.env.cells.lookup x = some c → X.s₀.heap.objs.size ≤ c
  hd : X.calm = true → X.A.handled = none
  frames : X.A.frames = some X.stack
  stk : X.stack = X.outer ∨ (X.stack = X.env :: X.outer ∧ X.env.frame = some X.env.locals)
  exf : ∀ b ∈ X.ex, b ≠ X.env.locals ∧ ∀ x c, X.env.cells.lookup x = some c → c ≠ b
  bs : ∀ b o, X.base.get? b = some o → X.s₀.heap.get? b = some o ∧ X.H₀ b = none
  bsz : X.base.objs.size ≤ X.s₀.heap.objs.size
  noex : ∀ b o, X.base.get? b = some o → b ∉ X.ex
  exfs : ∀ b ∈ X.ex, b ∉ X.fs
  funs : X.s₀.heap.FunFrames X.base X.outer
  frf : ∀ b ∈ X.fs, X.H₀ b = none
structure Inv (X : Cx) (pins : List (Addr × Obj)) (σ : List (Option V)) (H : Hp) (s : Shared) : Prop where
  ok : X.Ok
  os : s.os = X.s₀.os
  bare : AllBare s.gens
  base : Un X.fs X.ex X.H₀ H X.s₀.heap s.heap
  loc : ∃ m, s.heap.Ns X.env.locals m ∧ ∀ (i : Nat) (x : Str) (v : V), X.N[i]? = some x → σ[i]? = some (some v) → Vis X.env.scope x → ∃ u, RelV v u ∧ Look X.env s.heap m x u
  cell : ∀ x c, X.env.cells.lookup x = some c → ∃ v, s.heap.IsCell c v
  free : H X.env.locals = none
  freeC : ∀ x c, X.env.cells.lookup x = some c → H c = none
  pin : ∀ p ∈ X.pn ++ pins, s.heap.get? p.1 = some p.2 ∧ H p.1 = none ∧ p.1 ≠ X.env.locals ∧ p.1 ∉ X.fs ∧ ∀ v, p.2.data ≠ .cell v
  hok : HOk X.prog X.w H s.heap
  len : σ.length = X.N.length
section
variable {X : Cx} {pins : List (Addr × Obj)} {σ : List (Option V)} {H H' : Hp} {s : Shared} {h' : Heap}
theorem Cx.Ok.nofr (ok : X.Ok) {b : Addr} {o : Obj} (e : X.base.get? b = some o) : b ∉ X.fs := fun hb => by
  have := (ok.funs.mem hb).1
  rw [e] at this; cases this
theorem Inv.bs (I : Inv X pins σ H s) : ∀ b o, X.base.get? b = some o → s.heap.get? b = some o ∧ H b = none := fun b o e =>
  ⟨I.base.keep b o (I.ok.bs b o e).1 (I.ok.bs b o e).2 (I.ok.nofr e) (I.ok.noex b o e), I.base.free b o (I.ok.bs b o e).1 (I.ok.bs b o e).2 (I.ok.noex b o e)⟩
theorem Inv.bk (I : Inv X pins σ H s) : ∀ b o, X.base.get? b = some o → s.heap.get? b = some o := fun b o e => (I.bs b o e).1
theorem Inv.mod (I : Inv X pins σ H s) : Mod X.K X.mg X.base := I.ok.mod
theorem Inv.kIn (I : Inv X pins σ H s) : X.K.In s.heap := I.ok.mod.kin.keeps I.bk
theorem Inv.nolimit (I : Inv X pins σ H s) : s.heap.NoLimit := I.ok.mod.nolimit.keeps I.bk
theorem Inv.lt (I : Inv X pins σ H s) : X.env.locals < s.heap.objs.size := let ⟨_, hn, _⟩ := I.loc; hn.lt
theorem Inv.sz (I : Inv X pins σ H s) : X.s₀.heap.objs.size ≤ s.heap.objs.size := Nat.le_trans I.ok.above (Nat.le_of_lt I.lt)
theorem Inv.nofs (I : Inv X pins σ H s) {a : Addr} (h : s.heap.objs.size ≤ a) : a ∉ X.fs := fun hb => by
  obtain ⟨_, o, ho, _⟩ := I.ok.funs.mem hb
  exact absurd (Nat.lt_of_lt_of_le (Heap.lt_size ho) (Nat.le_trans I.sz h)) (Nat.lt_irrefl _)
theorem Inv.cne (I : Inv X pins σ H s) : ∀ x c, X.env.cells.lookup x = some c → c ≠ X.env.locals := fun x c e z => by
  obtain ⟨v, o, ho, hd⟩ := I.cell x c e
  obtain ⟨m, ⟨o', es, ep, ho', hd', _⟩, _⟩ := I.loc
  rw [z, ho'] at ho; cases ho; rw [hd'] at hd; cases hd
theorem Inv.funs (I : Inv X pins σ H s) : s.heap.FunFrames X.base X.outer := by
  have all : ∀ (l : List Env), (∀ b ∈ frs l, b ∈ X.fs) → X.s₀.heap.FunFrames X.base l → s.heap.FunFrames X.base l := by
    intro l
    induction l with
    | nil => intro _ _; trivial
    | cons env r ih =>
      intro hs hl
      obtain ⟨hk, ⟨L, o, hf, hn, ho, hd⟩, hr⟩ := hl
      have hL : L ∈ X.fs := hs L (by unfold frs; rw [List.filterMap_cons, hf]; exact List.mem_cons_self)
      obtain ⟨sl, e⟩ := I.base.slot L o ho (I.ok.frf L hL) hL fun z => I.ok.exfs L z hL
      exact ⟨hk, ⟨L, _, hf, hn, e, hd⟩, ih (fun b hb => hs b (by unfold frs; rw [List.filterMap_cons, hf]; exact List.mem_cons_of_mem _ hb)) hr⟩
  exact all X.outer (fun _ hb => hb) I.ok.funs
theorem Inv.stack (I : Inv X pins σ H s) : s.heap.FunFrames X.base X.stack := by
  rcases I.ok.stk with e | ⟨e, hf⟩
  · rw [e]; exact I.funs
  · rw [e]
    obtain ⟨m, hn, _⟩ := I.loc
    refine .cons (by rw [I.ok.kind]; decide) hf hn ?_ I.funs
    exact Heap.get?_none_of_le (Nat.le_trans I.ok.bsz I.ok.above)
theorem Inv.stkSub (I : Inv X pins σ H s) : ∀ b ∈ frs X.stack, b ∈ X.env.locals :: X.fs := fun b hb => by
  rcases I.ok.stk with e | ⟨e, hf⟩
  · rw [e] at hb; exact List.mem_cons_of_mem _ hb
  · rw [e] at hb
    unfold frs at hb
    rw [List.filterMap_cons, hf] at hb
    exact hb
theorem Inv.stkFree (I : Inv X pins σ H s) : ∀ b ∈ frs X.stack, H b = none := fun b hb => by
  rcases List.mem_cons.mp (I.stkSub b hb) with e | hb
  · rw [e]; exact I.free
  · obtain ⟨_, o, ho, _⟩ := I.ok.funs.mem hb
    exact I.base.free b o ho (I.ok.frf b hb) fun z => I.ok.exfs b z hb
theorem Inv.step {g' : Array GenState} {t' : Nat} {d' : Drawn} {ch : List Addr} (I : Inv X pins σ H s)
    (hch : ∀ b ∈ ch, (b ∈ X.ex ∨ X.s₀.heap.objs.size ≤ b) ∧ b ≠ X.env.locals ∧ (∀ x c, X.env.cells.lookup x = some c → c ≠ b) ∧ ∀ p ∈ X.pn ++ pins, p.1 ≠ b)
    (keep : ∀ b o, b ≠ X.env.locals → b ∉ X.fs → b ∉ ch → s.heap.get? b = some o → H b = none → h'.get? b = some o)
    (slot : ∀ b o, b ≠ X.env.locals → b ∈ X.fs → b ∉ ch → s.heap.get? b = some o → H b = none → ∃ sl, h'.get? b = some { o with slots := sl }) (free : ∀ b o, b ∉ ch → s.heap.get? b = some o → H b = none → H' b = none)
    (there : ∀ b o, b ∉ ch → s.heap.get? b = some o → ∃ o', h'.get? b = some o')
    (tups : ∀ b xs, H b = some (.tup xs) → H' b = some (.tup xs)) (frzs : ∀ b o u, H b = some (.frz o u) → H' b = some (.frz o u)) (tbls : ∀ b ps, H b = some (.tbl ps) → ∃ more, H' b = some (.tbl (ps ++ more)))
    (ns : ∀ m, s.heap.Ns X.env.locals m → h'.Ns X.env.locals m) (hok : HOk X.prog X.w H' h') (hg : AllBare g') :
    Inv X pins σ H' { s with heap := h', gens := g', drawn := d', toks := t' } := by
  have neL : ∀ b o, X.s₀.heap.get? b = some o → b ≠ X.env.locals := fun b o e => Nat.ne_of_lt (Nat.lt_of_lt_of_le (Heap.lt_size e) I.ok.above)
  have neC : ∀ b o, X.s₀.heap.get? b = some o → b ∉ X.ex → b ∉ ch := fun b o e hx hb => by
    rcases (hch b hb).1 with z | z
    · exact hx z
    · exact absurd (Nat.lt_of_lt_of_le (Heap.lt_size e) z) (Nat.lt_irrefl _)
  have cellK : ∀ x c, X.env.cells.lookup x = some c → ∀ v, s.heap.IsCell c v → h'.IsCell c v := fun x c e v ⟨o, ho, hd⟩ => by
    have nch : c ∉ ch := fun z => (hch c z).2.2.1 x c e rfl
    by_cases hc : c ∈ X.fs
    · obtain ⟨sl, q⟩ := slot c o (I.cne x c e) hc nch ho (I.freeC x c e)
      exact ⟨_, q, hd⟩
    · exact ⟨o, keep c o (I.cne x c e) hc nch ho (I.freeC x c e), hd⟩
  refine ⟨I.ok, I.os, hg, ⟨fun b o e n hb hx => ?_, fun b o e n hb hx => ?_, fun b o e n hx => ?_, fun b o e hx => ?_, fun b xs e => tups b xs (I.base.tups b xs e), fun b o xs e => frzs b o xs (I.base.frzs b o xs e), fun b ps e => ?_⟩, ?_, fun x c e => ?_, ?_, fun x c e => ?_, fun p hp => ?_, hok, I.len⟩
  · exact keep b o (neL b o e) hb (neC b o e hx) (I.base.keep b o e n hb hx) (I.base.free b o e n hx)
  · obtain ⟨sl, e1⟩ := I.base.slot b o e n hb hx
    obtain ⟨sl', e2⟩ := slot b _ (neL b o e) hb (neC b o e hx) e1 (I.base.free b o e n hx)
    exact ⟨sl', e2⟩
  · obtain ⟨o', e1⟩ := I.base.there b o e hx
    exact free b o' (neC b o e hx) e1 (I.base.free b o e n hx)
  · obtain ⟨o', e1⟩ := I.base.there b o e hx
    exact there b o' (neC b o e hx) e1
  · obtain ⟨m1, e1⟩ := I.base.tbls b ps e
    obtain ⟨m2, e2⟩ := tbls b _ e1
    exact ⟨m1 ++ m2, by rw [e2, Array.append_assoc]⟩
  · obtain ⟨m, hn, hl⟩ := I.loc
    refine ⟨m, ns m hn, fun i x v e1 e2 e3 => ?_⟩
    obtain ⟨u, r, l⟩ := hl i x v e1 e2 e3
    refine ⟨u, r, ?_⟩
    rcases l with l | ⟨k, c, e, z⟩
    · exact .inl l
    · exact .inr ⟨k, c, e, cellK x c e _ z⟩
  · obtain ⟨v, z⟩ := I.cell x c e
    exact ⟨v, cellK x c e v z⟩
  · obtain ⟨m, ⟨o, _, _, ho, _⟩, _⟩ := I.loc
    exact free _ o (fun z => (hch _ z).2.1 rfl) ho I.free
  · obtain ⟨v, o, ho, hd⟩ := I.cell x c e
    exact free c o (fun z => (hch c z).2.2.1 x c e rfl) ho (I.freeC x c e)
  · obtain ⟨e, n, ne, nf, d⟩ := I.pin p hp
    have nch : p.1 ∉ ch := fun z => (hch p.1 z).2.2.2 p hp rfl
    exact ⟨keep p.1 p.2 ne nf nch e n, free p.1 p.2 nch e n, ne, nf, d⟩
theorem Inv.un {t' : Nat} (I : Inv X pins σ H s) (u : Un X.fs [] H H' s.heap h') (hok : HOk X.prog X.w H' h') : Inv X pins σ H' { s with heap := h', toks := t' } := by
  obtain ⟨m, ⟨o, es, ep, ho, r⟩, _⟩ := id I.loc
  obtain ⟨sl, hL⟩ := u.any ho I.free (by simp)
  exact I.step (g' := s.gens) (d' := s.drawn) (ch := []) (fun _ z => nomatch z) (fun b o _ hb _ e n => u.keep b o e n hb (by simp)) (fun b o _ hb _ e n => u.slot b o e n hb (by simp)) (fun b o _ e n => u.free b o e n (by simp)) (fun b o _ e => u.there b o e (by simp)) u.tups u.frzs u.tbls (fun m' hm => by
    obtain ⟨o', es', ep', ho', r'⟩ := hm
    rw [ho] at ho'; cases ho'
    exact ⟨_, es', ep', hL, r'⟩) hok I.bare
theorem Inv.call {g' : Array GenState} {t' : Nat} {d' : Drawn} {ch : List Addr} (I : Inv X pins σ H s) (u : Un (frs X.stack) ch H H' s.heap h') (hok : HOk X.prog X.w H' h') (hg : AllBare g')
    (hch : ∀ b ∈ ch, (b ∈ X.ex ∨ X.s₀.heap.objs.size ≤ b) ∧ b ≠ X.env.locals ∧ (∀ x c, X.env.cells.lookup x = some c → c ≠ b) ∧ ∀ p ∈ X.pn ++ pins, p.1 ≠ b) :
    Inv X pins σ H' { s with heap := h', gens := g', drawn := d', toks := t' } := by
  obtain ⟨m, ⟨o, es, ep, ho, r⟩, _⟩ := id I.loc
  obtain ⟨sl, hL⟩ := u.any ho I.free fun z => (hch _ z).2.1 rfl
  exact I.step (ch := ch) hch (fun b o hL hb hc e n => u.keep b o e n (fun z => (List.mem_cons.mp (I.stkSub b z)).elim hL hb) hc) (fun b o _ _ hc e n => u.any e n hc) (fun b o hc e n => u.free b o e n hc) (fun b o hc e => u.there b o e hc) u.tups u.frzs u.tbls (fun m' hm => by
    obtain ⟨o', es', ep', ho', r'⟩ := hm
    rw [ho] at ho'; cases ho'
    exact ⟨_, es', ep', hL, r'⟩) hok hg
theorem Inv.turned {t' : Nat} {it : Addr} (I : Inv X pins σ H s) (k : ∀ b o, b ≠ it → s.heap.get? b = some o → h'.get? b = some o) (hn : H it = none) (hL : it ≠ X.env.locals)
    (h1 : it ∈ X.ex ∨ X.s₀.heap.objs.size ≤ it) (h2 : ∀ x c, X.env.cells.lookup x = some c → c ≠ it) (h3 : ∀ p ∈ X.pn ++ pins, p.1 ≠ it) : Inv X pins σ H { s with heap := h', toks := t' } := by
  have nit : ∀ b u, H b = some u → b ≠ it := fun b u e z => by rw [z, hn] at e; cases e
  refine I.step (g' := s.gens) (d' := s.drawn) (ch := [it]) (fun b hb => ?_) (fun b o _ _ hc e _ => k b o (fun z => hc (by simp [z])) e) (fun b o _ _ hc e _ => ⟨o.slots, k b o (fun z => hc (by simp [z])) e⟩) (fun _ _ _ _ n => n)
    (fun b o hc e => ⟨o, k b o (fun z => hc (by simp [z])) e⟩) (fun _ _ e => e) (fun _ _ _ e => e) (fun b ps e => ⟨#[], by rw [e]; simp⟩) (fun m hm => ?_) (fun b u e => ?_) I.bare
  · have e : b = it := by simpa using hb
    subst e
    exact ⟨h1, hL, h2, h3⟩
  · obtain ⟨o, es, ep, ho, r⟩ := hm
    exact ⟨o, es, ep, k _ o (Ne.symm hL) ho, r⟩
  · refine (I.hok b u e).stay (fun c v hc q => k c v ?_ q) (fun _ q => q) fun _ _ q => q
    rcases hc with z | z
    · rw [z]; exact nit b u e
    · exact nit c _ z
theorem Inv.tok (I : Inv X pins σ H s) (t : Nat) : Inv X pins σ H { s with toks := t } := I.un (h' := s.heap) (t' := t) Un.refl I.hok
theorem Inv.kept {t' : Nat} (I : Inv X pins σ H s) (k : ∀ b u, s.heap.get? b = some u → h'.get? b = some u) : Inv X pins σ H { s with heap := h', toks := t' } := I.un (Un.kept k) (I.hok.kept k)
theorem Inv.laid {a : Addr} {o : HO} {t' : Nat} (I : Inv X pins σ H s) (k : ∀ b u, s.heap.get? b = some u → h'.get? b = some u) (hp : s.heap.objs.size ≤ a) (new : ObjOk X.prog X.w (upd H a o) h' a o) :
    Inv X pins σ (upd H a o) { s with heap := h', toks := t' } := I.un (Un.laid k hp (I.hok.fresh hp)) (I.hok.laid k hp new)
theorem Inv.write {x e : Addr} {o : HO} {t' : Nat} (I : Inv X pins σ H s) (mu : Mut (H x)) (he : e = x ∨ H e = some (.own x)) (k : ∀ b u, b ≠ e → s.heap.get? b = some u → h'.get? b = some u) (heo : ∃ u, h'.get? e = some u)
    (new : ObjOk X.prog X.w (upd H x o) h' x o) : Inv X pins σ (upd H x o) { s with heap := h', toks := t' } := I.un (Un.write mu he k heo) (I.hok.write mu he k heo new)
theorem Inv.pins_of {pins' : List (Addr × Obj)} (I : Inv X pins σ H s) (h : ∀ p ∈ pins', s.heap.get? p.1 = some p.2 ∧ H p.1 = none ∧ p.1 ≠ X.env.locals ∧ p.1 ∉ X.fs ∧ ∀ v, p.2.data ≠ .cell v) : Inv X pins' σ H s :=
  ⟨I.ok, I.os, I.bare, I.base, I.loc, I.cell, I.free, I.freeC, fun p hp => (List.mem_append.mp hp).elim (fun z => I.pin p (List.mem_append_left _ z)) (h p), I.hok, I.len⟩
theorem nodup_ix {N : List Str} (hN : N.Nodup) {i j : Nat} {x : Str} (a : N[i]? = some x) (b : N[j]? = some x) : i = j := by
  obtain ⟨h1, e1⟩ := List.getElem?_eq_some_iff.mp a
  obtain ⟨h2, e2⟩ := List.getElem?_eq_some_iff.mp b
  exact (List.getElem_inj hN).mp (e1.trans e2.symm)
theorem store_ok2 {M : Model} {A : Around} {E : Value → Shared → Prop} {i : Nat} {x : Str} {v : V} {u : Value} {Q : Unit → Shared → Prop} (I : Inv X pins σ H s) (hN : X.N.Nodup) (hi : X.N[i]? = some x) (hx : Loc X.env.scope x) (r : RelV v u)
    (h : ∀ s', Inv X pins (σ.set i (some v)) H s' → (∃ a, Heap.SameBut a s.heap s'.heap ∧ (a = X.env.locals ∨ X.env.cells.lookup x = some a)) → Q () s') (hf : X.fn x = true ∨ X.env.scope.names.lookup x = some .local := by first | exact .inl rfl | exact .inr rfl | assumption) : wpAny M A (storeName X.env x u) Q E s := by
  obtain ⟨m, hn, hl⟩ := id I.loc
  have hcls : (X.env.scope.kind == .class || (X.env.scope.kind == .module && X.env.locals != X.env.globals)) = false := by rw [I.ok.kind]; rfl
  have hiσ : i < σ.length := by rw [I.len]; exact (List.getElem?_eq_some_iff.mp hi).1
  have cne := I.cne
  have tracked : ∀ {a : Addr} {h' : Heap}, (∃ o, s.heap.get? a = some o ∧ H a = none) → Heap.SameBut a s.heap h' → HOk X.prog X.w H h' := fun {a h'} ha hs b ob e => by
    obtain ⟨_, _, hfree⟩ := ha
    refine (I.hok b ob e).stay (fun c w' hc q => (hs.2 c ?_).trans q) (fun _ q => q) fun _ _ q => q
    rintro rfl
    rcases hc with rfl | hc
    · rw [hfree] at e; cases e
    · rw [hfree] at hc; cases hc
  rcases hx with hk | hk
  · refine wpAny_storeName_local hk hn (fun h' hn' hs => ?_) hcls
    obtain ⟨oL, _, _, hoL, _⟩ := id hn
    refine h _ ⟨I.ok, I.os, I.bare, ⟨fun b o e n hb hx => ?_, fun b o e n hb hx => ?_, I.base.free, fun b o e hx => ?_, I.base.tups, I.base.frzs, I.base.tbls⟩, ⟨_, hn', fun j y v' e1 e2 e3 => ?_⟩, fun y c e => ?_, I.free, I.freeC, fun p hp => ?_, tracked ⟨oL, hoL, I.free⟩ hs, by simpa using I.len⟩ ⟨_, hs, .inl rfl⟩
    · exact (hs.2 b (Nat.ne_of_lt (Nat.lt_of_lt_of_le (Heap.lt_size e) I.ok.above))).trans (I.base.keep b o e n hb hx)
    · obtain ⟨sl, e1⟩ := I.base.slot b o e n hb hx
      exact ⟨sl, (hs.2 b (Nat.ne_of_lt (Nat.lt_of_lt_of_le (Heap.lt_size e) I.ok.above))).trans e1⟩
    · obtain ⟨o', e1⟩ := I.base.there b o e hx
      exact ⟨o', (hs.2 b (Nat.ne_of_lt (Nat.lt_of_lt_of_le (Heap.lt_size e) I.ok.above))).trans e1⟩
    · by_cases hj : j = i
      · subst hj
        rw [hi] at e1; cases e1
        rw [List.getElem?_set_self hiσ] at e2
        cases e2
        exact ⟨u, r, .inl ⟨hk, by simp⟩⟩
      · rw [List.getElem?_set_ne (Ne.symm hj)] at e2
        obtain ⟨u', r', q⟩ := hl j y v' e1 e2 e3
        refine ⟨u', r', ?_⟩
        rcases q with ⟨k, e⟩ | ⟨k, c, e, z⟩
        · refine .inl ⟨k, ?_⟩
          have : y ≠ x := fun e => hj (nodup_ix hN e1 (e ▸ hi))
          simp [this, e]
        · exact .inr ⟨k, c, e, z.sameBut hs (cne y c e)⟩
    · obtain ⟨w', z⟩ := I.cell y c e
      exact ⟨w', z.sameBut hs (cne y c e)⟩
    · obtain ⟨e, n, ne, nf, d⟩ := I.pin p hp
      exact ⟨(hs.2 p.1 ne).trans e, n, ne, nf, d⟩
  · have hfn : X.fn x = true := by
      rcases hf with z | z
      · exact z
      · rw [z] at hk; cases hk
    obtain ⟨c, hc⟩ := I.ok.has x (.inl hk)
    obtain ⟨w', z⟩ := I.cell x c hc
    refine wpAny_storeName_cell I.ok.kind hk hc z (fun h' hc' hs => ?_)
    obtain ⟨oc, hoc, hocd⟩ := id z
    refine h { s with heap := h' } ⟨I.ok, I.os, I.bare, ⟨fun b o e n hb hx => ?_, fun b o e n hb hx => ?_, I.base.free, fun b o e hx => ?_, I.base.tups, I.base.frzs, I.base.tbls⟩, ⟨m, hn.sameBut hs (Ne.symm (cne x c hc)), fun j y v' e1 e2 e3 => ?_⟩, fun y c' e => ?_, I.free, I.freeC, fun p hp => ?_, tracked ⟨oc, hoc, I.freeC x c hc⟩ hs, by simpa using I.len⟩ ⟨c, hs, .inr hc⟩
    · exact (hs.2 b (Nat.ne_of_lt (Nat.lt_of_lt_of_le (Heap.lt_size e) (I.ok.cab x c hfn hc)))).trans (I.base.keep b o e n hb hx)
    · obtain ⟨sl, e1⟩ := I.base.slot b o e n hb hx
      exact ⟨sl, (hs.2 b (Nat.ne_of_lt (Nat.lt_of_lt_of_le (Heap.lt_size e) (I.ok.cab x c hfn hc)))).trans e1⟩
    · obtain ⟨o', e1⟩ := I.base.there b o e hx
      exact ⟨o', (hs.2 b (Nat.ne_of_lt (Nat.lt_of_lt_of_le (Heap.lt_size e) (I.ok.cab x c hfn hc)))).trans e1⟩
    · by_cases hj : j = i
      · subst hj
        rw [hi] at e1; cases e1
        rw [List.getElem?_set_self hiσ] at e2
        cases e2
        exact ⟨u, r, .inr ⟨.inl hk, c, hc, hc'⟩⟩
      · rw [List.getElem?_set_ne (Ne.symm hj)] at e2
        obtain ⟨u', r', q⟩ := hl j y v' e1 e2 e3
        refine ⟨u', r', ?_⟩
        rcases q with q | ⟨k, c', e, z'⟩
        · exact .inl q
        · refine .inr ⟨k, c', e, z'.sameBut hs ?_⟩
          rintro rfl
          exact hj (nodup_ix hN e1 (I.ok.inj _ _ _ e hc ▸ hi))
    · by_cases hcc : c' = c
      · subst hcc; exact ⟨_, hc'⟩
      · obtain ⟨w2, z2⟩ := I.cell y c' e
        exact ⟨w2, z2.sameBut hs hcc⟩
    · obtain ⟨e, n, ne, nf, d⟩ := I.pin p hp
      refine ⟨(hs.2 p.1 ?_).trans e, n, ne, nf, d⟩
      intro q
      rw [q, hoc] at e
      have q' : oc = p.2 := Option.some.inj e
      exact d w' (by rw [← q']; exact hocd)
theorem store_ok {M : Model} {A : Around} {E : Value → Shared → Prop} {i : Nat} {x : Str} {v : V} {u : Value} {Q : Unit → Shared → Prop} (I : Inv X pins σ H s) (hN : X.N.Nodup) (hi : X.N[i]? = some x) (hx : Loc X.env.scope x) (r : RelV v u)
    (h : ∀ s', Inv X pins (σ.set i (some v)) H s' → Q () s') (hf : X.fn x = true ∨ X.env.scope.names.lookup x = some .local := by first | exact .inl rfl | exact .inr rfl | assumption) : wpAny M A (storeName X.env x u) Q E s :=
  store_ok2 I hN hi hx r (fun s' I' _ => h s' I') hf
theorem Inv.call' {s' : Shared} {ch : List Addr} (I : Inv X pins σ H s) (ho : s'.os = s.os) (u : Un (frs X.stack) ch H H' s.heap s'.heap) (hok : HOk X.prog X.w H' s'.heap) (hg : AllBare s'.gens)
    (hch : ∀ b ∈ ch, (b ∈ X.ex ∨ X.s₀.heap.objs.size ≤ b) ∧ b ≠ X.env.locals ∧ (∀ x c, X.env.cells.lookup x = some c → c ≠ b) ∧ ∀ p ∈ X.pn ++ pins, p.1 ≠ b) : Inv X pins σ H' s' := by
  obtain ⟨h', g', d', t', o'⟩ := s'
  have e : o' = s.os := ho
  subst e
  exact I.call (g' := g') (t' := t') (d' := d') u hok hg hch
end
noncomputable abbrev XK := Value → Option Addr → Hp → Prop
noncomputable abbrev St := List (Option V)
noncomputable abbrev VK := V → Hp → Prop
noncomputable abbrev TE := St → Hp → VK → Prop
noncomputable abbrev TT := St → Hp → (Bool → Hp → Prop) → Prop
noncomputable abbrev TA := St → Hp → (List V → Hp → Prop) → Prop
structure Ends where
  nx : St → Hp → Prop
  rt : VK
  bk : St → Hp → Prop := fun _ _ => False
  ct : St → Hp → Prop := fun _ _ => False
noncomputable abbrev TS := Ends → St → Hp → Prop
noncomputable def EP (X : Cx) (pins : List (Addr × Obj)) (σ : St) (Q : VK) (u : Value) (s' : Shared) : Prop := ∃ v H', Inv X pins σ H' s' ∧ RelV v u ∧ Q v H'
noncomputable def TP (X : Cx) (pins : List (Addr × Obj)) (σ : St) (Q : Bool → Hp → Prop) (b : Bool) (s' : Shared) : Prop := ∃ H', Inv X pins σ H' s' ∧ Q b H'
noncomputable def AP (X : Cx) (pins : List (Addr × Obj)) (σ : St) (Q : List V → Hp → Prop) (us : List Value) (s' : Shared) : Prop := ∃ vs H', Inv X pins σ H' s' ∧ Vals vs us ∧ Q vs H'
noncomputable def SP (X : Cx) (pins : List (Addr × Obj)) (D : Ends) (f : Flow) (s' : Shared) : Prop :=
  match f with
  | .next => ∃ σ' H', Inv X pins σ' H' s' ∧ D.nx σ' H'
  | .brk => ∃ σ' H', Inv X pins σ' H' s' ∧ D.bk σ' H'
  | .cont => ∃ σ' H', Inv X pins σ' H' s' ∧ D.ct σ' H'
  | .ret u => ∃ v σ' H', Inv X pins σ' H' s' ∧ RelV v u ∧ D.rt v H'
noncomputable def PE (X : Cx) (e : Expr) (t : TE) : Prop :=
  ∀ (pins : List (Addr × Obj)) (s : Shared) (σ : St) (H : Hp) (Q : VK), Inv X pins σ H s → t σ H Q → wpAny (model X.prog X.w) X.A (eval e X.env) (EP X pins σ Q) X.xe s
noncomputable def PT (X : Cx) (e : Expr) (t : TT) : Prop :=
  ∀ (pins : List (Addr × Obj)) (s : Shared) (σ : St) (H : Hp) (Q : Bool → Hp → Prop), Inv X pins σ H s → t σ H Q → wpAny (model X.prog X.w) X.A (isTrue e X.env (eval e X.env)) (TP X pins σ Q) X.xe s
noncomputable def PW (X : Cx) (e : Expr) (t : TT) : Prop :=
  ∀ (whole : Sem Value) (pins : List (Addr × Obj)) (s : Shared) (σ : St) (H : Hp) (Q : Bool → Hp → Prop), Inv X pins σ H s → t σ H Q → wpAny (model X.prog X.w) X.A (isTrue e X.env whole) (TP X pins σ Q) X.xe s
theorem PW.pt {X : Cx} {e : Expr} {t : TT} (h : PW X e t) : PT X e t := h _
noncomputable def PA (X : Cx) (es : List Expr) (t : TA) : Prop :=
  ∀ (pos : Pos) (pins : List (Addr × Obj)) (s : Shared) (σ : St) (H : Hp) (Q : List V → Hp → Prop), Inv X pins σ H s → t σ H Q → wpAny (model X.prog X.w) X.A (spliced (backTo pos (starEach es X.env))) (AP X pins σ Q) X.xe s
noncomputable def PS (X : Cx) (st : Stmt) (t : TS) : Prop :=
  ∀ (pins : List (Addr × Obj)) (s : Shared) (σ : St) (H : Hp) (D : Ends), Inv X pins σ H s → t D σ H → wpAny (model X.prog X.w) X.A (exec st X.env) (SP X pins D) X.xe s
noncomputable def PSs (X : Cx) (st : List Stmt) (t : TS) : Prop :=
  ∀ (pins : List (Addr × Obj)) (s : Shared) (σ : St) (H : Hp) (D : Ends), Inv X pins σ H s → t D σ H → wpAny (model X.prog X.w) X.A (execs st X.env) (SP X pins D) X.xe s
theorem thn {α : Type} {t : Sem α} {Q Q' : α → Shared → Prop} {M : Model} {A : Around} {E : Value → Shared → Prop} {s : Shared} (h : wpAny M A t Q E s) (hQ : ∀ a s, Q a s → Q' a s) : wpAny M A t Q' E s := wpAny_mono h hQ fun _ _ x => x
end L2
namespace L2
open PySem PySem.Spec PyProof.Rows
section
variable {X : Cx}
theorem bin {a b : Expr} {ta tb : TE} (ha : PE X a ta) (hb : PE X b tb) {pins : List (Addr × Obj)} {s : Shared} {σ : St} {H : Hp} {R : V → V → Hp → Prop} (I : Inv X pins σ H s) (h : ta σ H fun x H1 => tb σ H1 fun y H2 => R x y H2)
    {α : Type} {Q : α → Shared → Prop} {f : Value → Value → Sem α}
    (hf : ∀ v u s2 x y H2, Inv X pins σ H2 s2 → RelV x v → RelV y u → R x y H2 → wpAny (model X.prog X.w) X.A (f v u) Q X.xe s2) :
    wpAny (model X.prog X.w) X.A (eval a X.env) (fun v s₁ => wpAny (model X.prog X.w) X.A (eval b X.env) (fun u s₂ => wpAny (model X.prog X.w) X.A (f v u) Q X.xe s₂) X.xe s₁) X.xe s := by
  refine thn (ha pins s σ H _ I h) fun v s1 ⟨x, H1, I1, r1, q1⟩ => ?_
  refine thn (hb pins s1 σ H1 _ I1 q1) fun u s2 ⟨y, H2, I2, r2, q2⟩ => ?_
  exact hf v u s2 x y H2 I2 r1 r2 q2
noncomputable def tVar (i : Nat) : TE := fun σ H Q => ∃ v, σ[i]? = some (some v) ∧ Q v H
noncomputable def tC (v : V) : TE := fun _ H Q => Q v H
theorem pe_var {i : Nat} {x : Str} {pos : Pos} (hN : X.N[i]? = some x) (hv : Vis X.env.scope x) (hd : (x == ("__debug__" : Str)) = false := by decide) (hcd : (x == ("__classdict__" : Str)) = false := by decide) : PE X (.Name x pos) (tVar i) := by
  intro pins s σ H Q I h
  obtain ⟨v, e, h⟩ := h
  obtain ⟨m, hn, hl⟩ := I.loc
  obtain ⟨u, r, l⟩ := hl i x v hN e hv
  have fin : EP X pins σ Q u s := ⟨v, H, I, r, h⟩
  rcases l with ⟨hk, hm⟩ | ⟨hk, c, hc, hcell⟩
  · exact wpAny_Name (wpAny_loadName_local I.ok.kind hk hn hm fin) hd
  · rcases hk with hk | hk
    · exact wpAny_Name (wpAny_loadName_cell I.ok.kind hk hc hcell fin) hd
    · exact wpAny_Name (wpAny_loadName_free I.ok.kind hk hc hcell fin hcd) hd
theorem pe_int {i j pos} : PE X (.Constant (.int i) j pos) (tC (.int i)) := fun _ _ _ H _ I h => wpAny_Constant_int ⟨.int i, H, I.tok _, ⟨_, rfl⟩, h⟩
theorem pe_bl {b j pos} : PE X (.Constant (.bool b) j pos) (tC (.bl b)) := fun _ _ _ H _ I h => Constant_bool ⟨.bl b, H, I, rfl, h⟩
theorem pe_non {j pos} : PE X (.Constant .none j pos) (tC .non) := fun _ _ _ H _ I h => Constant_none ⟨.non, H, I, rfl, h⟩
theorem pe_str {x j pos} : PE X (.Constant (.str x) j pos) (tC (.str x)) := fun _ _ _ H _ I h => Calls.Constant_str ⟨.str x, H, I.tok _, ⟨_, rfl⟩, h⟩
noncomputable def Gl (X : Cx) (x : Str) : Prop := X.env.kindOf x = some .globalImplicit
theorem ld_glob {E : Value → Shared → Prop} {pins : List (Addr × Obj)} {s : Shared} {σ : St} {H : Hp} {x : Str} {u : Value} {pos : Pos} {Q : Value → Shared → Prop} (I : Inv X pins σ H s) (hg : Gl X x) (hm : X.mg x = some u) (h : Q u s)
    (hd : (x == ("__debug__" : Str)) = false := by decide) : wpAny (model X.prog X.w) X.A (eval (.Name x pos) X.env) Q E s :=
  Calls.Name_function_global I.ok.kind hg (Calls.loadGlobal_global (by rw [I.ok.glob]; exact I.mod.glob.keeps I.bk) hm h) hd
theorem ld_blt {E : Value → Shared → Prop} {pins : List (Addr × Obj)} {s : Shared} {σ : St} {H : Hp} {x : Str} {u : Value} {pos : Pos} {Q : Value → Shared → Prop} (I : Inv X pins σ H s) (hg : Gl X x) (hm : X.mg x = none) (hv : bootBuiltins x = some u) (h : Q u s)
    (hn : x ≠ "__name__" := by decide) (hd : (x == ("__debug__" : Str)) = false := by decide) : wpAny (model X.prog X.w) X.A (eval (.Name x pos) X.env) Q E s := by
  obtain ⟨mb, h1, h2⟩ := I.mod.blt
  exact Calls.Name_function_global I.ok.kind hg (Calls.loadGlobal_builtin (by rw [I.ok.glob]; exact I.mod.glob.keeps I.bk) hm (by rw [I.ok.blt]; exact h1.keeps I.bk) ((h2 x hn).trans hv) h) hd
theorem pe_glob {x : Str} {v : V} {u : Value} {pos : Pos} (hg : Gl X x) (hm : X.mg x = some u) (r : RelV v u) (hd : (x == ("__debug__" : Str)) = false := by decide) : PE X (.Name x pos) (tC v) :=
  fun _ _ _ H _ I h => ld_glob I hg hm ⟨v, H, I, r, h⟩ hd
theorem pe_bltn {x : Str} {v : V} {u : Value} {pos : Pos} (hg : Gl X x) (hm : X.mg x = none) (hv : bootBuiltins x = some u) (r : RelV v u) (hn : x ≠ "__name__" := by decide) (hd : (x == ("__debug__" : Str)) = false := by decide) : PE X (.Name x pos) (tC v) :=
  fun _ _ _ H _ I h => ld_blt I hg hm hv ⟨v, H, I, r, h⟩ hn hd
variable {a b : Expr} {ta tb : TE} {pos : Pos}
noncomputable def tB (t : TE) : TT := fun σ H Q => t σ H fun x H1 => ∃ c, x = .bl c ∧ Q c H1
theorem pt_val {e : Expr} {t : TE} (h : PE X e t) (he : ∀ whole, isTrue e X.env whole = (do let v ← whole; standAt e.pos; holding [v] (truthy v)) := by intro _; rfl) : PT X e (tB t) := by
  intro pins s σ H Q I hw
  refine isTrue_plain (thn (h pins s σ H _ I hw) fun v s1 ⟨x, H1, I1, r1, q1⟩ => ?_) (he _)
  obtain ⟨d, rfl, q⟩ := q1
  cases r1
  exact wpAny_truthy_bool ⟨H1, I1, q⟩
variable {tA tB' : TT} {rest : List Expr}
noncomputable def tAnd (t u : TT) : TT := fun σ H Q => t σ H fun c H1 => if c = true then u σ H1 Q else Q false H1
noncomputable def tOr (t u : TT) : TT := fun σ H Q => t σ H fun c H1 => if c = true then Q true H1 else u σ H1 Q
noncomputable def tNot (t : TT) : TT := fun σ H Q => t σ H fun c H1 => Q (!c) H1
theorem pw_and1 (ha : PT X a tA) : PW X (.BoolOp .And [a] pos) tA := by
  intro wh pins s σ H Q I h
  refine isTrue_and (thn (ha pins s σ H Q I h) fun c s1 e => ?_)
  cases c with
  | true => exact isTrue_and_nil e
  | false => exact e
theorem pw_or1 (ha : PT X a tA) : PW X (.BoolOp .Or [a] pos) tA := by
  intro wh pins s σ H Q I h
  refine isTrue_or (thn (ha pins s σ H Q I h) fun c s1 e => ?_)
  cases c with
  | false => exact isTrue_or_nil e
  | true => exact e
theorem pw_and (ha : PT X a tA) (hb : PW X (.BoolOp .And (b :: rest) pos) tB') : PW X (.BoolOp .And (a :: b :: rest) pos) (tAnd tA tB') := by
  intro wh pins s σ H Q I h
  refine isTrue_and (thn (ha pins s σ H _ I h) fun c s1 ⟨H1, I1, q1⟩ => ?_)
  cases c with
  | true => exact hb wh pins s1 σ H1 Q I1 q1
  | false => exact ⟨H1, I1, q1⟩
theorem pw_or (ha : PT X a tA) (hb : PW X (.BoolOp .Or (b :: rest) pos) tB') : PW X (.BoolOp .Or (a :: b :: rest) pos) (tOr tA tB') := by
  intro wh pins s σ H Q I h
  refine isTrue_or (thn (ha pins s σ H _ I h) fun c s1 ⟨H1, I1, q1⟩ => ?_)
  cases c with
  | true => exact ⟨H1, I1, q1⟩
  | false => exact hb wh pins s1 σ H1 Q I1 q1
theorem pt_not (ha : PT X a tA) : PT X (.UnaryOp .Not a pos) (tNot tA) := by
  intro pins s σ H Q I h
  exact isTrue_not (ha pins s σ H (fun c H1 => Q (!c) H1) I h)
noncomputable def tAndV (ta tb : TE) : TE := fun σ H Q => ta σ H fun x H1 => ∃ c, x = .bl c ∧ if c = true then tb σ H1 Q else Q (.bl false) H1
noncomputable def tOrV (ta tb : TE) : TE := fun σ H Q => ta σ H fun x H1 => ∃ c, x = .bl c ∧ if c = true then Q (.bl true) H1 else tb σ H1 Q
noncomputable def tNotV (ta : TE) : TE := fun σ H Q => ta σ H fun x H1 => ∃ c, x = .bl c ∧ Q (.bl (!c)) H1
theorem pe_one {op} {t : TE} (h : PE X a t) : PE X (.BoolOp op [a] pos) t := fun pins s σ H Q I hw => BoolOp_one (h pins s σ H Q I hw)
theorem pe_and (ha : PE X a ta) (hb : PE X (.BoolOp .And (b :: rest) pos) tb) : PE X (.BoolOp .And (a :: b :: rest) pos) (tAndV ta tb) := by
  intro pins s σ H Q I h
  refine BoolOp_and (thn (ha pins s σ H _ I h) fun v s1 ⟨x, H1, I1, r1, q1⟩ => ?_)
  obtain ⟨c, rfl, q1⟩ := q1
  cases r1
  refine wpAny_truthy_bool ?_
  cases c with
  | true => exact hb pins s1 σ H1 Q I1 q1
  | false => exact ⟨.bl false, H1, I1, rfl, q1⟩
theorem pe_or (ha : PE X a ta) (hb : PE X (.BoolOp .Or (b :: rest) pos) tb) : PE X (.BoolOp .Or (a :: b :: rest) pos) (tOrV ta tb) := by
  intro pins s σ H Q I h
  refine BoolOp_or (thn (ha pins s σ H _ I h) fun v s1 ⟨x, H1, I1, r1, q1⟩ => ?_)
  obtain ⟨c, rfl, q1⟩ := q1
  cases r1
  refine wpAny_truthy_bool ?_
  cases c with
  | false => exact hb pins s1 σ H1 Q I1 q1
  | true => exact ⟨.bl true, H1, I1, rfl, q1⟩
theorem pe_not (ha : PE X a ta) : PE X (.UnaryOp .Not a pos) (tNotV ta) := by
  intro pins s σ H Q I h
  refine UnaryOp_ (thn (ha pins s σ H _ I h) fun v s1 ⟨x, H1, I1, r1, q1⟩ => ?_)
  obtain ⟨c, rfl, q1⟩ := q1
  cases r1
  exact not_of (wpAny_truthy_bool ⟨.bl (!c), H1, I1, rfl, q1⟩)
end
end L2
namespace L2
open PySem PySem.Spec PyProof.Rows
noncomputable def SqL (K : PySem.W.Frag) (H : Hp) (a : Addr) (xs : List V) : Prop :=
  Rd H a (.lst xs) ∨
    ∃ (o : Obj) (its : Array Value) (n : Nat), K.lookup a = some o ∧ o.cls = .type "list" ∧ o.dict = none ∧ o.data = .seq its n ∧ its.size ≤ sizeLine ∧ Vals xs its.toList
noncomputable def SqT (K : PySem.W.Frag) (H : Hp) (a : Addr) (xs : List V) : Prop :=
  Rd H a (.tup xs) ∨
    ∃ (o : Obj) (its : Array Value) (n : Nat), K.lookup a = some o ∧ o.cls = .type "tuple" ∧ o.data = .seq its n ∧ its.size ≤ sizeLine ∧ Vals xs its.toList
noncomputable def absV : Value → Option V
  | .none => some .non
  | .bool b => some (.bl b)
  | .int i _ => some (.int i)
  | .str x _ => some (.str x)
  | .bytes b _ => some (.byt b)
  | .float b _ => some (.flt b)
  | .ref a => some (.ref a)
  | .type n => some (.ty n)
  | _ => none
theorem RelV.abs {x : V} {u : Value} (r : RelV x u) : absV u = some x := by
  cases x with
  | non => cases r; rfl
  | bl _ => cases r; rfl
  | int _ => obtain ⟨t, rfl⟩ := r; rfl
  | str _ => obtain ⟨t, rfl⟩ := r; rfl
  | byt _ => obtain ⟨t, rfl⟩ := r; rfl
  | flt _ => obtain ⟨t, rfl⟩ := r; rfl
  | ref _ => cases r; rfl
  | ty _ => cases r; rfl
theorem RelV.inj {x y : V} {u : Value} (r : RelV x u) (q : RelV y u) : x = y := Option.some.inj (r.abs.symm.trans q.abs)
theorem Vals.inj : ∀ {xs ys : List V} {us : List Value}, Vals xs us → Vals ys us → xs = ys
  | _, _, _, .nil, .nil => rfl
  | _, _, _, .cons r t, .cons r' t' => by rw [r.inj r', Vals.inj t t']
section
variable {X : Cx} {pins : List (Addr × Obj)} {σ : St} {H : Hp} {s : Shared} {a : Addr} {xs ys : List V}
theorem SqL.of {K : PySem.W.Frag} (h : H a = some (.lst xs)) : SqL K H a xs := .inl (.inl h)
theorem SqT.of {K : PySem.W.Frag} (h : H a = some (.tup xs)) : SqT K H a xs := .inl (.inl h)
theorem Inv.list (I : Inv X pins σ H s) (h : SqL X.K H a xs) : ∃ its : List Value, Vals xs its ∧ PlainL s.heap a its.toArray ∧ xs.length ≤ sizeLine := by
  rcases h with h | ⟨o, its, n, hk, hc, hd, hs, hz, r⟩
  · obtain ⟨z, its, n, r, e⟩ := h.ok I.hok
    exact ⟨its, r, ⟨_, n, e, rfl, rfl, rfl⟩, z⟩
  · refine ⟨its.toList, r, ⟨o, n, I.kIn a o hk, hc, hd, by simpa using hs⟩, ?_⟩
    have e := r.length
    simp only [Array.length_toList] at e
    omega
theorem Inv.tuple (I : Inv X pins σ H s) (h : SqT X.K H a xs) : ∃ its : List Value, Vals xs its ∧ IsTup s.heap a its.toArray ∧ xs.length ≤ sizeLine := by
  rcases h with h | ⟨o, its, n, hk, hc, hs, hz, r⟩
  · obtain ⟨z, its, r, p⟩ := h.ok I.hok
    exact ⟨its, r, p, z⟩
  · refine ⟨its.toList, r, ⟨o, I.kIn a o hk, hc, n, by simpa using hs⟩, ?_⟩
    have e := r.length
    simp only [Array.length_toList] at e
    omega
theorem Inv.list_inj (I : Inv X pins σ H s) (h : SqL X.K H a xs) (h' : SqL X.K H a ys) : xs = ys := by
  obtain ⟨its, r, ⟨o, n, e, _, _, d⟩, _⟩ := I.list h
  obtain ⟨its', r', ⟨o', n', e', _, _, d'⟩, _⟩ := I.list h'
  rw [e] at e'; cases e'
  rw [d] at d'
  injection d' with d1 _
  have : its = its' := by simpa using congrArg Array.toList d1
  subst this
  exact r.inj r'
theorem Inv.tuple_inj (I : Inv X pins σ H s) (h : SqT X.K H a xs) (h' : SqT X.K H a ys) : xs = ys := by
  obtain ⟨its, r, ⟨o, e, _, n, d⟩, _⟩ := I.tuple h
  obtain ⟨its', r', ⟨o', e', _, n', d'⟩, _⟩ := I.tuple h'
  rw [e] at e'; cases e'
  rw [d] at d'
  injection d' with d1 _
  have : its = its' := by simpa using congrArg Array.toList d1
  subst this
  exact r.inj r'
end
noncomputable abbrev Cx.wish (X : Cx) (E : Value → Shared → Prop) : Cx := { X with xe := E }
noncomputable abbrev Cx.nox (X : Cx) : Cx := X.wish fun _ _ => False
theorem Cx.Ok.wish {X : Cx} (ok : X.Ok) (E : Value → Shared → Prop) : (X.wish E).Ok :=
  ⟨ok.mod, ok.kind, ok.glob, ok.blt, ok.above, ok.inj, ok.has, ok.cab, ok.hd, ok.frames, ok.stk, ok.exf, ok.bs, ok.bsz, ok.noex, ok.exfs, ok.funs, ok.frf⟩
theorem Cx.Ok.unwish {X : Cx} {E : Value → Shared → Prop} (ok : (X.wish E).Ok) : X.Ok :=
  ⟨ok.mod, ok.kind, ok.glob, ok.blt, ok.above, ok.inj, ok.has, ok.cab, ok.hd, ok.frames, ok.stk, ok.exf, ok.bs, ok.bsz, ok.noex, ok.exfs, ok.funs, ok.frf⟩
section
variable {X : Cx} {pins : List (Addr × Obj)} {σ : St} {H : Hp} {s : Shared} {E : Value → Shared → Prop}
theorem Inv.wish (I : Inv X pins σ H s) (E : Value → Shared → Prop) : Inv (X.wish E) pins σ H s := ⟨I.ok.wish E, I.os, I.bare, I.base, I.loc, I.cell, I.free, I.freeC, I.pin, I.hok, I.len⟩
theorem Inv.unwish (I : Inv (X.wish E) pins σ H s) : Inv X pins σ H s := ⟨I.ok.unwish, I.os, I.bare, I.base, I.loc, I.cell, I.free, I.freeC, I.pin, I.hok, I.len⟩
theorem SP.unwish {D : Ends} {f : Flow} {s' : Shared} (h : SP (X.wish E) pins D f s') : SP X pins D f s' := by
  cases f with
  | next => obtain ⟨σ', H', I, q⟩ := h; exact ⟨σ', H', I.unwish, q⟩
  | brk => obtain ⟨σ', H', I, q⟩ := h; exact ⟨σ', H', I.unwish, q⟩
  | cont => obtain ⟨σ', H', I, q⟩ := h; exact ⟨σ', H', I.unwish, q⟩
  | ret u => obtain ⟨v, σ', H', I, r, q⟩ := h; exact ⟨v, σ', H', I.unwish, r, q⟩
theorem PE.nox {e : Expr} {t : TE} (h : PE X.nox e t) : PE X e t := fun pins s σ H Q I hw =>
  wpAny_mono (h pins s σ H Q (I.wish _) hw) (fun _ _ ⟨v, H', I', r, q⟩ => ⟨v, H', I'.unwish, r, q⟩) fun _ _ z => False.elim z
theorem PT.nox {e : Expr} {t : TT} (h : PT X.nox e t) : PT X e t := fun pins s σ H Q I hw =>
  wpAny_mono (h pins s σ H Q (I.wish _) hw) (fun _ _ ⟨H', I', q⟩ => ⟨H', I'.unwish, q⟩) fun _ _ z => False.elim z
theorem PSs.nox {st : List Stmt} {t : TS} (h : PSs X.nox st t) : PSs X st t := fun pins s σ H D I hw =>
  wpAny_mono (h pins s σ H D (I.wish _) hw) (fun _ _ q => q.unwish) fun _ _ z => False.elim z
end
section
variable {X : Cx} {st : Stmt} {rest : List Stmt} {t u : TS} {e : Expr} {te : TE} {pos : Pos}
noncomputable def tNext : TS := fun D σ H => D.nx σ H
noncomputable def tSeq (t u : TS) : TS := fun D σ H => t { D with nx := u D } σ H
theorem pss_nil : PSs X [] tNext := fun _ _ σ H _ I h => wpAny_execs_nil ⟨σ, H, I, h⟩
theorem pss_cons (h1 : PS X st t) (h2 : PSs X rest u) : PSs X (st :: rest) (tSeq t u) := by
  intro pins s σ H D I h
  refine wpAny_execs_cons (thn (h1 pins s σ H { D with nx := u D } I h) fun f s1 q => ?_)
  cases f with
  | next =>
    obtain ⟨σ', H', I', q⟩ := q
    exact h2 pins s1 σ' H' D I' q
  | ret v => exact q
  | brk => exact q
  | cont => exact q
theorem Inv.quiet {pins : List (Addr × Obj)} {σ : St} {H : Hp} {s : Shared} (I : Inv X pins σ H s) : interactive X.env = false := by simp [interactive, I.ok.kind]
noncomputable def tDrop (te : TE) : TS := fun D σ H => te σ H fun _ H1 => D.nx σ H1
theorem ps_expr (he : PE X e te) (hs : swapsWith e none pos.line X.env = pure false := by rfl) : PS X (.Expr e pos) (tDrop te) := by
  intro pins s σ H D I h
  exact wpAny_Expr_any (thn (he pins s σ H _ I h) fun v s1 ⟨x, H1, I1, r1, q1⟩ => ⟨σ, H1, I1, q1⟩) I.quiet hs
noncomputable def tRet (te : TE) : TS := fun D σ H => te σ H D.rt
theorem ps_ret (he : PE X e te) : PS X (.Return (some e) pos) (tRet te) := by
  intro pins s σ H D I h
  exact wpAny_Return_some (thn (he pins s σ H _ I h) fun v s1 ⟨x, H1, I1, r1, q1⟩ => ⟨x, σ, H1, I1, r1, q1⟩)
noncomputable def tIfS (c : TT) (t u : TS) : TS := fun D σ H => c σ H fun b H1 => if b = true then t D σ H1 else u D σ H1
theorem ps_if {c : Expr} {a b : List Stmt} {tc : TT} (hc : PT X c tc) (ha : PSs X a t) (hb : PSs X b u) : PS X (.If c a b pos) (tIfS tc t u) := by
  intro pins s σ H D I h
  refine wpAny_If (thn (hc pins s σ H _ I h) fun d s1 ⟨H1, I1, q1⟩ => ?_)
  cases d with
  | true => exact ha pins s1 σ H1 D I1 q1
  | false => exact hb pins s1 σ H1 D I1 q1
end
noncomputable abbrev TG := V → St → Hp → (St → Hp → Prop) → Prop
noncomputable abbrev TGs := List V → St → Hp → (St → Hp → Prop) → Prop
noncomputable def PG (X : Cx) (target : Expr) (t : TG) : Prop :=
  ∀ (pins : List (Addr × Obj)) (s : Shared) (σ : St) (H : Hp) (v : V) (u : Value) (Q : St → Hp → Prop), Inv X pins σ H s → RelV v u → t v σ H Q →
    wpAny (model X.prog X.w) X.A (assign target X.env u) (fun _ s' => ∃ σ' H', Inv X pins σ' H' s' ∧ Q σ' H') X.xe s
noncomputable def PGs (X : Cx) (ts : List Expr) (t : TGs) : Prop :=
  ∀ (pins : List (Addr × Obj)) (s : Shared) (σ : St) (H : Hp) (vs : List V) (us : List Value) (Q : St → Hp → Prop), Inv X pins σ H s → Vals vs us → t vs σ H Q →
    wpAny (model X.prog X.w) X.A (assignInOrder ((assignEach ts X.env).map (·.2)) us) (fun _ s' => ∃ σ' H', Inv X pins σ' H' s' ∧ Q σ' H') X.xe s
section
variable {X : Cx} {pos : Pos}
noncomputable def gName (i : Nat) : TG := fun v σ H Q => Q (σ.set i (some v)) H
theorem pg_name {i : Nat} {x : Str} (hN : X.N.Nodup) (hi : X.N[i]? = some x) (hx : Loc X.env.scope x) (hf : X.fn x = true ∨ X.env.scope.names.lookup x = some .local := by first | exact .inl rfl | exact .inr rfl | assumption) : PG X (.Name x pos) (gName i) := by
  intro pins s σ H v u Q I r h
  exact wpAny_assign_Name (store_ok I hN hi hx r (fun s' I' => ⟨_, H, I', h⟩) hf)
noncomputable def gNil : TGs := fun vs σ H Q => vs = [] ∧ Q σ H
noncomputable def gCons (t : TG) (u : TGs) : TGs := fun vs σ H Q => ∃ v r, vs = v :: r ∧ t v σ H fun σ' H' => u r σ' H' Q
theorem pgs_nil : PGs X [] gNil := by
  intro pins s σ H vs us Q I r h
  obtain ⟨e, h⟩ := h
  subst e
  cases r
  exact assignInOrder_nil ⟨σ, H, I, h⟩
theorem pgs_cons {e : Expr} {es : List Expr} {t : TG} {u : TGs} (h1 : PG X e t) (h2 : PGs X es u)
    (hs : (assignEach (e :: es) X.env).map (·.2) = assign e X.env :: (assignEach es X.env).map (·.2) := by rfl) : PGs X (e :: es) (gCons t u) := by
  intro pins s σ H vs us Q I r h
  obtain ⟨v, vr, e1, h⟩ := h
  subst e1
  cases r with
  | cons r rr =>
    rw [hs]
    refine assignInOrder_cons (thn (h1 pins s σ H _ _ _ I r h) fun _ s1 ⟨σ1, H1, I1, q1⟩ => ?_)
    exact h2 pins s1 σ1 H1 _ _ Q I1 rr q1
noncomputable def gTup (K : PySem.W.Frag) (n : Nat) (t : TGs) : TG := fun v σ H Q => ∃ a xs, v = .ref a ∧ SqT K H a xs ∧ xs.length = n ∧ t xs σ H Q
theorem pg_tup {es : List Expr} {k : Nat} {t : TGs} {n : Nat} (hc : X.calm = true) (h : PGs X es t)
    (hn : (assignEach es X.env).length = n := by rfl) (hst : (assignEach es X.env).findIdx? (·.1) = none := by rfl) : PG X (.Tuple es k pos) (gTup X.K n t) := by
  intro pins s σ H v u Q I r hw
  obtain ⟨a, xs, e1, hq, hl, hw⟩ := hw
  subst e1
  cases r
  obtain ⟨its, rv, ht, hz⟩ := I.tuple hq
  refine assign_Tuple_tuple (I.ok.hd hc) ht (by simp [hn, ← hl, rv.length]) hst fun h' hx => ?_
  have I1 : Inv X pins σ H { s with heap := h' } := I.kept (t' := s.toks) fun b o e => hx b o (Nat.ne_of_lt (Heap.lt_size e)) e
  exact h pins _ σ H xs _ Q I1 (by simpa using rv) hw
noncomputable def tAsg (te : TE) (g : TG) : TS := fun D σ H => te σ H fun x H1 => g x σ H1 D.nx
theorem ps_set {i : Nat} {x : Str} {e : Expr} {te : TE} {pos' : Pos} (hN : X.N.Nodup) (hi : X.N[i]? = some x) (hx : Loc X.env.scope x) (he : PE X e te) (hs : swapsWith e (some (.Name x pos')) pos.line X.env = pure false := by rfl) (hf : X.fn x = true ∨ X.env.scope.names.lookup x = some .local := by first | exact .inl rfl | exact .inr rfl | assumption) :
    PS X (.Assign [.Name x pos'] e pos) (tAsg te (gName i)) := by
  intro pins s σ H D I h
  refine wpAny_Assign_Name (thn (he pins s σ H _ I h) fun v s1 ⟨y, H1, I1, r1, q1⟩ => ?_) hs
  exact store_ok I1 hN hi hx r1 (fun s2 I2 => ⟨_, H1, I2, q1⟩) hf
end
section
variable {X : Cx} {pos : Pos}
end
structure It where
  go : Nat → Hp → Prop
  yld : Nat → Hp → V → Hp → Prop
  stop : Nat → Hp → Prop
noncomputable def FpOk (X : Cx) (pins : List (Addr × Obj)) (H : Hp) (b : Addr) : Prop :=
  H b = none ∧ b ≠ X.env.locals ∧ b ∉ X.fs ∧ (b ∈ X.ex ∨ X.s₀.heap.objs.size ≤ b) ∧ (∀ x c, X.env.cells.lookup x = some c → c ≠ b) ∧ ∀ p ∈ X.pn ++ pins, p.1 ≠ b
theorem Inv.fpOk {X : Cx} {pins : List (Addr × Obj)} {σ : St} {H H' : Hp} {s : Shared} {b : Addr} (I : Inv X pins σ H s) (hb : s.heap.objs.size ≤ b) (hn : H' b = none) : FpOk X pins H' b := by
  refine ⟨hn, Nat.ne_of_gt (Nat.lt_of_lt_of_le I.lt hb), I.nofs hb, .inr (Nat.le_trans I.sz hb), fun x c e z => ?_, fun p hp z => ?_⟩
  · obtain ⟨v, q⟩ := I.cell x c e
    exact absurd (Nat.lt_of_lt_of_le q.lt (by rw [z]; exact hb)) (Nat.lt_irrefl _)
  · exact absurd (Nat.lt_of_lt_of_le (Heap.lt_size (I.pin p hp).1) (by rw [z]; exact hb)) (Nat.lt_irrefl _)
structure Turn (P : Program) (w : World) (K : PySem.W.Frag) (tg : Expr) (J : It) (fp : List Addr) (it : Addr) (tn : Nat → Heap → Prop) : Prop where
  mem : it ∈ fp
  obj : ∀ i h, tn i h → ∀ b ∈ fp, ∃ o, h.get? b = some o ∧ ∀ v, o.data ≠ .cell v
  keep : ∀ i h h', tn i h → (∀ b ∈ fp, ∀ o, h.get? b = some o → h'.get? b = some o) → tn i h'
  item : ∀ (X : Cx), X.prog = P → X.w = w → X.K = K → X.calm = true → ∀ (i : Nat) (pins : List (Addr × Obj)) (s : Shared) (σ : St) (H : Hp) (E : Value → Shared → Prop), Inv X pins σ H s → (∀ b ∈ fp, FpOk X pins H b) → tn i s.heap → J.go i H →
    wpAny (model P w) X.A (pyNext (.ref it)) (fun r s1 => ∃ u, r = some u ∧
      wpAny (model P w) X.A (letOwnedTupleGo tg (.ref it) u) (fun _ s2 => ∃ x H', Inv X pins σ H' s2 ∧ RelV x u ∧ J.yld i H x H' ∧ tn (i + 1) s2.heap ∧ ∀ b ∈ fp, H' b = none) E s1) E s
  done : ∀ (X : Cx), X.prog = P → X.w = w → X.K = K → X.calm = true → ∀ (i : Nat) (pins : List (Addr × Obj)) (s : Shared) (σ : St) (H : Hp) (E : Value → Shared → Prop), Inv X pins σ H s → (∀ b ∈ fp, FpOk X pins H b) → tn i s.heap → J.stop i H →
    wpAny (model P w) X.A (pyNext (.ref it)) (fun r s1 => r = none ∧ Inv X pins σ H s1) E s
  self : ∀ (A : Around) (i : Nat) (s : Shared) (Q : Value → Shared → Prop) (E : Value → Shared → Prop), tn i s.heap → Q (.ref it) s → wpAny (model P w) A (pyIter (.ref it)) Q E s
noncomputable abbrev TI := St → Hp → (It → Hp → Prop) → Prop
noncomputable def PIE (X : Cx) (pins : List (Addr × Obj)) (σ : St) (tg : Expr) (R : It → Hp → Prop) (itv : Value) (s2 : Shared) : Prop :=
  ∃ (it : Addr) (fp : List Addr) (tn : Nat → Heap → Prop) (J : It) (H' : Hp), itv = .ref it ∧ Inv X pins σ H' s2 ∧ Turn X.prog X.w X.K tg J fp it tn ∧ tn 0 s2.heap ∧ (∀ b ∈ fp, FpOk X pins H' b) ∧ R J H'
noncomputable def PI (X : Cx) (tg iter : Expr) (wi : TI) : Prop :=
  ∀ (pins : List (Addr × Obj)) (s : Shared) (σ : St) (H : Hp) (R : It → Hp → Prop), Inv X pins σ H s → wi σ H R →
    wpAny (model X.prog X.w) X.A (eval iter X.env) (fun v s1 => wpAny (model X.prog X.w) X.A (pyIter v) (PIE X pins σ tg R) X.xe s1) X.xe s
theorem go_of {M : Model} {A : Around} {E : Value → Shared → Prop} {s : Shared} {tg : Expr} {it : Addr} {u : Value} {o : Obj} {n : String} {vs : Array Value} {Q : Unit → Shared → Prop} (ho : s.heap.get? it = some o) (hc : o.cls = .type n) (hd : o.data = .fields vs)
    (hn : ["enumerate", "zip", "dict_itemiterator", "dict_reverseitemiterator", "odict_iterator", "itertools.zip_longest", "itertools.pairwise"].contains n = false) (hQ : Q () s) : wpAny M A (letOwnedTupleGo tg (.ref it) u) Q E s := by
  unfold letOwnedTupleGo
  cases tg <;> first
    | exact wpAny_pure hQ
    | (cases u <;> first
        | exact wpAny_pure hQ
        | (refine wpAny_bind (wpAny_load ho ?_)
           rw [hc, hd]
           show wpAny M A (if (["enumerate", "zip", "dict_itemiterator", "dict_reverseitemiterator", "odict_iterator", "itertools.zip_longest", "itertools.pairwise"].contains n && vs[0]? == some (rawInt _)) = true then _ else _) Q E s
           rw [if_neg (by intro h; rw [hn, Bool.false_and] at h; cases h)]
           exact wpAny_pure hQ))
noncomputable def Itl (K : PySem.W.Frag) (a : Addr) : It :=
  ⟨fun i H => ∃ xs x, SqL K H a xs ∧ xs[i]? = some x, fun i H x H' => H' = H ∧ ∀ xs, SqL K H a xs → xs[i]? = some x, fun i H => ∃ xs, SqL K H a xs ∧ xs.length ≤ i⟩
noncomputable def Itt (K : PySem.W.Frag) (a : Addr) : It :=
  ⟨fun i H => ∃ xs x, SqT K H a xs ∧ xs[i]? = some x, fun i H x H' => H' = H ∧ ∀ xs, SqT K H a xs → xs[i]? = some x, fun i H => ∃ xs, SqT K H a xs ∧ xs.length ≤ i⟩
noncomputable def Itr (lo : Int) (n : Nat) : It := ⟨fun i _ => i < n, fun i H x H' => H' = H ∧ x = .int (lo + i), fun i _ => n ≤ i⟩
theorem turn_list {P : Program} {w : World} {K : PySem.W.Frag} {tg : Expr} (a it : Addr) : Turn P w K tg (Itl K a) [it] it (fun i h => h.IsListIter it a i) where
  mem := by simp
  obj := fun i h st b hb => by
    have e : b = it := by simpa using hb
    subst e
    obtain ⟨o, e, c, d⟩ := st
    exact ⟨o, e, fun v z => by rw [d] at z; cases z⟩
  keep := fun i h h' st k => st.at fun o e => k it (by simp) o e
  item := by
    intro X hP hw hK hc i pins s σ H E I hf st hg
    subst hP hw hK
    obtain ⟨xs, x, hq, hx⟩ := hg
    obtain ⟨its, rv, p, hz⟩ := I.list hq
    obtain ⟨u, hu, ru⟩ := rv.get hx
    obtain ⟨f0, f1, f2, f3, f4, f5⟩ := hf it (by simp)
    refine wpAny_pyNext_list_item st p.isList (x := u) (by simpa using hu) fun h' st' sb => ?_
    have I1 : Inv X pins σ H { s with heap := h' } := I.turned (t' := s.toks) (fun b o hb e => (sb.2 b hb).trans e) f0 f1 f3 f4 f5
    obtain ⟨o, e, c, d⟩ := id st'
    exact ⟨u, rfl, go_of (s := { s with heap := h' }) e c d (by decide) ⟨x, H, I1, ru, ⟨rfl, fun ys hy => by rw [I.list_inj hy hq]; exact hx⟩, st', fun b hb => (hf b hb).1⟩⟩
  done := by
    intro X hP hw hK hc i pins s σ H E I hf st hg
    subst hP hw hK
    obtain ⟨xs, hq, hx⟩ := hg
    obtain ⟨its, rv, p, hz⟩ := I.list hq
    obtain ⟨f0, f1, f2, f3, f4, f5⟩ := hf it (by simp)
    have hl := rv.length
    exact wpAny_pyNext_list_end (I.ok.hd hc) st p.isList (by simp; omega) fun h' eb => ⟨rfl, I.turned (t' := s.toks) (fun b o hb e => eb b o hb e) f0 f1 f3 f4 f5⟩
  self := fun _ _ _ _ _ st h => wpAny_pyIter_listiter st h
theorem turn_tuple {P : Program} {w : World} {K : PySem.W.Frag} {tg : Expr} (a it : Addr) : Turn P w K tg (Itt K a) [it] it (fun i h => h.IsTupleIter it a i) where
  mem := by simp
  obj := fun i h st b hb => by
    have e : b = it := by simpa using hb
    subst e
    obtain ⟨o, e, c, d⟩ := st
    exact ⟨o, e, fun v z => by rw [d] at z; cases z⟩
  keep := fun i h h' st k => st.at fun o e => k it (by simp) o e
  item := by
    intro X hP hw hK hc i pins s σ H E I hf st hg
    subst hP hw hK
    obtain ⟨xs, x, hq, hx⟩ := hg
    obtain ⟨its, rv, p, hz⟩ := I.tuple hq
    obtain ⟨u, hu, ru⟩ := rv.get hx
    obtain ⟨f0, f1, f2, f3, f4, f5⟩ := hf it (by simp)
    refine wpAny_pyNext_tuple_item st (show s.heap.IsTuple a its.toArray from p) (x := u) (by simpa using hu) fun h' st' sb => ?_
    have I1 : Inv X pins σ H { s with heap := h' } := I.turned (t' := s.toks) (fun b o hb e => (sb.2 b hb).trans e) f0 f1 f3 f4 f5
    obtain ⟨o, e, c, d⟩ := id st'
    exact ⟨u, rfl, go_of (s := { s with heap := h' }) e c d (by decide) ⟨x, H, I1, ru, ⟨rfl, fun ys hy => by rw [I.tuple_inj hy hq]; exact hx⟩, st', fun b hb => (hf b hb).1⟩⟩
  done := by
    intro X hP hw hK hc i pins s σ H E I hf st hg
    subst hP hw hK
    obtain ⟨xs, hq, hx⟩ := hg
    obtain ⟨its, rv, p, hz⟩ := I.tuple hq
    obtain ⟨f0, f1, f2, f3, f4, f5⟩ := hf it (by simp)
    have hl := rv.length
    exact wpAny_pyNext_tuple_end (I.ok.hd hc) st (show s.heap.IsTuple a its.toArray from p) (by simp; omega) fun h' eb => ⟨rfl, I.turned (t' := s.toks) (fun b o hb e => eb b o hb e) f0 f1 f3 f4 f5⟩
  self := fun _ _ _ _ _ st h => wpAny_pyIter_tupleiter st h
theorem turn_range {P : Program} {w : World} {K : PySem.W.Frag} {tg : Expr} (it : Addr) (lo : Int) (n : Nat) : Turn P w K tg (Itr lo n) [it] it (fun i h => IsRangeIter h it (lo + (i : Nat) * 1) ((n : Int) - (i : Nat)) 1) where
  mem := by simp
  obj := fun i h st b hb => by
    have e : b = it := by simpa using hb
    subst e
    exact ⟨_, st, fun v z => by
      have z' : Data.fields _ = Data.cell v := z
      cases z'⟩
  keep := fun i h h' st k => k it (by simp) _ st
  item := by
    intro X hP hw hK hc i pins s σ H E I hf st hg
    subst hP hw hK
    obtain ⟨f0, f1, f2, f3, f4, f5⟩ := hf it (by simp)
    have W := Walks.range (prog := X.prog) (w := X.w) (I.ok.hd hc) it lo 1 n
    refine W.item i s _ _ hg st fun v h' tk hv st' kk => ?_
    obtain ⟨t, rfl⟩ := hv
    have I1 : Inv X pins σ H { s with heap := h', toks := tk } := I.turned (fun b o hb e => kk b o (by simpa using hb) e) f0 f1 f3 f4 f5
    refine ⟨_, rfl, go_of (s := { s with heap := h', toks := tk }) (n := "range_iterator") st' rfl rfl (by decide) ⟨.int (lo + i), H, I1, ⟨t, ?_⟩, ⟨rfl, rfl⟩, st', fun b hb => (hf b hb).1⟩⟩
    rw [Int.mul_one]
  done := by
    intro X hP hw hK hc i pins s σ H E I hf st hg
    subst hP hw hK
    obtain ⟨f0, f1, f2, f3, f4, f5⟩ := hf it (by simp)
    exact wpAny_pyNext_range_end (I.ok.hd hc) st (by have : n ≤ i := hg; omega) fun h' eb => ⟨rfl, I.turned (t' := s.toks) (fun b o hb e => eb b o hb e) f0 f1 f3 f4 f5⟩
  self := fun _ _ _ _ _ st h => wpAny_pyIter_rangeiter st h
end L2
namespace L2
open PySem PySem.Spec PyProof.Rows
section
variable {X : Cx} {tg : Expr}
theorem range_it {pins : List (Addr × Obj)} {σ : St} {H : Hp} {s : Shared} {R : It → Hp → Prop} {E : Value → Shared → Prop} {lo hi : Int} {t u v : Tok} {tk : Nat} (I : Inv X pins σ H s) (h1 : -(2 ^ 62) ≤ lo) (h2 : lo < 2 ^ 62) (h3 : -(2 ^ 62) ≤ hi) (h4 : hi < 2 ^ 62)
    (q : R (Itr lo (hi - lo).toNat) H) : wpAny (model X.prog X.w) X.A (pyIter (.ref s.heap.objs.size)) (PIE X pins σ tg R) E { s with heap := s.heap.push { cls := .type "range", data := .fields #[.int lo t, .int hi u, .int 1 v] }, toks := tk } := by
  refine wpAny_pyIter_range (IsRange.new ..) (small_one h1 h2 h3 h4) ?_
  have I1 : Inv X pins σ H { s with heap := s.heap.push { cls := .type "range", data := .fields #[.int lo t, .int hi u, .int 1 v] }, toks := tk } := I.kept fun b o e => Heap.get?_push_of_some _ e
  refine ⟨(s.heap.push { cls := .type "range", data := .fields #[.int lo t, .int hi u, .int 1 v] }).objs.size, [(s.heap.push { cls := .type "range", data := .fields #[.int lo t, .int hi u, .int 1 v] }).objs.size], _, _, H, rfl,
    I1.kept (t' := tk) fun b o e => Heap.get?_push_of_some _ e, turn_range _ lo (hi - lo).toNat, ?_, fun b hb => ?_, q⟩
  · have e1 : lo + ((0 : Nat) : Int) * 1 = lo := by simp
    have e2 : (((hi - lo).toNat : Nat) : Int) - ((0 : Nat) : Int) = Builtin.Range.rangeSize lo hi 1 := by rw [rangeSize_one]; split <;> omega
    show IsRangeIter _ _ (lo + ((0 : Nat) : Int) * 1) ((((hi - lo).toNat : Nat) : Int) - ((0 : Nat) : Int)) 1
    rw [e1, e2]
    exact Heap.get?_push_size _ rfl
  · have e : b = (s.heap.push { cls := .type "range", data := .fields #[.int lo t, .int hi u, .int 1 v] }).objs.size := by simpa using hb
    subst e
    exact I1.fpOk (Nat.le_refl _) (I1.hok.fresh (Nat.le_refl _))
noncomputable def iRng1 (ta : TA) : TI := fun σ H R => ta σ H fun vs H1 => ∃ j : Int, vs = [.int j] ∧ -(2 ^ 62) ≤ j ∧ j < 2 ^ 62 ∧ R (Itr 0 j.toNat) H1
theorem pi_range1 {a : Expr} {ta : TA} {p pos : Pos} (hg : Gl X "range") (hm : X.mg "range" = none) (ha : PA X [a] ta) (hs : starEach [a] X.env = [(false, eval a X.env)] := by rfl) : PI X tg (.Call (.Name "range" p) [a] [] pos) (iRng1 ta) := by
  intro pins s σ H R I h
  refine Call_ (ld_blt I hg hm boot_range (PyProof.Rows.callWith_type1 (thn (ha pos pins s σ H _ I h) fun us s1 ⟨vs, H1, I1, r1, q1⟩ => ?_) hs rfl))
  obtain ⟨j, e, q1, q2, q⟩ := q1
  subst e
  cases r1 with
  | cons r rr =>
    cases rr
    obtain ⟨t, rfl⟩ := r
    exact call_range_1 (range_it I1 (by omega) (by omega) q1 q2 (by simpa using q))
noncomputable def tFor (wi : TI) (g : TG) (tb : TS) : TS := fun D σ H => wi σ H fun J H1 => ∃ W : Nat → Nat → St → Hp → Prop, (∃ m, W 0 m σ H1) ∧ ∀ i m σ H, W i m σ H →
  (J.stop i H ∧ D.nx σ H) ∨ (J.go i H ∧ ∃ N : St → Hp → Prop, (∀ σ' H', N σ' H' → ∃ m', m' < m ∧ W (i + 1) m' σ' H') ∧ ∀ x H', J.yld i H x H' → g x σ H' fun σ2 H2 => tb { D with nx := N, ct := N, bk := D.nx } σ2 H2)
noncomputable def pinsAt (fp : List Addr) (h : Heap) : List (Addr × Obj) := fp.filterMap fun b => (h.get? b).map fun o => (b, o)
theorem mem_pinsAt {fp : List Addr} {h : Heap} {b : Addr} {o : Obj} (hb : b ∈ fp) (e : h.get? b = some o) : (b, o) ∈ pinsAt fp h := List.mem_filterMap.mpr ⟨b, hb, by rw [e]; rfl⟩
theorem of_pinsAt {fp : List Addr} {h : Heap} {p : Addr × Obj} (hp : p ∈ pinsAt fp h) : p.1 ∈ fp ∧ h.get? p.1 = some p.2 := by
  obtain ⟨b, hb, e⟩ := List.mem_filterMap.mp hp
  cases q : h.get? b with
  | none => rw [q] at e; cases e
  | some o =>
    rw [q] at e
    have e' : (b, o) = p := Option.some.inj e
    subst e'
    exact ⟨hb, q⟩
theorem Inv.pinned {pins : List (Addr × Obj)} {σ : St} {H : Hp} {s : Shared} {fp : List Addr} (I : Inv X pins σ H s) (hf : ∀ b ∈ fp, FpOk X pins H b) (ho : ∀ b ∈ fp, ∃ o, s.heap.get? b = some o ∧ ∀ v, o.data ≠ .cell v) : Inv X (pins ++ pinsAt fp s.heap) σ H s :=
  I.pins_of fun p hp => (List.mem_append.mp hp).elim (fun z => I.pin p (List.mem_append_right _ z)) fun z => by
    obtain ⟨hb, e⟩ := of_pinsAt z
    obtain ⟨f0, f1, f2, _⟩ := hf p.1 hb
    obtain ⟨o, e', d⟩ := ho p.1 hb
    rw [e] at e'; cases e'
    exact ⟨e, f0, f1, f2, d⟩
theorem Inv.unpinned {pins pl : List (Addr × Obj)} {σ : St} {H : Hp} {s : Shared} (I : Inv X (pins ++ pl) σ H s) : Inv X pins σ H s := I.pins_of fun p hp => I.pin p (List.mem_append_right _ (List.mem_append_left _ hp))
theorem ps_for {iter : Expr} {body : List Stmt} {wi : TI} {g : TG} {tb : TS} {pos : Pos} (hp : PassesOwn (model X.prog X.w) X.A X.env X.xe) (hc : X.calm = true) (hi : PI X tg iter wi) (hg : PG X tg g) (hb : PSs X body tb)
    (hs : ∀ x, foldedSetIterable iter X.env x = pure x := by intro _; rfl) : PS X (.For tg iter body [] pos) (tFor wi g tb) := by
  intro pins s σ H D I h
  refine wpAny_For (thn (hi pins s σ H _ I h) fun v s1 h1 => thn h1 fun itv s2 h2 => ?_) hs
  obtain ⟨it, fp, tn, J, H2, e, I2, T, st2, f2, W, ⟨m0, w0⟩, turn⟩ := h2
  subst e
  have stat : ∀ {H' : Hp}, (∀ b ∈ fp, H' b = none) → ∀ b ∈ fp, FpOk X pins H' b := fun hn b hb => ⟨hn b hb, (f2 b hb).2⟩
  refine codeAny_forLoop_any (fun n s' => ∃ i σ' H', Inv X pins σ' H' s' ∧ tn i s'.heap ∧ (∀ b ∈ fp, H' b = none) ∧ W i n σ' H') ?_ m0 ⟨0, σ, H2, I2, st2, fun b hb => (f2 b hb).1, w0⟩
  rintro n s3 ⟨i, σ3, H3, I3, st3, fr3, w3⟩
  rcases turn i n σ3 H3 w3 with ⟨stop, qn⟩ | ⟨go, N, hN, step⟩
  · refine wpAny_passesOwn hp (thn (T.done X rfl rfl rfl hc i pins s3 σ3 H3 X.xe I3 (stat fr3) st3 stop) fun r s4 ⟨hr, I4⟩ => ?_)
    subst hr
    exact wpAny_execs_nil ⟨σ3, H3, I4, qn⟩
  · refine wpAny_passesOwn hp (thn (T.item X rfl rfl rfl hc i pins s3 σ3 H3 X.xe I3 (stat fr3) st3 go) fun r s4 ⟨u, hr, h4⟩ => ?_)
    subst hr
    refine wpAny_passesOwn hp (thn h4 fun _ s5 ⟨x, H5, I5, r5, y5, st5, fr5⟩ => ?_)
    have I5' := I5.pinned (stat fr5) (T.obj _ _ st5)
    refine wpAny_passesOwn hp (thn (hg _ s5 σ3 H5 x u _ I5' r5 (step x H5 y5)) fun _ s6 ⟨σ6, H6, I6, q6⟩ => ?_)
    refine wpAny_passesOwn hp (thn (hb _ s6 σ6 H6 _ I6 q6) fun f s7 q7 => ?_)
    have again : ∀ {σ7 : St} {H7 : Hp}, Inv X (pins ++ pinsAt fp s5.heap) σ7 H7 s7 → N σ7 H7 → ∃ m, m < n ∧ ∃ i σ' H', Inv X pins σ' H' s7 ∧ tn i s7.heap ∧ (∀ b ∈ fp, H' b = none) ∧ W i m σ' H' := fun {σ7 H7} I7 n7 => by
      obtain ⟨m', hm, w7⟩ := hN σ7 H7 n7
      refine ⟨m', hm, i + 1, σ7, H7, I7.unpinned, T.keep _ _ _ st5 fun b hb o e => (I7.pin (b, o) (List.mem_append_right _ (List.mem_append_right _ (mem_pinsAt hb e)))).1, fun b hb => ?_, w7⟩
      obtain ⟨o, e, d⟩ := T.obj _ _ st5 b hb
      exact (I7.pin (b, o) (List.mem_append_right _ (List.mem_append_right _ (mem_pinsAt hb e)))).2.1
    cases f with
    | next => obtain ⟨σ7, H7, I7, n7⟩ := q7; exact again I7 n7
    | cont => obtain ⟨σ7, H7, I7, n7⟩ := q7; exact again I7 n7
    | brk => obtain ⟨σ7, H7, I7, q7⟩ := q7; exact ⟨σ7, H7, I7.unpinned, q7⟩
    | ret v => obtain ⟨x7, σ7, H7, I7, r7, q7⟩ := q7; exact ⟨x7, σ7, H7, I7.unpinned, r7, q7⟩
end
end L2
namespace L2
open PySem PySem.Spec PyProof.Rows
noncomputable abbrev R2 := V → V → Hp → VK → Prop
noncomputable def OpR (X : Cx) (f : Value → Value → Sem Value) (r : R2) : Prop :=
  ∀ (pins : List (Addr × Obj)) (s : Shared) (σ : St) (H : Hp) (x y : V) (v u : Value) (Q : VK), Inv X pins σ H s → RelV x v → RelV y u → r x y H Q →
    wpAny (model X.prog X.w) X.A (f v u) (EP X pins σ Q) X.xe s
noncomputable def UnR (X : Cx) (f : Value → Sem Value) (r : V → Hp → VK → Prop) : Prop :=
  ∀ (pins : List (Addr × Obj)) (s : Shared) (σ : St) (H : Hp) (x : V) (v : Value) (Q : VK), Inv X pins σ H s → RelV x v → r x H Q →
    wpAny (model X.prog X.w) X.A (f v) (EP X pins σ Q) X.xe s
noncomputable def CallR (X : Cx) (f : Value) (r : List V → Hp → VK → Prop) : Prop :=
  ∀ (pins : List (Addr × Obj)) (s : Shared) (σ : St) (H : Hp) (xs : List V) (us : List Value) (Q : VK), Inv X pins σ H s → Vals xs us → r xs H Q →
    wpAny (model X.prog X.w) X.A (call f us) (EP X pins σ Q) X.xe s
noncomputable def tOp (r : R2) (ta tb : TE) : TE := fun σ H Q => ta σ H fun x H1 => tb σ H1 fun y H2 => r x y H2 Q
noncomputable def tUn (r : V → Hp → VK → Prop) (ta : TE) : TE := fun σ H Q => ta σ H fun x H1 => r x H1 Q
noncomputable def rI (C : Int → Int → Prop) (g : Int → Int → V) : R2 := fun x y H Q => ∃ i j, x = .int i ∧ y = .int j ∧ C i j ∧ Q (g i j) H
noncomputable def rI0 (g : Int → Int → V) : R2 := fun x y H Q => ∃ i j, x = .int i ∧ y = .int j ∧ Q (g i j) H
noncomputable def rU (g : Int → V) : V → Hp → VK → Prop := fun x H Q => ∃ i, x = .int i ∧ Q (g i) H
section
variable {X : Cx} {a b c : Expr} {ta tb tc : TE} {pos : Pos}
theorem binT (ha : PE X a ta) (hb : PE X b tb) {pins : List (Addr × Obj)} {s : Shared} {σ : St} {H : Hp} {R : V → V → Hp → Prop} (I : Inv X pins σ H s)
    (h : ta σ H fun x H1 => tb σ H1 fun y H2 => R x y H2) {Q : Value → Shared → Prop} {f : Value → Value → Sem Value}
    (hf : ∀ v u s2 x y H2, Inv X pins σ H2 s2 → RelV x v → RelV y u → R x y H2 → wpAny (model X.prog X.w) X.A (f v u) Q X.xe s2) :
    wpAny (model X.prog X.w) X.A (eval a X.env) (fun v s₁ => wpAny (model X.prog X.w) X.A (eval b X.env) (fun u s₂ => wpAny (model X.prog X.w) X.A (f v u) Q X.xe s₂) X.xe s₁) X.xe s := by
  refine thn (ha pins s σ H _ I h) fun v s1 ⟨x, H1, I1, r1, q1⟩ => ?_
  refine thn (hb pins s1 σ H1 _ I1 q1) fun u s2 ⟨y, H2, I2, r2, q2⟩ => ?_
  exact hf v u s2 x y H2 I2 r1 r2 q2
theorem pe_op {op : Operator} {r : R2} (ho : OpR X (binaryOp op) r) (ha : PE X a ta) (hb : PE X b tb) : PE X (.BinOp a op b pos) (tOp r ta tb) := by
  intro pins s σ H Q I h
  exact wpAny_BinOp (binT ha hb I h fun v u s2 x y H2 I2 rx ry q => ho pins s2 σ H2 x y v u Q I2 rx ry q)
theorem pe_un {op : UnaryOp} {r : V → Hp → VK → Prop} (ho : UnR X (unaryOp op) r) (ha : PE X a ta) : PE X (.UnaryOp op a pos) (tUn r ta) := by
  intro pins s σ H Q I h
  exact UnaryOp_ (thn (ha pins s σ H _ I h) fun v s1 ⟨x, H1, I1, r1, q1⟩ => ho pins s1 σ H1 x v Q I1 r1 q1)
theorem opI {f : Value → Value → Sem Value} {C : Int → Int → Prop} {g : Int → Int → Int}
    (rule : ∀ (i j : Int) (t u : Tok) (s : Shared) (Q : Value → Shared → Prop) (E : Value → Shared → Prop), C i j → Q (.int (g i j) s.toks) { s with toks := s.toks + 1 } → wpAny (model X.prog X.w) X.A (f (.int i t) (.int j u)) Q E s) :
    OpR X f (rI C fun i j => .int (g i j)) := by
  intro pins s σ H x y v u Q I rx ry h
  obtain ⟨i, j, rfl, rfl, hc, q⟩ := h
  obtain ⟨t, rfl⟩ := rx
  obtain ⟨t', rfl⟩ := ry
  exact rule i j t t' s _ _ hc ⟨.int (g i j), H, I.tok _, ⟨_, rfl⟩, q⟩
theorem opI0 {f : Value → Value → Sem Value} {g : Int → Int → Int}
    (rule : ∀ (i j : Int) (t u : Tok) (s : Shared) (Q : Value → Shared → Prop) (E : Value → Shared → Prop), Q (.int (g i j) s.toks) { s with toks := s.toks + 1 } → wpAny (model X.prog X.w) X.A (f (.int i t) (.int j u)) Q E s) :
    OpR X f (rI0 fun i j => .int (g i j)) := by
  intro pins s σ H x y v u Q I rx ry h
  obtain ⟨i, j, rfl, rfl, q⟩ := h
  obtain ⟨t, rfl⟩ := rx
  obtain ⟨t', rfl⟩ := ry
  exact rule i j t t' s _ _ ⟨.int (g i j), H, I.tok _, ⟨_, rfl⟩, q⟩
theorem opB0 {f : Value → Value → Sem Value} {g : Int → Int → Bool}
    (rule : ∀ (i j : Int) (t u : Tok) (s : Shared) (Q : Value → Shared → Prop) (E : Value → Shared → Prop), Q (.bool (g i j)) s → wpAny (model X.prog X.w) X.A (f (.int i t) (.int j u)) Q E s) :
    OpR X f (rI0 fun i j => .bl (g i j)) := by
  intro pins s σ H x y v u Q I rx ry h
  obtain ⟨i, j, rfl, rfl, q⟩ := h
  obtain ⟨t, rfl⟩ := rx
  obtain ⟨t', rfl⟩ := ry
  exact rule i j t t' s _ _ ⟨.bl (g i j), H, I, rfl, q⟩
noncomputable def CPow (i j : Int) : Prop := 0 ≤ j ∧ j ≤ 1000000 ∧ i.natAbs < 2 ^ 64
noncomputable def CMul (i j : Int) : Prop := (-(2 ^ 64) < i ∧ i < 2 ^ 64) ∨ (-(2 ^ 64) < j ∧ j < 2 ^ 64)
theorem CMul.ok {i j : Int} (h : CMul i j) : IntMulOk i j := by
  rcases h with ⟨h1, h2⟩ | ⟨h1, h2⟩
  · exact .of_left (intBits_le_64 h1 h2)
  · exact .of_right (intBits_le_64 h1 h2)
theorem two_pow_nn (k : Nat) : (0 : Int) ≤ 2 ^ k := by
  rw [two_pow_cast]
  exact Int.natCast_nonneg _
theorem op_add : OpR X (binaryOp .Add) (rI0 fun i j => .int (i + j)) := opI0 fun _ _ _ _ _ _ _ q => add_int q
theorem op_sub : OpR X (binaryOp .Sub) (rI0 fun i j => .int (i - j)) := opI0 fun _ _ _ _ _ _ _ q => sub_int q
theorem op_mod : OpR X (binaryOp .Mod) (rI (fun _ j => 0 < j) fun i j => .int (i % j)) := opI fun i j _ _ _ _ _ hc q => by
  have h1 : (0 : Int) < j := hc
  exact mod_int' (by omega) (by rw [Int.fmod_eq_emod_of_nonneg i (by omega)]; exact q)
theorem op_pow : OpR X (binaryOp .Pow) (rI CPow fun i j => .int (i ^ j.toNat)) := opI fun _ _ _ _ _ _ _ hc q => pow_int_small hc.1 hc.2.1 hc.2.2 q
theorem op_shr : OpR X (binaryOp .RShift) (rI (fun _ j => 0 ≤ j) fun i j => .int (i / 2 ^ j.toNat)) := opI fun i j _ _ _ _ _ hc q =>
  rshift_int hc (by rw [Int.fdiv_eq_ediv_of_nonneg i (two_pow_nn _)]; exact q)
theorem op_and : OpR X (binaryOp .BitAnd) (rI0 fun i j => .int (Builtin.bitAnd i j)) := opI0 fun _ _ _ _ _ _ _ q => and_int q
theorem unI {f : Value → Sem Value} {g : Int → Int}
    (rule : ∀ (i : Int) (t : Tok) (s : Shared) (Q : Value → Shared → Prop) (E : Value → Shared → Prop), Q (.int (g i) s.toks) { s with toks := s.toks + 1 } → wpAny (model X.prog X.w) X.A (f (.int i t)) Q E s) :
    UnR X f (rU fun i => .int (g i)) := by
  intro pins s σ H x v Q I rx h
  obtain ⟨i, rfl, q⟩ := h
  obtain ⟨t, rfl⟩ := rx
  exact rule i t s _ _ ⟨.int (g i), H, I.tok _, ⟨_, rfl⟩, q⟩
theorem un_neg : UnR X (unaryOp .USub) (rU fun i => .int (-i)) := unI fun _ _ _ _ _ q => neg_int q
end
section
variable {X : Cx} {a b c : Expr} {ta tb tc : TE} {pos : Pos}
theorem fin_bl {pins : List (Addr × Obj)} {σ : St} {H : Hp} {s : Shared} {Q : VK} {k k' : Bool} (I : Inv X pins σ H s) (q : Q (.bl k) H) (e : k = k') : EP X pins σ Q (.bool k') s := by
  subst e
  exact ⟨.bl k, H, I, rfl, q⟩
theorem op_lt : OpR X (compareOp .Lt) (rI0 fun i j => .bl (decide (i < j))) := opB0 fun _ _ _ _ _ _ _ q => lt_int q
theorem op_le : OpR X (compareOp .LtE) (rI0 fun i j => .bl (decide (i ≤ j))) := opB0 fun _ _ _ _ _ _ _ q => le_int q
theorem op_gt : OpR X (compareOp .Gt) (rI0 fun i j => .bl (decide (j < i))) := opB0 fun _ _ _ _ _ _ _ q => gt_int q
theorem op_ge : OpR X (compareOp .GtE) (rI0 fun i j => .bl (decide (j ≤ i))) := opB0 fun _ _ _ _ _ _ _ q => ge_int q
theorem op_in_str : OpR X (compareOp .In) (fun x y H Q => ∃ i j, x = .str i ∧ y = .str j ∧ Q (.bl (!(Builtin.Str.occurrences j i 0 j.length 1).isEmpty)) H) := by
  intro pins s σ H x y v u Q I rx ry h
  obtain ⟨i, j, rfl, rfl, q⟩ := h
  obtain ⟨t, rfl⟩ := rx
  obtain ⟨t', rfl⟩ := ry
  exact in_str (fin_bl I q rfl)
theorem op_isN : OpR X (compareOp .Is) (fun x y H Q => y = .non ∧ Q (.bl (decide (x = .non))) H) := by
  intro pins s σ H x y v u Q I rx ry h
  obtain ⟨rfl, q⟩ := h
  cases ry
  refine is_none_gen (fin_bl I q ?_)
  cases x <;> first
    | (cases rx; rfl)
    | (obtain ⟨t, rfl⟩ := rx; rfl)
theorem op_notN : OpR X (compareOp .IsNot) (fun x y H Q => y = .non ∧ Q (.bl (!decide (x = .non))) H) := by
  intro pins s σ H x y v u Q I rx ry h
  obtain ⟨rfl, q⟩ := h
  cases ry
  refine isnot_none_gen (fin_bl I q ?_)
  cases x <;> first
    | (cases rx; rfl)
    | (obtain ⟨t, rfl⟩ := rx; rfl)
theorem op_notin_str : OpR X (compareOp .NotIn) (fun x y H Q => ∃ i j, x = .str i ∧ y = .str j ∧ Q (.bl (!(!(Builtin.Str.occurrences j i 0 j.length 1).isEmpty))) H) := by
  intro pins s σ H x y v u Q I rx ry h
  obtain ⟨i, j, rfl, rfl, q⟩ := h
  obtain ⟨t, rfl⟩ := rx
  obtain ⟨t', rfl⟩ := ry
  exact notIn_str (fin_bl I q rfl)
theorem OpR.or {f : Value → Value → Sem Value} {r r' : R2} (h : OpR X f r) (h' : OpR X f r') : OpR X f (fun x y H Q => r x y H Q ∨ r' x y H Q) := by
  intro pins s σ H x y v u Q I rx ry q
  rcases q with q | q
  · exact h pins s σ H x y v u Q I rx ry q
  · exact h' pins s σ H x y v u Q I rx ry q
theorem pe_cmpR {op : CmpOp} {r : R2} (ho : OpR X (compareOp op) r) (ha : PE X a ta) (hb : PE X b tb) (hm : behindInMarks op b = false) : PE X (.Compare a [op] [b] pos) (tOp r ta tb) := by
  intro pins s σ H Q I h
  exact wpAny_Compare1 (binT ha hb I h fun v u s2 x y H2 I2 rx ry q => ho pins s2 σ H2 x y v u Q I2 rx ry q) hm
noncomputable def tTest (t : TE) : TT := fun σ H Q => t σ H fun x H' => ∃ k, x = .bl k ∧ Q k H'
theorem pt_cmpR {op : CmpOp} {r : R2} (ho : OpR X (compareOp op) r) (ha : PE X a ta) (hb : PE X b tb) (hm : behindInMarks op b = false) : PT X (.Compare a [op] [b] pos) (tTest (tOp r ta tb)) := by
  intro pins s σ H Q I h
  refine wpAny_isTrue_Compare1 (thn (ha pins s σ H _ I h) fun v s1 ⟨x, H1, I1, r1, q1⟩ => thn (hb pins s1 σ H1 _ I1 q1) fun u s2 ⟨y, H2, I2, r2, q2⟩ =>
    thn (ho pins s2 σ H2 x y v u _ I2 r1 r2 q2) fun c s3 ⟨z, H3, I3, r3, k, e, q3⟩ => ?_) hm
  subst e
  cases r3
  exact wpAny_truthy_bool ⟨H3, I3, q3⟩
noncomputable def tChain (r r' : R2) (ta tb tc : TE) : TE := fun σ H Q => ta σ H fun x H1 => tb σ H1 fun y H2 => r x y H2 fun z H3 => ∃ k, z = .bl k ∧
  (if k = true then tc σ H3 fun w' H4 => r' y w' H4 Q else Q (.bl false) H3)
theorem pe_chain {op op' : CmpOp} {r r' : R2} (ho : OpR X (compareOp op) r) (ho' : OpR X (compareOp op') r') (ha : PE X a ta) (hb : PE X b tb) (hc : PE X c tc)
    (hm : lastMarks [op, op'] [b, c] = false := by with_unfolding_all rfl) : PE X (.Compare a [op, op'] [b, c] pos) (tChain r r' ta tb tc) := by
  intro pins s σ H Q I h
  refine Compare_chain (thn (ha pins s σ H _ I h) fun v s1 ⟨x, H1, I1, r1, q1⟩ => chain_link (thn (hb pins s1 σ H1 _ I1 q1) fun u s2 ⟨y, H2, I2, r2, q2⟩ =>
    thn (ho pins s2 σ H2 x y v u _ I2 r1 r2 q2) fun d s3 ⟨z, H3, I3, r3, k, e, q3⟩ => ?_)) hm
  subst e
  cases r3
  refine wpAny_truthy_bool ?_
  cases k with
  | false => exact ite_ff ⟨.bl false, H3, I3, rfl, q3⟩
  | true => exact ite_tt (chain_last (thn (hc pins s3 σ H3 _ I3 q3) fun w' s4 ⟨z', H4, I4, r4, q4⟩ => ho' pins s4 σ H4 y z' u w' Q I4 r2 r4 q4))
theorem pt_chain {op op' : CmpOp} {r r' : R2} (ho : OpR X (compareOp op) r) (ho' : OpR X (compareOp op') r') (ha : PE X a ta) (hb : PE X b tb) (hc : PE X c tc)
    (hm : lastMarks [op, op'] [b, c] = false := by with_unfolding_all rfl) : PT X (.Compare a [op, op'] [b, c] pos) (tTest (tChain r r' ta tb tc)) := by
  intro pins s σ H Q I h
  refine isTrue_chain (thn (ha pins s σ H _ I h) fun v s1 ⟨x, H1, I1, r1, q1⟩ => test_link (thn (hb pins s1 σ H1 _ I1 q1) fun u s2 ⟨y, H2, I2, r2, q2⟩ =>
    thn (ho pins s2 σ H2 x y v u _ I2 r1 r2 q2) fun d s3 ⟨z, H3, I3, r3, k, e, q3⟩ => ?_)) hm
  subst e
  cases r3
  refine wpAny_truthy_bool ?_
  cases k with
  | false =>
    obtain ⟨k', e', q'⟩ := q3
    cases e'
    exact ite_ff ⟨H3, I3, q'⟩
  | true =>
    refine ite_tt (test_last (thn (hc pins s3 σ H3 _ I3 q3) fun w' s4 ⟨z', H4, I4, r4, q4⟩ => thn (ho' pins s4 σ H4 y z' u w' _ I4 r2 r4 q4) fun d' s5 ⟨z2, H5, I5, r5, k2, e2, q5⟩ => ?_))
    subst e2
    cases r5
    exact wpAny_truthy_bool ⟨H5, I5, q5⟩
theorem line63 : (sizeLine : Nat) < 2 ^ 63 := by rw [sizeLine_eq]; decide
theorem op_add_str : OpR X (binaryOp .Add) (fun x y H Q => ∃ i j, x = .str i ∧ y = .str j ∧ i.length + j.length ≤ sizeLine ∧ Q (.str (i ++ j)) H) := by
  intro pins s σ H x y v u Q I rx ry h
  obtain ⟨i, j, rfl, rfl, hz, q⟩ := h
  obtain ⟨t, rfl⟩ := rx
  obtain ⟨t', rfl⟩ := ry
  exact add_str (fun t' tk => ⟨.str (i ++ j), H, I.tok _, ⟨_, rfl⟩, q⟩) hz
theorem vals1 {x : V} {us : List Value} (r : Vals [x] us) : ∃ u, us = [u] ∧ RelV x u := by
  cases r with
  | cons r1 r2 => cases r2; exact ⟨_, rfl, r1⟩
theorem vals2 {x y : V} {us : List Value} (r : Vals [x, y] us) : ∃ u w', us = [u, w'] ∧ RelV x u ∧ RelV y w' := by
  cases r with
  | cons r1 r2 =>
    cases r2 with
    | cons r3 r4 => cases r4; exact ⟨_, _, rfl, r1, r3⟩
theorem call_min2 (hc : X.calm = true) : CallR X (.builtin "min") (fun xs H Q => ∃ i j, xs = [.int i, .int j] ∧ Q (.int (if j < i then j else i)) H) := by
  intro pins s σ H xs us Q I r h
  obtain ⟨i, j, rfl, q⟩ := h
  obtain ⟨u, w', rfl, ⟨t, rfl⟩, ⟨t', rfl⟩⟩ := vals2 r
  refine min_two_ints (I.ok.hd hc) fun h' tk k => ⟨_, H, I.kept k, ?_, q⟩
  by_cases hj : j < i
  · rw [if_pos hj, if_pos hj]; exact ⟨_, rfl⟩
  · rw [if_neg hj, if_neg hj]; exact ⟨_, rfl⟩
end
end L2
namespace L2
open PySem PySem.Spec PyProof.Rows
section
variable {prog : Program} {w : World} {A : Around} {E : Value → Shared → Prop} {s : Shared} {K : PySem.W.Frag} {x dx C f : Addr} {mA : Str → Option Value} {name : Str} {v : Value}
end
theorem RelO.some_of {v : V} {o : Option Value} (r : RelO (some v) o) : ∃ u, o = some u ∧ RelV v u := by
  cases o with
  | none => exact (show False from r).elim
  | some u => exact ⟨u, rfl, r⟩
section
variable {P : Program} {w : World} {H H' : Hp} {h h' : Heap} {a C dx : Addr} {fs fs' : List (Str × V)}
end
structure Cls (K : PySem.W.Frag) (C : Addr) : Prop where
  pg : PySem.W.plainGet K C Str.empty = true
  hd : PySem.W.hasDictIn K C = true
  po : PySem.W.plainOver K C = true
  sa : PySem.W.findIn K (.ref C) "__setattr__" = some (some (.builtin "object.__setattr__"))
theorem Cls.get {K : PySem.W.Frag} {C : Addr} (c : Cls K C) (f : Str) : PySem.W.plainGet K C f = true := c.pg
noncomputable def NoAttr (K : PySem.W.Frag) (C : Addr) (f : Str) : Prop := PySem.W.findIn K (.ref C) f = some none
structure Meth (K : PySem.W.Frag) (C : Addr) (m : Str) (f : Addr) : Prop where
  at_ : PySem.W.findIn K (.ref C) m = some (some (.ref f))
  fn : PySem.W.isFn K (.ref f) = true
  kp : PySem.W.keepIn K (.ref f) = true
section
variable {X : Cx} {pins : List (Addr × Obj)} {σ : St} {H : Hp} {s : Shared} {a C dx : Addr} {fs : List (Str × V)} {f : Str} {v : V} {A : Around} {E : Value → Shared → Prop}
end
section
variable {X : Cx} {o e value : Expr} {f : Str} {pos pos' tpos : Pos} {ta tv : TE}
end
section
variable {X : Cx} {pins : List (Addr × Obj)} {σ : St} {H : Hp} {s : Shared} {A : Around} {E : Value → Shared → Prop} {Q : Value → Shared → Prop} {c : Value} {b : Bool}
end
end L2
namespace L2
open PySem PySem.Spec PyProof.Rows
structure Room (k : Nat) (A : Around) : Prop where
  hd : A.handled = none
  dp : A.depth + 3 * k + 5 < recursionLimit
  un : A.units + 16 * k + 200 < cLine
theorem Room.mono {j k : Nat} {A : Around} (r : Room k A) (h : j ≤ k) : Room j A := ⟨r.hd, by have := r.dp; omega, by have := r.un; omega⟩
theorem Room.deeper {k : Nat} {A : Around} (r : Room (k + 1) A) (env : Env) : Room k (A.deeper env) :=
  ⟨r.hd, by have := r.dp; show A.depth + 1 + 3 * k + 5 < _; omega, by have := r.un; show A.units + 3 + 16 * k + 200 < _; omega⟩
theorem Room.in1 {k : Nat} {A : Around} (r : Room (k + 1) A) : Room k A.in1 :=
  ⟨r.hd, by have := r.dp; show A.depth + 3 * k + 5 < _; omega, by have := r.un; show A.units + 1 + 16 * k + 200 < _; omega⟩
theorem Room.depth {k : Nat} {A : Around} (r : Room k A) : A.depth < recursionLimit := by have := r.dp; omega
theorem Room.units {k : Nat} {A : Around} (r : Room k A) : A.units + 64 < cLine := by have := r.un; omega
noncomputable def tNil : TA := fun _ H Q => Q [] H
noncomputable def tCons (ta : TE) (tr : TA) : TA := fun σ H Q => ta σ H fun x H1 => tr σ H1 fun xs H2 => Q (x :: xs) H2
section
variable {X : Cx} {e : Expr} {es : List Expr} {te : TE} {t : TA} {pos : Pos}
theorem pa_nil : PA X [] tNil := fun _ _ _ _ H Q I h => Calls.spliced_nil ⟨[], H, I, .nil, h⟩
theorem pa_cons (ha : PE X e te) (hr : PA X es t) (hs : starEach (e :: es) X.env = (false, eval e X.env) :: starEach es X.env := by rfl) : PA X (e :: es) (tCons te t) := by
  intro pos pins s σ H Q I h
  rw [hs]
  show wpAny _ _ (spliced ((false, eval e X.env) :: backTo pos (starEach es X.env))) _ _ s
  refine Calls.spliced_cons (thn (ha pins s σ H _ I h) fun u s1 ⟨x, H1, I1, r1, q1⟩ => ?_)
  exact thn (hr pos pins s1 σ H1 _ I1 q1) fun us s2 ⟨xs, H2, I2, r2, q2⟩ => ⟨x :: xs, H2, I2, .cons r1 r2, q2⟩
noncomputable def tLst (t : TA) : TE := fun σ H Q => t σ H fun xs H1 => xs.length ≤ sizeLine ∧ ∀ p, H1 p = none → Q (.ref p) (upd H1 p (.lst xs))
theorem pe_lst (h : PA X es t) : PE X (.List es pos) (tLst t) := by
  intro pins s σ H Q I hq
  refine wpAny_List_spliced (thn (h pos pins s σ H _ I hq) fun us s1 ⟨xs, H1, I1, r, z, q⟩ => ⟨by rw [← r.length]; exact z, ?_⟩)
  have hf : H1 s1.heap.objs.size = none := I1.hok.fresh (Nat.le_refl _)
  refine ⟨.ref s1.heap.objs.size, upd H1 s1.heap.objs.size (.lst xs), I1.laid (t' := s1.toks) (fun b u e => Heap.get?_push_of_some _ e) (Nat.le_refl _) ?_, rfl, q _ hf⟩
  exact ⟨z, us, 0, r, Heap.get?_push_size _ rfl⟩
end
noncomputable abbrev Sp := List V → Hp → VK → XK → Prop
noncomputable abbrev CXT := List Env → Hp → Shared → XK → Value → Shared → Prop
structure Env0 (P : Program) (w : World) (K : PySem.W.Frag) (mg : Str → Option Value) (base : Heap) (A : Around) (outer : List Env) (s : Shared) (H : Hp) : Prop where
  frames : A.frames = some outer
  mod : Mod K mg base
  bs : ∀ b o, base.get? b = some o → s.heap.get? b = some o ∧ H b = none
  bsz : base.objs.size ≤ s.heap.objs.size
  funs : s.heap.FunFrames base outer
  frf : ∀ b ∈ frs outer, H b = none
  hok : HOk P w H s.heap
  bare : AllBare s.gens
noncomputable def CE (outer : List Env) (P : Program) (w : World) (H : Hp) (s : Shared) (Q : VK) (u : Value) (s' : Shared) : Prop :=
  ∃ v H', s'.os = s.os ∧ AllBare s'.gens ∧ Un (frs outer) [] H H' s.heap s'.heap ∧ HOk P w H' s'.heap ∧ RelV v u ∧ Q v H'
noncomputable def CR (CX : CXT) (outer : List Env) (P : Program) (w : World) (H : Hp) (s : Shared) (Q : VK) (E : XK) (r : Result) (s' : Shared) : Prop :=
  match r with
  | .ok (.ret u) => CE outer P w H s Q u s'
  | .ok _ => False
  | .error e => CX outer H s E e s'
structure FnOk (P : Program) (w : World) (K : PySem.W.Frag) (mg : Str → Option Value) (base : Heap) (CX : CXT) (k : Nat) (f : Addr) (fd : FuncData) (ps : List Str) (sp : Sp) : Prop where
  len : ∀ vs H Q E, sp vs H Q E → vs.length = ps.length
  run : ∀ (A : Around) (outer : List Env) (s : Shared) (H : Hp) (args : Args) (us : List Value) (vs : List V) (Q : VK) (E : XK), Room k A → Env0 P w K mg base A outer s H → BindsTo s fd args (ps.zip us) → Vals vs us → sp vs H Q E →
    codeAny (model P w) A (.call (.ref f) args) (CR CX outer P w H s Q E) s
theorem Env0.in1 {P : Program} {w : World} {K : PySem.W.Frag} {mg : Str → Option Value} {base : Heap} {A : Around} {outer : List Env} {s : Shared} {H : Hp} (e : Env0 P w K mg base A outer s H) :
    Env0 P w K mg base A.in1 outer s H := ⟨e.frames, e.mod, e.bs, e.bsz, e.funs, e.frf, e.hok, e.bare⟩
section
variable {X : Cx} {pins : List (Addr × Obj)} {σ : St} {H : Hp} {s s' : Shared}
theorem Inv.env0 (I : Inv X pins σ H s) : Env0 X.prog X.w X.K X.mg X.base X.A X.stack s H :=
  ⟨I.ok.frames, I.ok.mod, I.bs, Nat.le_trans I.ok.bsz I.sz, I.stack, I.stkFree, I.hok, I.bare⟩
theorem Inv.after {Q : VK} {u : Value} (I : Inv X pins σ H s) (h : CE X.stack X.prog X.w H s Q u s') : EP X pins σ Q u s' := by
  obtain ⟨v, H', os, bare, un, hok, r, q⟩ := h
  obtain ⟨hh, g, d, t, os'⟩ := s'
  obtain rfl : os' = s.os := os
  exact ⟨v, H', I.call (h' := hh) (g' := g) (d' := d) (t' := t) (ch := []) un hok bare (fun b z => absurd z (by simp)), r, q⟩
end
noncomputable def Binds (K : PySem.W.Frag) (fd : FuncData) (ps : List Str) (ds : List Value) : Prop :=
  ∀ (s : Shared) (us : List Value), K.In s.heap → (us ++ ds).length = ps.length → BindsTo s fd ⟨us, []⟩ (ps.zip (us ++ ds))
theorem Binds.all {K : PySem.W.Frag} {fd : FuncData} {ps : List Str} (h : ∀ us : List Value, us.length = ps.length → bindArgs fd ⟨us, []⟩ = pure (ps.zip us)) : Binds K fd ps [] := fun s us _ hl => by
  rw [List.append_nil] at hl ⊢
  exact .of_eq (h us hl)
noncomputable def Passes (CX : CXT) (X : Cx) (E : XK) : Prop := ∀ (pins : List (Addr × Obj)) (σ : St) (H : Hp) (s : Shared) (e : Value) (s' : Shared), Inv X pins σ H s → CX X.stack H s E e s' → X.xe e s'
section
variable {X : Cx} {CX : CXT} {k : Nat} {f C : Addr} {fd : FuncData} {ps : List Str} {sp : Sp} {dvs : List V} {ds : List Value} {E : XK} {x m : Str} {p pos apos : Pos} {e o : Expr} {es : List Expr} {ta : TE} {t : TA}
structure Mk (K : PySem.W.Frag) (C f : Addr) : Prop where
  makes : PySem.W.makesIn K C = true
  init : PySem.W.findIn K (.ref C) "__init__" = some (some (.ref f))
  fn : PySem.W.isFn K (.ref f) = true
  kp : PySem.W.keepIn K (.ref C) = true
end
section
variable {X : Cx} {CX : CXT} {k : Nat} {f C : Addr} {fd : FuncData} {ps ks : List Str} {sp : Sp} {E : XK} {x m : Str} {p pos apos kpos : Pos} {e o : Expr} {es : List Expr} {kws : List Keyword} {te ta : TE} {t tk : TA} {nm : Option Str}
variable {g : List Value → List Value → List Value} {gV : List V → List V → List V}
end
structure FnScope (N P : List Str) (sc : Scope) : Prop where
  kind : sc.kind = .function
  co : sc.isCoroutine = false
  gen : sc.isGenerator = false
  nd : N.Nodup
  pre : N.take P.length = P
  par : ∀ x ∈ P, sc.names.lookup x = some .local ∨ sc.names.lookup x = some .cell
  nofree : ∀ y ∈ sc.names, y.2 ≠ .free
theorem bindL_out {kindOf : Str → Option NameKind} {x : Str} : ∀ {binds : List (Str × Value)} {m : Str → Option Value}, (∀ v, (x, v) ∉ binds) → bindL kindOf binds m x = m x
  | [], _, _ => rfl
  | (n, v) :: r, m, h => by
    unfold bindL
    rw [bindL_out fun w hw => h w (List.mem_cons_of_mem _ hw)]
    split
    · have : x ≠ n := by rintro rfl; exact h v List.mem_cons_self
      simp [this]
    · rfl
theorem bindC_out {kindOf : Str → Option NameKind} {x : Str} : ∀ {binds : List (Str × Value)} {m : Str → Option Value}, (∀ v, (x, v) ∉ binds) → bindC kindOf binds m x = m x
  | [], _, _ => rfl
  | (n, v) :: r, m, h => by
    unfold bindC
    rw [bindC_out fun w hw => h w (List.mem_cons_of_mem _ hw)]
    split
    · rfl
    · have : x ≠ n := by rintro rfl; exact h v List.mem_cons_self
      simp [this]
theorem bindL_get {kindOf : Str → Option NameKind} {x : Str} {v : Value} : ∀ {P : List Str} {vs : List Value} {i : Nat} {m : Str → Option Value}, P.Nodup → P[i]? = some x → vs[i]? = some v → kindOf x = some .local →
    bindL kindOf (P.zip vs) m x = some v
  | [], _, _, _, _, h, _, _ => by simp at h
  | _ :: _, [], _, _, _, _, h, _ => by simp at h
  | p :: P, w :: vs, 0, m, nd, h1, h2, hk => by
    simp at h1 h2; subst h1; subst h2
    show bindL kindOf ((p, w) :: P.zip vs) m p = _
    unfold bindL
    rw [bindL_out fun v hv => (List.nodup_cons.mp nd).1 (List.of_mem_zip hv).1, if_pos hk]
    simp
  | p :: P, w :: vs, i + 1, m, nd, h1, h2, hk => by
    show bindL kindOf ((p, w) :: P.zip vs) m x = _
    unfold bindL
    exact bindL_get (i := i) (List.nodup_cons.mp nd).2 (by simpa using h1) (by simpa using h2) hk
theorem bindC_get {kindOf : Str → Option NameKind} {x : Str} {v : Value} : ∀ {P : List Str} {vs : List Value} {i : Nat} {m : Str → Option Value}, P.Nodup → P[i]? = some x → vs[i]? = some v → kindOf x ≠ some .local →
    bindC kindOf (P.zip vs) m x = some v
  | [], _, _, _, _, h, _, _ => by simp at h
  | _ :: _, [], _, _, _, _, h, _ => by simp at h
  | p :: P, w :: vs, 0, m, nd, h1, h2, hk => by
    simp at h1 h2; subst h1; subst h2
    show bindC kindOf ((p, w) :: P.zip vs) m p = _
    unfold bindC
    rw [bindC_out fun v hv => (List.nodup_cons.mp nd).1 (List.of_mem_zip hv).1, if_neg hk]
    simp
  | p :: P, w :: vs, i + 1, m, nd, h1, h2, hk => by
    show bindC kindOf ((p, w) :: P.zip vs) m x = _
    unfold bindC
    exact bindC_get (i := i) (List.nodup_cons.mp nd).2 (by simpa using h1) (by simpa using h2) hk
noncomputable def start (N : List Str) (vs : List V) : St := vs.map some ++ List.replicate (N.length - vs.length) none
noncomputable def cxOf (CX : CXT) (P : Program) (w : World) (K : PySem.W.Frag) (mg : Str → Option Value) (base : Heap) (N : List Str) (qual : Str) (scope : Scope) (f : Addr) (cd : Value) (A : Around) (outer : List Env) (s : Shared) (H : Hp) (E : XK) : Cx where
  prog := P
  w := w
  K := K
  mg := mg
  base := base
  A := A.deeper (envOfC qual scope s.heap.objs.size f cd)
  N := N
  s₀ := s
  H₀ := H
  env := envOfC qual scope s.heap.objs.size f cd
  outer := outer
  stack := envOfC qual scope s.heap.objs.size f cd :: outer
  ex := []
  calm := true
  fn := fun _ => true
  pn := []
  xe := fun e s' => wpAny (model P w) (A.deeper (envOfC qual scope s.heap.objs.size f cd)) (leaving (envOfC qual scope s.heap.objs.size f cd) e) (fun _ s'' => CX outer H s E e s'') (fun e' s'' => CX outer H s E e' s'') s'
theorem cell_has {sc : Scope} {n : Nat} {x : Str} (h : sc.names.lookup x = some .cell) : ∃ c, (cellsFrom n sc.names []).lookup x = some c := by
  have q := PySem.W.cellsFrom_some sc.names n [] (.inl h)
  exact Option.isSome_iff_exists.mp q
theorem inv_start {CX : CXT} {P : Program} {w : World} {K : PySem.W.Frag} {mg : Str → Option Value} {base : Heap} {N ps : List Str} {qual : Str} {scope : Scope} {f : Addr} {cd : Value} {A : Around} {outer : List Env} {s s1 : Shared} {H : Hp} {E : XK} {us : List Value} {vs : List V}
    (S : FnScope N ps scope) (hd : A.handled = none) (e0 : Env0 P w K mg base A outer s H) (hl : vs.length = ps.length) (r : Vals vs us)
    (x : InCallC s s.heap.objs.size (bindL (envOfC qual scope s.heap.objs.size f cd).kindOf (ps.zip us) fun _ => none) (cellsFrom (s.heap.objs.size + 1) scope.names []) (bindC (envOfC qual scope s.heap.objs.size f cd).kindOf (ps.zip us) fun _ => none) s1) :
    Inv (cxOf CX P w K mg base N qual scope f cd A outer s H E) [] (start N vs) H s1 := by
  have hpl : ps.length ≤ N.length := by have := congrArg List.length S.pre; rw [List.length_take] at this; omega
  obtain ⟨h1, tk, rfl, hk⟩ := x.done
  have noA : ∀ b : Addr, b ∉ (cxOf CX P w K mg base N qual scope f cd A outer s H E).ex := fun b z => absurd (show b ∈ ([] : List Addr) from z) (by simp)
  refine ⟨⟨e0.mod, S.kind, rfl, rfl, Nat.le_refl _, fun y z c h1 h2 => ?_, fun y hy => ?_, fun y c _ h => ?_, fun _ => hd, Around.frames_deeper e0.frames, .inr ⟨rfl, rfl⟩, fun b z => absurd z (noA b), e0.bs, e0.bsz, fun b _ _ => noA b, fun b z => absurd z (noA b), e0.funs, e0.frf⟩,
    rfl, e0.bare, Un.kept hk, ⟨_, x.toInCall.ns, fun i y v h1 h2 h3 => ?_⟩, fun y c h => ⟨_, x.cell y c h⟩, e0.hok.fresh (Nat.le_refl _), fun y c h => ?_, fun p hp => absurd (show p ∈ ([] : List (Addr × Obj)) from hp) (by simp), e0.hok.kept hk, ?_⟩
  · exact name_of_addr x.apart (PySem.mem_of_lookup h1) (PySem.mem_of_lookup h2)
  · have hy : scope.names.lookup y = some .cell ∨ scope.names.lookup y = some .free := hy
    rcases hy with hy | hy
    · exact cell_has hy
    · exact absurd rfl (S.nofree _ (PySem.mem_of_lookup hy))
  · exact Nat.le_of_lt (x.above y c (PySem.mem_of_lookup h))
  · have hi : i < vs.length := by
      unfold start at h2
      by_cases hi : i < vs.length
      · exact hi
      · rw [List.getElem?_append_right (by simpa using hi)] at h2
        rw [List.getElem?_replicate] at h2
        split at h2 <;> cases h2
    have ha : vs[i]? = some v := by
      unfold start at h2
      rw [List.getElem?_append_left (by simpa using hi), List.getElem?_map] at h2
      cases e : vs[i]? with
      | none => rw [e] at h2; cases h2
      | some a => rw [e] at h2; cases h2; rfl
    obtain ⟨u, hu, rv⟩ := r.get ha
    have hp : ps[i]? = some y := by
      rw [← S.pre, List.getElem?_take_of_lt (by omega)]; exact h1
    have ndP : ps.Nodup := by rw [← S.pre]; exact S.nd.sublist (List.take_sublist _ _)
    refine ⟨u, rv, ?_⟩
    rcases S.par y (List.mem_of_getElem? hp) with k | k
    · exact .inl ⟨k, bindL_get ndP hp hu k⟩
    · obtain ⟨c, e⟩ := cell_has (n := s.heap.objs.size + 1) k
      refine .inr ⟨.inl k, c, e, ?_⟩
      have q := x.cell y c e
      rw [bindC_get ndP hp hu (by show scope.names.lookup y ≠ _; rw [k]; decide)] at q
      exact q
  · exact e0.hok.fresh (Nat.le_of_lt (x.above y c (PySem.mem_of_lookup h)))
  · unfold start
    show _ = N.length
    rw [List.length_append, List.length_map, List.length_replicate]
    omega
theorem fn_of {CX : CXT} {P : Program} {w : World} {K : PySem.W.Frag} {mg : Str → Option Value} {base : Heap} {k : Nat} {f : Addr} {name qual : Str} {params : Arguments} {body : List Stmt} {scope : Scope} {dV kV doc pm cdv ct oc : Value} {an od : Option Addr}
    {osl : Array (Option Value)} {N ps : List Str} {sp : Sp} (lk : K.lookup f = some ⟨oc, od, .func (PySem.W.fnOf name qual params body scope dV kV doc pm an cdv ct), osl⟩) (hcd : PySem.W.codeIn K cdv qual = true) (S : FnScope N ps scope)
    (len : ∀ vs H Q E, sp vs H Q E → vs.length = ps.length)
    (hbody : ∀ (A : Around) (outer : List Env) (s : Shared) (H : Hp) (vs : List V) (Q : VK) (E : XK), Room k (A.deeper (envOfC qual scope s.heap.objs.size f cdv)) → sp vs H Q E →
      ∃ t, PSs (cxOf CX P w K mg base N qual scope f cdv A outer s H E) body t ∧ t { nx := fun _ H' => Q .non H', rt := Q } (start N vs) H) :
    FnOk P w K mg base CX (k + 1) f (PySem.W.fnOf name qual params body scope dV kV doc pm an cdv ct) ps sp := by
  refine ⟨len, fun A outer s H args us vs Q E hr e0 hb r hsp => ?_⟩
  have hl := len _ _ _ _ hsp
  have KX : K.In s.heap := e0.mod.kin.keeps fun b o e => (e0.bs b o e).1
  have lim : s.heap.NoLimit := e0.mod.nolimit.keeps fun b o e => (e0.bs b o e).1
  have hkind : ∀ y ∈ ps.zip us, scope.names.lookup y.1 = some .local ∨ (scope.names.lookup y.1 = some .cell ∧ ((cellsFrom (s.heap.objs.size + 1) scope.names []).lookup y.1).isSome = true) := fun ⟨n, v⟩ hy => by
    rcases S.par n (List.of_mem_zip hy).1 with q | q
    · exact .inl q
    · exact .inr ⟨q, PySem.W.cellsFrom_some _ _ _ (.inl q)⟩
  refine codeAny_call_function hr.depth (KX _ _ lk) rfl S.co S.gen rfl (PySem.W.codeRec_of KX hcd) (hb _ _ _ _ ?_)
  refine wpAny_newFunctionEnv_cells S.kind hkind fun env he s1 x => ?_
  subst he
  refine ⟨lim.keeps x.toInCall.keep, codeAny_func ?_⟩
  obtain ⟨t, ht, hq⟩ := hbody A outer s H vs Q E (hr.deeper _) hsp
  have I : Inv (cxOf CX P w K mg base N qual scope f cdv A outer s H E) [] (start N vs) H s1 := inv_start S hr.hd e0 hl r x
  refine wpAny_mono (ht [] s1 (start N vs) H _ I hq) (fun fl s' hs => ?_) fun e s' hs => hs
  have fin : ∀ {σ' : St} {H' : Hp} {v : V} {u : Value}, Inv (cxOf CX P w K mg base N qual scope f cdv A outer s H E) [] σ' H' s' → RelV v u → Q v H' → CE outer P w H s Q u s' :=
    fun {σ' H' v u} J rv q => ⟨v, H', J.os, J.bare, J.base, J.hok, rv, q⟩
  cases fl with
  | ret u =>
    obtain ⟨v, σ', H', J, rv, q⟩ := hs
    exact fin J rv q
  | next =>
    obtain ⟨σ', H', J, q⟩ := hs
    exact fin (v := V.non) (u := Value.none) J rfl q
  | brk =>
    obtain ⟨_, _, _, q⟩ := hs
    exact False.elim q
  | cont =>
    obtain ⟨_, _, _, q⟩ := hs
    exact False.elim q
end L2
namespace L2
open PySem PySem.Spec PyProof.Rows
section
variable {X : Cx} {x : Str} {p pos : Pos} {e : Expr} {es : List Expr} {t : TA} {id T : String} {r : List V → Hp → VK → Prop}
noncomputable def tCB (r : List V → Hp → VK → Prop) (t : TA) : TE := fun σ H Q => t σ H fun vs H1 => r vs H1 Q
theorem pe_callB (hc : CallR X (.builtin id) r) (hg : Gl X x) (hm : X.mg x = none) (hv : bootBuiltins x = some (.builtin id)) (ha : PA X (e :: es) t) (hn : x ≠ "__name__" := by decide) (hdb : (x == ("__debug__" : Str)) = false := by decide)
    (he : starEach (e :: es) X.env = (false, eval e X.env) :: starEach es X.env := by rfl) (hpl : (backTo pos (starEach es X.env)).any (·.1) = false := by rfl) : PE X (.Call (.Name x p) (e :: es) [] pos) (tCB r t) := by
  intro pins s σ H Q I h
  refine wpAny_Call_Name_kw (ld_blt I hg hm hv ?_ hn hdb)
  exact PyProof.Rows.callWith_builtin1 (thn (ha pos pins s σ H _ I h) fun us s1 ⟨vs, H1, I1, r1, q1⟩ => hc pins s1 σ H1 vs us Q I1 r1 q1) he hpl
end
end L2
namespace L2
open PySem PySem.Spec PyProof.Rows
section
variable {κ : Type} [DecidableEq κ]
noncomputable def valV (kvs : List (κ × V)) (k : κ) : Option V := (kvs.find? fun kv => decide (kv.1 = k)).map (·.2)
noncomputable def putK (kvs : List (κ × V)) (k : κ) (v : V) : List (κ × V) :=
  if (kvs.any fun kv => decide (kv.1 = k)) = true then kvs.map (fun kv => if kv.1 = k then (kv.1, v) else kv) else kvs ++ [(k, v)]
theorem valV_pos {p : κ × V} {r : List (κ × V)} {k : κ} (e : p.1 = k) : valV (p :: r) k = some p.2 := by simp [valV, List.find?_cons, e]
theorem valV_neg {p : κ × V} {r : List (κ × V)} {k : κ} (e : ¬ p.1 = k) : valV (p :: r) k = valV r k := by simp [valV, List.find?_cons, e]
theorem valV_any (k : κ) : ∀ kvs : List (κ × V), (kvs.any fun kv => decide (kv.1 = k)) = (valV kvs k).isSome
  | [] => rfl
  | p :: r => by
    rw [List.any_cons]
    by_cases e : p.1 = k
    · simp only [valV_pos e, decide_eq_true e, Bool.true_or, Option.isSome_some]
    · rw [valV_neg e, decide_eq_false e, Bool.false_or]; exact valV_any k r
theorem RelO.isSome_eq {o : Option V} {u : Option Value} (r : RelO o u) : o.isSome = u.isSome := by
  cases o with
  | none => cases u with
    | none => rfl
    | some _ => exact (show False from r).elim
  | some _ => cases u with
    | none => exact (show False from r).elim
    | some _ => rfl
theorem RelO.getD {o : Option V} {u : Option Value} {d : V} {d' : Value} (r : RelO o u) (rd : RelV d d') : RelV (o.getD d) (u.getD d') := by
  cases o with
  | none => cases u with
    | none => exact rd
    | some _ => exact (show False from r).elim
  | some _ => cases u with
    | none => exact (show False from r).elim
    | some _ => exact r
theorem KV.val {kvs : List (κ × V)} {vs : List (κ × Value)} (r : KV kvs vs) (k : κ) : RelO (valV kvs k) (valueAt vs k) := by
  unfold KV at r
  induction r with
  | nil => exact True.intro
  | @cons p q ps qs h t ih =>
    obtain ⟨h1, h2⟩ := h
    by_cases e : p.1 = k
    · have e' : q.1 = k := h1.symm.trans e
      have b : valueAt (q :: qs) k = some q.2 := by simp [valueAt, List.find?_cons, e']
      rw [valV_pos e, b]; exact h2
    · have e' : ¬ q.1 = k := fun z => e (h1.trans z)
      have b : valueAt (q :: qs) k = valueAt qs k := by simp [valueAt, List.find?_cons, e']
      rw [valV_neg e, b]; exact ih
theorem KV.any {kvs : List (κ × V)} {vs : List (κ × Value)} (r : KV kvs vs) (k : κ) : (kvs.any fun kv => decide (kv.1 = k)) = vs.any fun kv => decide (kv.1 = k) := by
  unfold KV at r
  induction r with
  | nil => rfl
  | cons h t ih => rw [List.any_cons, List.any_cons, ih, h.1]
theorem KV.repl {kvs : List (κ × V)} {vs : List (κ × Value)} (r : KV kvs vs) (k : κ) {y : V} {u : Value} (ry : RelV y u) :
    KV (kvs.map fun kv => if kv.1 = k then (kv.1, y) else kv) (vs.map fun kv => if kv.1 = k then (kv.1, u) else kv) := by
  unfold KV at r ⊢
  induction r with
  | nil => exact .nil
  | @cons p q ps qs h t ih =>
    rw [List.map_cons, List.map_cons]
    refine .cons ?_ ih
    obtain ⟨h1, h2⟩ := h
    by_cases e : p.1 = k
    · rw [if_pos e, if_pos (h1.symm.trans e)]; exact ⟨h1, ry⟩
    · rw [if_neg e, if_neg (fun z => e (h1.trans z))]; exact ⟨h1, h2⟩
theorem KV.put {kvs : List (κ × V)} {vs : List (κ × Value)} (r : KV kvs vs) (k : κ) {y : V} {u : Value} (ry : RelV y u) : KV (putK kvs k y) (stored vs k u) := by
  unfold putK stored
  rw [r.any k]
  by_cases e : (vs.any fun kv => decide (kv.1 = k)) = true
  · rw [if_pos e, if_pos e]; exact r.repl k ry
  · rw [if_neg e, if_neg e]; exact Paired.snoc r ⟨rfl, ry⟩
theorem KV.length {kvs : List (κ × V)} {vs : List (κ × Value)} (r : KV kvs vs) : kvs.length = vs.length := Paired.length r
end
theorem kV_is {P : Program} {w : World} {k : Key} {u : Value} (r : RelV (kV k) u) : (mixKind P w).is k u = true := by
  cases k with
  | inl i => obtain ⟨t, e⟩ := (show ∃ t, u = Value.int i t from r); subst e; exact mixKind_int P w i t
  | inr x => obtain ⟨t, e⟩ := (show ∃ t, u = Value.str x t from r); subst e; exact mixKind_str P w x t
theorem items_are {P : Program} {w : World} : ∀ {ks : List Key} {us : List Value}, Vals (ks.map kV) us → ItemsAre (mixKind P w) ks us
  | [], _, r => by rw [List.map_nil] at r; cases r; exact .nil
  | k :: ks, _, r => by
    rw [List.map_cons] at r
    cases r with
    | cons h t => exact .cons (kV_is h) (items_are t)
noncomputable abbrev KT (H : Hp) : List (List Key × V) → List (List Key × Addr × Value) → Prop := Paired fun p q => p.1 = q.1 ∧ H q.2.1 = some (.tup (p.1.map kV)) ∧ RelV p.2 q.2.2
theorem KT.val {H : Hp} {kvs : List (List Key × V)} {xs : List (List Key × Addr × Value)} (r : KT H kvs xs) (k : List Key) : RelO (valV kvs k) ((atKey xs k).map (·.2)) := by
  induction r with
  | nil => exact True.intro
  | @cons p q ps qs h t ih =>
    obtain ⟨h1, _, h2⟩ := h
    by_cases e : p.1 = k
    · have e' : q.1 = k := h1.symm.trans e
      have b : atKey (q :: qs) k = some q.2 := by simp [atKey, List.find?_cons, e']
      rw [valV_pos e, b]; exact h2
    · have e' : ¬ q.1 = k := fun z => e (h1.trans z)
      have b : atKey (q :: qs) k = atKey qs k := by simp [atKey, List.find?_cons, e']
      rw [valV_neg e, b]; exact ih
theorem KT.repl {H : Hp} {kvs : List (List Key × V)} {xs : List (List Key × Addr × Value)} (r : KT H kvs xs) (k : List Key) {y : V} {u : Value} (ry : RelV y u) :
    KT H (kvs.map fun kv => if kv.1 = k then (kv.1, y) else kv) (xs.map (putAt k u)) := by
  induction r with
  | nil => exact .nil
  | @cons p q ps qs h t ih =>
    rw [List.map_cons, List.map_cons]
    refine .cons ?_ ih
    obtain ⟨h1, h2, h3⟩ := h
    unfold putAt
    by_cases e : p.1 = k
    · rw [if_pos e, if_pos (h1.symm.trans e)]; exact ⟨h1, h2, ry⟩
    · rw [if_neg e, if_neg (fun z => e (h1.trans z))]; exact ⟨h1, h2, h3⟩
theorem KT.put {H : Hp} {kvs : List (List Key × V)} {xs : List (List Key × Addr × Value)} (r : KT H kvs xs) (k : List Key) {b : Addr} {y : V} {u : Value} (hb : H b = some (.tup (k.map kV))) (ry : RelV y u) :
    KT H (putK kvs k y) (storedH xs k b u) := by
  have e : (kvs.any fun kv => decide (kv.1 = k)) = (atKey xs k).isSome := by
    rw [valV_any, (r.val k).isSome_eq, Option.isSome_map]
  unfold putK storedH
  rw [e]
  by_cases q : (atKey xs k).isSome = true
  · rw [if_pos q, if_pos q]; exact r.repl k ry
  · rw [if_neg q, if_neg q]; exact Paired.snoc r ⟨rfl, hb, ry⟩
theorem KT.keeps {H H' : Hp} {kvs : List (List Key × V)} {xs : List (List Key × Addr × Value)} (r : KT H kvs xs) (ht : ∀ b ys, H b = some (.tup ys) → H' b = some (.tup ys)) : KT H' kvs xs :=
  Paired.mapP r fun _ _ z => ⟨z.1, ht _ _ z.2.1, z.2.2⟩
section
variable {P : Program} {w : World} {H : Hp} {h : Heap} {a : Addr}
theorem rd_of {u : HO} (ok : HOk P w H h) (e : Rd H a u) : ObjOk P w H h a u := e.ok ok
theorem dk_rd {kvs : List (Key × V)} (ok : HOk P w H h) (e : Rd H a (.dK kvs)) : kvs.length ≤ sizeLine ∧ (a == sysModules) = false ∧ ∃ vs, KV kvs vs ∧ h.DictOf (mixKind P w) a vs :=
  show ObjOk P w H h a (.dK kvs) from rd_of ok e
theorem key_of {ks : List Key} (ok : HOk P w H h) (e : H a = some (.tup (ks.map kV))) : (tupleKind (mixKind P w)).is h ks a := by
  obtain ⟨_, its, r, o, h1, h2, n, h3⟩ := (show ObjOk P w H h a (.tup (ks.map kV)) from ok a _ e)
  exact ⟨o, its.toArray, n, h1, h2, h3, by simpa using items_are r⟩
theorem dt_rd {kvs : List (List Key × V)} (ok : HOk P w H h) (e : Rd H a (.dT kvs)) : kvs.length ≤ sizeLine ∧ (a == sysModules) = false ∧
    ∃ xs, KT H kvs xs ∧ h.DictOfH (tupleKind (mixKind P w)) a xs := by
  obtain ⟨z, y, xs, r, o, es, ep, h1, h2, h3, h4, h5⟩ := (show ObjOk P w H h a (.dT kvs) from rd_of ok e)
  refine ⟨z, y, xs, r, o, es, ep, h1, h2, h3, h4, fun x hx => ?_, h5⟩
  have all : ∀ {l : List (List Key × V)} {m : List (List Key × Addr × Value)}, KT H l m → ∀ x ∈ m, (tupleKind (mixKind P w)).is h x.1 x.2.1 := by
    intro l m q
    induction q with
    | nil => intro x hx; exact nomatch hx
    | @cons p q ps qs hq t ih =>
      intro x hx
      rcases List.mem_cons.mp hx with e | hx
      · subst e
        exact key_of ok (by rw [← hq.1]; exact hq.2.1)
      · exact ih x hx
  exact all r x hx
end
noncomputable def DGet (H : Hp) (a : Addr) (y : V) (r : Option V) : Prop :=
  (∃ kvs k, Rd H a (.dK kvs) ∧ y = kV k ∧ r = valV kvs k) ∨ ∃ kvs k b, Rd H a (.dT kvs) ∧ y = .ref b ∧ H b = some (.tup (k.map kV)) ∧ r = valV kvs k
noncomputable def DPut (H : Hp) (a : Addr) (y v : V) (H' : Hp) : Prop :=
  (∃ kvs k, H a = some (.dK kvs) ∧ y = kV k ∧ kvs.length < sizeLine ∧ H' = upd H a (.dK (putK kvs k v))) ∨
  ∃ kvs k b, H a = some (.dT kvs) ∧ y = .ref b ∧ H b = some (.tup (k.map kV)) ∧ kvs.length < sizeLine ∧ H' = upd H a (.dT (putK kvs k v))
theorem DGet.k {H : Hp} {a : Addr} {kvs : List (Key × V)} {k : Key} (e : H a = some (.dK kvs)) : DGet H a (kV k) (valV kvs k) := .inl ⟨kvs, k, .inl e, rfl, rfl⟩
theorem DGet.t {H : Hp} {a b : Addr} {kvs : List (List Key × V)} {k : List Key} (e : H a = some (.dT kvs)) (eb : H b = some (.tup (k.map kV))) : DGet H a (.ref b) (valV kvs k) := .inr ⟨kvs, k, b, .inl e, rfl, eb, rfl⟩
theorem DPut.k {H : Hp} {a : Addr} {kvs : List (Key × V)} {k : Key} {v : V} (e : H a = some (.dK kvs)) (hl : kvs.length < sizeLine) : DPut H a (kV k) v (upd H a (.dK (putK kvs k v))) := .inl ⟨kvs, k, e, rfl, hl, rfl⟩
theorem DPut.t {H : Hp} {a b : Addr} {kvs : List (List Key × V)} {k : List Key} {v : V} (e : H a = some (.dT kvs)) (eb : H b = some (.tup (k.map kV))) (hl : kvs.length < sizeLine) :
    DPut H a (.ref b) v (upd H a (.dT (putK kvs k v))) := .inr ⟨kvs, k, b, e, rfl, eb, hl, rfl⟩
section
variable {X : Cx} {pins : List (Addr × Obj)} {σ : St} {H : Hp} {s : Shared} {a : Addr} {y v : V} {u r : Value} {o : Option V} {A : Around} {E : Value → Shared → Prop}
theorem d_getItem {Q : Value → Shared → Prop} (hu : A.units + 1 < cLine) (I : Inv X pins σ H s) (g : DGet H a y (some v)) (ry : RelV y u) (h : ∀ w' s', Inv X pins σ H s' → RelV v w' → Q w' s') :
    wpAny (model X.prog X.w) A (getItem (.ref a) u) Q E s := by
  rcases g with ⟨kvs, k, e, ey, l⟩ | ⟨kvs, k, b, e, ey, eb, l⟩
  · subst ey
    obtain ⟨z, hd, vs, rel, dd⟩ := dk_rd I.hok e
    obtain ⟨w', hw, rw'⟩ := RelO.some_of (v := v) (o := valueAt vs k) (by rw [l]; exact rel.val k)
    exact wpAny_getItem_of (kV_is ry) dd.mapOf hw (h w' _ (I.tok _) rw')
  · subst ey
    cases (show u = Value.ref b from ry)
    obtain ⟨z, hd, xs, rel, dd⟩ := dt_rd I.hok e
    obtain ⟨w', hw, rw'⟩ := RelO.some_of (v := v) (o := (atKey xs k).map (·.2)) (by rw [l]; exact rel.val k)
    obtain ⟨p, hp, hp2⟩ := Option.map_eq_some_iff.mp hw
    refine wpAny_getItem_heap (tupleKind_room_in1 hu) (key_of I.hok eb) dd hp ?_
    rw [hp2]
    exact h w' _ (I.tok _) rw'
theorem d_in {Q : Value → Shared → Prop} (hu : A.units + 1 < cLine) (I : Inv X pins σ H s) (g : DGet H a y o) (ry : RelV y u) (h : ∀ s', Inv X pins σ H s' → Q (.bool o.isSome) s') :
    wpAny (model X.prog X.w) A (compareOp .In u (.ref a)) Q E s := by
  rcases g with ⟨kvs, k, e, ey, l⟩ | ⟨kvs, k, b, e, ey, eb, l⟩
  · subst ey
    obtain ⟨z, hd, vs, rel, dd⟩ := dk_rd I.hok e
    refine wpAny_in_of (kV_is ry) hd dd.mapOf ?_
    rw [← (rel.val k).isSome_eq, ← l]
    exact h _ (I.tok _)
  · subst ey
    cases (show u = Value.ref b from ry)
    obtain ⟨z, hd, xs, rel, dd⟩ := dt_rd I.hok e
    refine wpAny_in_heap (tupleKind_room_in1 hu) (key_of I.hok eb) hd dd ?_
    have q := (rel.val k).isSome_eq
    rw [Option.isSome_map] at q
    rw [← q, ← l]
    exact h _ (I.tok _)
theorem d_notIn {Q : Value → Shared → Prop} (hu : A.units + 1 < cLine) (I : Inv X pins σ H s) (g : DGet H a y o) (ry : RelV y u) (h : ∀ s', Inv X pins σ H s' → Q (.bool (!o.isSome)) s') :
    wpAny (model X.prog X.w) A (compareOp .NotIn u (.ref a)) Q E s := by
  rcases g with ⟨kvs, k, e, ey, l⟩ | ⟨kvs, k, b, e, ey, eb, l⟩
  · subst ey
    obtain ⟨z, hd, vs, rel, dd⟩ := dk_rd I.hok e
    refine wpAny_notIn_of (kV_is ry) hd dd.mapOf ?_
    rw [← (rel.val k).isSome_eq, ← l]
    exact h _ (I.tok _)
  · subst ey
    cases (show u = Value.ref b from ry)
    obtain ⟨z, hd, xs, rel, dd⟩ := dt_rd I.hok e
    refine wpAny_notIn_heap (tupleKind_room_in1 hu) (key_of I.hok eb) hd dd ?_
    have q := (rel.val k).isSome_eq
    rw [Option.isSome_map] at q
    rw [← q, ← l]
    exact h _ (I.tok _)
end
section
variable {X : Cx} {pins : List (Addr × Obj)} {σ : St} {H : Hp} {s : Shared} {a : Addr} {kvs : List (Key × V)} {k : Key} {u : Value} {A : Around} {E : Value → Shared → Prop}
end
section
variable {X : Cx} {o i e value : Expr} {pos pos' tpos : Pos} {td ty tv : TE}
end
section
variable {X : Cx} {pos : Pos}
end
structure M1 (X : Cx) (o : Expr) (m : Str) (apos : Pos) (e : Expr) (cpos : Pos) : Prop where
  base : attributeBase o m X.env (eval o X.env) = eval o X.env
  few : ((backTo cpos (starEach [e] X.env)).all (fun x => !x.1) && (backToKw cpos (keywordEach [] X.env)).all (fun x => x.1.isSome)
    && decide (([e] : List Expr).length + ([] : List Keyword).length + (if ([] : List Keyword).isEmpty then 0 else 1) < 30)) = true
  line : (apos.endLine == cpos.line) = true
  trees : backTo cpos (starEach [e] X.env) = [(false, eval e X.env)]
structure M2 (X : Cx) (o : Expr) (m : Str) (apos : Pos) (e f : Expr) (cpos : Pos) : Prop where
  base : attributeBase o m X.env (eval o X.env) = eval o X.env
  few : ((backTo cpos (starEach [e, f] X.env)).all (fun x => !x.1) && (backToKw cpos (keywordEach [] X.env)).all (fun x => x.1.isSome)
    && decide (([e, f] : List Expr).length + ([] : List Keyword).length + (if ([] : List Keyword).isEmpty then 0 else 1) < 30)) = true
  line : (apos.endLine == cpos.line) = true
  trees : backTo cpos (starEach [e, f] X.env) = [(false, eval e X.env), (false, eval f X.env)]
section
variable {X : Cx} {pins : List (Addr × Obj)} {σ : St} {H : Hp} {s : Shared} {a : Addr} {y d : V} {u r : Value} {o : Option V} {A : Around} {E : Value → Shared → Prop}
end
section
variable {X : Cx} {o e f : Expr} {apos cpos : Pos} {td ty tx : TE}
end
section
variable {X : Cx} {pins : List (Addr × Obj)} {σ : St} {H : Hp} {s : Shared} {a : Addr} {kvs : List (Key × V)} {A : Around} {E : Value → Shared → Prop}
end
section
variable {X : Cx} {pins : List (Addr × Obj)} {σ : St} {H : Hp} {s : Shared} {a : Addr} {y : V} {u : Value} {A : Around} {E : Value → Shared → Prop}
end
end L2
namespace HT
open PySem PyProof.Rows
section
open PySem.SeqAt
open PySem.AutoSeq1 (wpAny_loadPart')
open PySem.MeetsSeq PySem.MeetsSeq2 PySem.MeetsSeq3
end
section
variable {prog : Program} {w : World} {A : Around} {E : Value → Shared → Prop} {s : Shared}
theorem cat_tup {t b : Addr} {vs ws : List Value} {Q : Value → Shared → Prop} (ht : IsTup s.heap t vs.toArray) (hb : IsTup s.heap b ws.toArray) (hv : vs ≠ [])
    (h1 : ws = [] → Q (.ref t) s) (h2 : ws ≠ [] → Q (.ref s.heap.objs.size) { s with heap := s.heap.push { cls := .type "tuple", data := .seq (vs ++ ws).toArray } })
    (hsz : vs.length + ws.length ≤ sizeLine) : wpAny (model prog w) A (binaryOp .Add (.ref t) (.ref b)) Q E s := by
  obtain ⟨⟨cls, dd, data, sl⟩, ho, hc, n, hd⟩ := id ht
  obtain ⟨⟨cls2, dd2, data2, sl2⟩, ho2, hc2, n2, hd2⟩ := id hb
  simp only at hc hd hc2 hd2
  subst hc hd hc2 hd2
  have e : vs.toArray ++ ws.toArray = (vs ++ ws).toArray := by simp
  by_cases hw : ws = []
  · exact concat_meets ⟨_, ho, rfl⟩ ⟨_, ho2, rfl⟩ noFill_tuple_add seq_tuple_add PySem.F.slot_tuple_add PySem.F.entry_tuple_add (PySem.F.args_tuple_add_2 _ _)
      (tuple_addW1 t b vs.toArray ws.toArray n n2 dd dd2 sl sl2 (by simpa using hv) (by simp [hw])) ⟨ho, ho2, h1 hw⟩
  · refine concat_meets ⟨_, ho, rfl⟩ ⟨_, ho2, rfl⟩ noFill_tuple_add seq_tuple_add PySem.F.slot_tuple_add PySem.F.entry_tuple_add (PySem.F.args_tuple_add_2 _ _)
      (tuple_addW2 t b vs.toArray ws.toArray n n2 dd dd2 sl sl2 (by simpa using hv) (by simpa using hw) (by rw [List.size_toArray, List.size_toArray]; exact hsz)) ⟨ho, ho2, ?_⟩
    rw [e]
    exact h2 hw
noncomputable def sIx (n d : Nat) : Option Int → Nat
  | none => d
  | some v => if v < 0 then (v + (n : Int)).toNat else min v.toNat n
theorem sIx_le (n d : Nat) (hd : d ≤ n) (o : Option Int) : sIx n d o ≤ n := by
  cases o with
  | none => exact hd
  | some v =>
    show (if v < 0 then (v + (n : Int)).toNat else min v.toNat n) ≤ n
    by_cases hv : v < 0
    · rw [if_pos hv]; omega
    · rw [if_neg hv]; exact Nat.min_le_right _ _
theorem clip_eq (v : Int) (n d : Nat) : (if v < 0 then max (v + (n : Int)) 0 else min v (n : Int)) = ((sIx n d (some v) : Nat) : Int) := by
  show (if v < 0 then max (v + (n : Int)) 0 else min v (n : Int)) = (((if v < 0 then (v + (n : Int)).toNat else min v.toNat n) : Nat) : Int)
  by_cases hv : v < 0
  · simp only [if_pos hv]; omega
  · simp only [if_neg hv]; omega
theorem adjust_gen (lo hi : Option Int) (n : Nat) : Builtin.Slice.sliceAdjust lo hi 1 (n : Int) = (((sIx n 0 lo : Nat) : Int), ((sIx n n hi : Nat) : Int)) := by
  have h1 : ¬ ((1 : Int) < 0) := by omega
  unfold Builtin.Slice.sliceAdjust
  simp only [h1, if_false]
  refine Prod.ext ?_ ?_
  · cases lo with
    | none => rfl
    | some v => exact clip_eq v n 0
  · cases hi with
    | none => rfl
    | some v => exact clip_eq v n n
theorem places_gen (i j : Nat) : Builtin.Slice.slicePlaces (i : Int) (j : Int) 1 = j - i := by
  unfold Builtin.Slice.slicePlaces
  have h1 : (1 : Int) > 0 := by omega
  simp only [h1, if_true, Int.ediv_one]
  split <;> omega
theorem slicePart_ {v : Value} {o : Option Int} {Q : Option Int → Shared → Prop} (p : IsPart v o) (h : Q o s) : wpAny (model prog w) A (Builtin.Slice.slicePartIndex v) Q E s := by
  cases p with
  | none => exact slicePart_none h
  | int i t => exact slicePart_int h
theorem sliceApplied_gen {sl : Addr} {vl vu : Value} {lo hi : Option Int} {n : Nat} {Q : Int × Int × Nat → Shared → Prop} (hs : s.heap.IsSliceOf sl vl vu .none) (pl : IsPart vl lo) (pu : IsPart vu hi)
    (h : Q (((sIx n 0 lo : Nat) : Int), 1, sIx n n hi - sIx n 0 lo) s) : wpAny (model prog w) A (Builtin.Slice.sliceApplied (.ref sl) (pure (n : Int))) Q E s := by
  obtain ⟨os, hos, hcs, hds⟩ := id hs
  unfold Builtin.Slice.sliceApplied Builtin.Slice.sliceFields
  refine wpAny_bind (wpAny_bind (wpAny_field hos hds (x := vl) rfl (wpAny_bind (wpAny_field hos hds (x := vu) rfl (wpAny_bind (wpAny_field hos hds (x := .none) rfl (wpAny_pure ?_)))))))
  refine wpAny_bind (slicePart_none ?_)
  show wpAny _ _ (if ((1 : Int) == 0) = true then _ else _) _ _ s
  rw [if_neg (by decide)]
  refine wpAny_bind (slicePart_ pl (wpAny_bind (slicePart_ pu (wpAny_bind (wpAny_pure ?_)))))
  show wpAny _ _ (match Builtin.Slice.sliceAdjust lo hi 1 (n : Int) with | (lo, hi) => pure (lo, (1 : Int), Builtin.Slice.slicePlaces lo hi 1)) _ _ s
  rw [adjust_gen lo hi n]
  show wpAny _ _ (pure (((sIx n 0 lo : Nat) : Int), (1 : Int), Builtin.Slice.slicePlaces ((sIx n 0 lo : Nat) : Int) ((sIx n n hi : Nat) : Int) 1)) _ _ s
  rw [places_gen]
  exact wpAny_pure h
theorem pick_gen (xs : Array Value) (i k : Nat) : ((List.range k).filterMap fun (m : Nat) => xs[((i : Int) + (m : Int) * 1).toNat]?).toArray = ((xs.toList.drop i).take k).toArray := by
  have e : (fun (m : Nat) => xs[((i : Int) + (m : Int) * 1).toNat]?) = fun m => xs[i + m]? := by
    funext m
    have : ((i : Int) + (m : Int) * 1).toNat = i + m := by omega
    rw [this]
  rw [e]
  have := pick_run xs i k
  rw [List.filterMap_map] at this
  have e2 : ((fun x => xs[x]?) ∘ fun x => i + x) = fun m => xs[i + m]? := rfl
  rw [e2] at this
  rw [this]
theorem getItem_tuple_cut {t sl : Addr} {items : Array Value} {vl vu : Value} {lo hi : Option Int} {Q : Value → Shared → Prop} (ht : IsTup s.heap t items) (hs : s.heap.IsSliceOf sl vl vu .none) (pl : IsPart vl lo) (pu : IsPart vu hi)
    (hw : ¬ (sIx items.size 0 lo = 0 ∧ sIx items.size items.size hi = items.size))
    (h : Q (.ref s.heap.objs.size) { s with heap := s.heap.push { cls := .type "tuple", data := .seq ((items.toList.drop (sIx items.size 0 lo)).take (sIx items.size items.size hi - sIx items.size 0 lo)).toArray } })
    (hsz : items.size ≤ sizeLine) : wpAny (model prog w) A (getItem (.ref t) (.ref sl)) Q E s := by
  have htake : sizeOk (.seq ((items.toList.drop (sIx items.size 0 lo)).take (sIx items.size items.size hi - sIx items.size 0 lo)).toArray) := by
    show ((items.toList.drop (sIx items.size 0 lo)).take (sIx items.size items.size hi - sIx items.size 0 lo)).toArray.size ≤ sizeLine
    rw [List.size_toArray, List.length_take, List.length_drop, Array.length_toList]
    omega
  have hj : sIx items.size items.size hi ≤ items.size := sIx_le _ _ (Nat.le_refl _) hi
  obtain ⟨os, hos, hcs, hds⟩ := id hs
  have hTs : s.TypeIs (.ref sl) "slice" := ⟨os, hos, hcs⟩
  unfold getItem
  try with_reducible refine wpAny_holding ?_
  first | refine wpAny_bind (wpAny_pure ?_) | skip
  refine wpAny_bind (wpAny_sequenceKey ht.typeIs (by decide) ?_)
  refine wpAny_bind (wpAny_callSpecial?_slot (name := Str.ofString "__getitem__") ht.typeIs PyProof.Rows.slot_tuple_getitem
    (wpAny_call_entry PyProof.Rows.slot_tuple_getitem ht.typeIs entry_tuple_getitem ?_ (args_tuple_getitem _ _)))
  show wpAny _ _ (Builtin.Tuple.tupleItemsOf (.ref t) >>= _) _ _ s
  refine wpAny_bind (tupleItemsOf_ ht ?_)
  refine wpAny_bind (wpAny_typeOf hTs ?_)
  rw [if_pos (by decide)]
  refine wpAny_bind (sliceApplied_gen hs pl pu ?_)
  have hno : ¬ ((((sIx items.size 0 lo : Nat) : Int) == 0 && (1 : Int) == 1 && (sIx items.size items.size hi - sIx items.size 0 lo) == items.size) = true) := by
    intro q
    rw [Bool.and_eq_true, Bool.and_eq_true] at q
    have q1 : ((sIx items.size 0 lo : Nat) : Int) = 0 := eq_of_beq q.1.1
    have q2 : sIx items.size items.size hi - sIx items.size 0 lo = items.size := eq_of_beq q.2
    exact hw ⟨by omega, by omega⟩
  show wpAny _ _ (if (((sIx items.size 0 lo : Nat) : Int) == 0 && (1 : Int) == 1 && (sIx items.size items.size hi - sIx items.size 0 lo) == items.size) = true then _ else _) _ _ s
  rw [if_neg hno, pick_gen]
  first
    | exact wpAny_bind (m := Builtin.Tuple.tupleExact _) (wpAny_newObj_type (wpAny_pure ⟨_, rfl, wpAny_pure h⟩) htake)
    | exact wpAny_bind (m := Builtin.Tuple.tupleExact _) (wpAny_newObj_type (wpAny_bind (wpAny_pure (wpAny_pure ⟨_, rfl, wpAny_pure h⟩))) htake)
    | exact wpAny_bind (wpAny_bind (m := Builtin.Tuple.tupleExact _) (wpAny_newObj_type (wpAny_pure (wpAny_pure ⟨_, rfl, wpAny_pure h⟩)) htake))
    | exact wpAny_bind (wpAny_bind (m := Builtin.Tuple.tupleExact _) (wpAny_newObj_type (wpAny_pure ⟨_, rfl, wpAny_pure h⟩) htake))
end
end HT
namespace L2
open PySem PySem.Spec PyProof.Rows
noncomputable abbrev TO := St → Hp → (Option Int → Hp → Prop) → Prop
noncomputable def PO (X : Cx) (e : Option Expr) (t : TO) : Prop :=
  ∀ (pins : List (Addr × Obj)) (s : Shared) (σ : St) (H : Hp) (Q : Option Int → Hp → Prop), Inv X pins σ H s → t σ H Q →
    wpAny (model X.prog X.w) X.A (evalPart e X.env) (fun u s' => ∃ o H', Inv X pins σ H' s' ∧ IsPart u o ∧ Q o H') X.xe s
noncomputable def tNoPart : TO := fun _ H Q => Q none H
noncomputable def tPart (t : TE) : TO := fun σ H Q => t σ H fun x H1 => ∃ i, x = .int i ∧ Q (some i) H1
section
variable {X : Cx} {e : Expr} {te : TE} {lo hi : Option Expr} {tl th : TO} {pos p2 : Pos}
theorem po_none : PO X none tNoPart := by
  intro pins s σ H Q I h
  rw [evalPart_none]
  exact wpAny_pure ⟨none, H, I, .none, h⟩
theorem po_some (h : PE X e te) : PO X (some e) (tPart te) := by
  intro pins s σ H Q I hw
  rw [evalPart_some]
  refine thn (h pins s σ H _ I hw) fun u s1 ⟨x, H1, I1, r1, q1⟩ => ?_
  obtain ⟨i, rfl, q⟩ := q1
  obtain ⟨t, rfl⟩ := r1
  exact ⟨some i, H1, I1, .int i t, q⟩
noncomputable def SlR (X : Cx) (r : V → Option Int → Option Int → Hp → VK → Prop) : Prop :=
  ∀ (pins : List (Addr × Obj)) (s : Shared) (σ : St) (H : Hp) (x : V) (v vl vu : Value) (lo hi : Option Int) (sl : Addr) (Q : VK), Inv X pins σ H s → RelV x v → s.heap.IsSliceOf sl vl vu .none → IsPart vl lo → IsPart vu hi → r x lo hi H Q →
    ∃ T id, typeLookup (.type T) "__getitem__" = pure (some (.builtin id)) ∧ s.TypeIs v T ∧ wpAny (model X.prog X.w) X.A (getItem v (.ref sl)) (EP X pins σ Q) X.xe s
theorem SlR.or {r r' : V → Option Int → Option Int → Hp → VK → Prop} (h : SlR X r) (h' : SlR X r') : SlR X (fun x lo hi H Q => r x lo hi H Q ∨ r' x lo hi H Q) := by
  intro pins s σ H x v vl vu lo hi sl Q I rx hs pl pu q
  rcases q with q | q
  · exact h pins s σ H x v vl vu lo hi sl Q I rx hs pl pu q
  · exact h' pins s σ H x v vl vu lo hi sl Q I rx hs pl pu q
noncomputable def tSl (r : V → Option Int → Option Int → Hp → VK → Prop) (te : TE) (tl th : TO) : TE := fun σ H Q => te σ H fun x H1 => tl σ H1 fun l H2 => th σ H2 fun u H3 => r x l u H3 Q
theorem pe_slice {r : V → Option Int → Option Int → Hp → VK → Prop} (hr : SlR X r) (he : PE X e te) (hl : PO X lo tl) (hu : PO X hi th) : PE X (.Subscript e (.Slice lo hi none p2) pos) (tSl r te tl th) := by
  intro pins s σ H Q I h
  refine Subscript_ (thn (he pins s σ H _ I h) fun v s1 ⟨x, H1, I1, r1, q1⟩ => ?_)
  refine wpAny_Slice (thn (hl pins s1 σ H1 _ I1 q1) fun vl s2 ⟨l, H2, I2, pl, q2⟩ => thn (hu pins s2 σ H2 _ I2 q2) fun vu s3 ⟨u, H3, I3, pu, q3⟩ => ?_)
  rw [evalPart_none]
  refine wpAny_pure ?_
  have I4 : Inv X pins σ H3 { s3 with heap := s3.heap.push { cls := .type "slice", data := .fields #[vl, vu, .none] } } := I3.kept (t' := s3.toks) fun b ob q => Heap.get?_push_of_some _ q
  obtain ⟨T, id, hT, ht, hg⟩ := hr pins { s3 with heap := s3.heap.push { cls := .type "slice", data := .fields #[vl, vu, .none] } } σ H3 x v vl vu l u s3.heap.objs.size Q I4 r1 (Heap.IsSliceOf.new ..) pl pu q3
  show wpAny (model X.prog X.w) X.A (subscriptTail e (.Slice lo hi none p2) v (.ref s3.heap.objs.size)) (EP X pins σ Q) X.xe { s3 with heap := s3.heap.push { cls := .type "slice", data := .fields #[vl, vu, .none] } }
  exact tail_any (ops := [.ref s3.heap.objs.size, v]) ht hT hg (by with_unfolding_all rfl)
noncomputable def cutV (xs : List V) (lo hi : Option Int) : List V := (xs.drop (HT.sIx xs.length 0 lo)).take (HT.sIx xs.length xs.length hi - HT.sIx xs.length 0 lo)
theorem cutV_length (xs : List V) (lo hi : Option Int) : (cutV xs lo hi).length ≤ xs.length := by
  unfold cutV
  rw [List.length_take, List.length_drop]
  omega
noncomputable def rSlT (K : PySem.W.Frag) : V → Option Int → Option Int → Hp → VK → Prop := fun x lo hi H Q => ∃ a xs, x = .ref a ∧ SqT K H a xs ∧
  ¬ (HT.sIx xs.length 0 lo = 0 ∧ HT.sIx xs.length xs.length hi = xs.length) ∧ ∀ p, H p = none → Q (.ref p) (upd H p (.tup (cutV xs lo hi)))
theorem sl_tup : SlR X (rSlT X.K) := by
  intro pins s σ H x v vl vu lo hi sl Q I rx hs pl pu h
  obtain ⟨a, xs, rfl, hx, hw, q⟩ := h
  cases rx
  obtain ⟨its, r, ht, hz⟩ := I.tuple hx
  have hlen : its.toArray.size = xs.length := by rw [List.size_toArray]; exact r.length.symm
  refine ⟨"tuple", _, PyProof.Rows.slot_tuple_getitem.lookup, ht.typeIs, ?_⟩
  refine HT.getItem_tuple_cut ht hs pl pu (by rw [hlen]; exact hw) ?_ (by rw [hlen]; exact hz)
  rw [hlen]
  refine ⟨.ref s.heap.objs.size, _, I.laid (t' := s.toks) (o := .tup (cutV xs lo hi)) (fun b ob q => Heap.get?_push_of_some _ q) (Nat.le_refl _) ?_, rfl, q _ (I.hok.fresh (Nat.le_refl _))⟩
  exact ⟨Nat.le_trans (cutV_length xs lo hi) hz, _, (r.drop (HT.sIx xs.length 0 lo)).take (HT.sIx xs.length xs.length hi - HT.sIx xs.length 0 lo), IsTup.new _ _⟩
noncomputable def rCatT (K : PySem.W.Frag) : R2 := fun x y H Q => ∃ a b xs ys, x = .ref a ∧ y = .ref b ∧ SqT K H a xs ∧ SqT K H b ys ∧ xs ≠ [] ∧ xs.length + ys.length ≤ sizeLine ∧
  (ys = [] → Q (.ref a) H) ∧ (ys ≠ [] → ∀ p, H p = none → Q (.ref p) (upd H p (.tup (xs ++ ys))))
theorem Vals.nil_iff {xs : List V} {us : List Value} (r : Vals xs us) : us = [] ↔ xs = [] := by
  cases r with
  | nil => simp
  | cons _ _ => simp
theorem op_catT : OpR X (binaryOp .Add) (rCatT X.K) := by
  intro pins s σ H x y v u Q I rx ry h
  obtain ⟨a, b, xs, ys, rfl, rfl, ha, hb, hx, hz, q1, q2⟩ := h
  cases rx
  cases ry
  obtain ⟨its, r1, p1, _⟩ := I.tuple ha
  obtain ⟨its2, r2, p2, _⟩ := I.tuple hb
  refine HT.cat_tup p1 p2 (fun z => hx (r1.nil_iff.mp z)) (fun z => ⟨.ref a, H, I, rfl, q1 (r2.nil_iff.mp z)⟩) (fun z => ?_) (by rw [← r1.length, ← r2.length]; exact hz)
  refine ⟨.ref s.heap.objs.size, _, I.laid (t' := s.toks) (o := .tup (xs ++ ys)) (fun b ob q => Heap.get?_push_of_some _ q) (Nat.le_refl _) ?_, rfl, q2 (fun w => z (r2.nil_iff.mpr w)) _ (I.hok.fresh (Nat.le_refl _))⟩
  exact ⟨by rw [List.length_append]; exact hz, _, r1.append r2, IsTup.new _ _⟩
end
end L2
namespace L2
open PySem PySem.Spec PyProof.Rows
noncomputable def ixN (n : Nat) (i : Int) : Option Nat := if 0 ≤ i then (if i < n then some i.toNat else none) else if -(n : Int) ≤ i then some (i + n).toNat else none
noncomputable def atI {α : Type} (xs : List α) (i : Int) : Option α := (ixN xs.length i).bind fun j => xs[j]?
theorem ixN_seq {n : Nat} {i : Int} {j : Nat} (h : ixN n i = some j) : seqIndex? i n = some j ∧ j < n ∧ -(n : Int) ≤ i ∧ i < n := by
  unfold ixN at h
  by_cases h0 : 0 ≤ i
  · rw [if_pos h0] at h
    by_cases h1 : i < n
    · rw [if_pos h1] at h
      have e : i.toNat = j := Option.some.inj h
      exact ⟨by rw [seqIndex_of h0 h1, e], by omega, by omega, h1⟩
    · rw [if_neg h1] at h; cases h
  · rw [if_neg h0] at h
    by_cases h1 : -(n : Int) ≤ i
    · rw [if_pos h1] at h
      have e : (i + n).toNat = j := Option.some.inj h
      exact ⟨by rw [seqIndex_neg (by omega) h1, e], by omega, h1, by omega⟩
    · rw [if_neg h1] at h; cases h
theorem atI_get {α : Type} {xs : List α} {i : Int} {v : α} (h : atI xs i = some v) : ∃ j, seqIndex? i xs.length = some j ∧ xs[j]? = some v ∧ j < xs.length ∧ -(xs.length : Int) ≤ i ∧ i < xs.length := by
  unfold atI at h
  cases e : ixN xs.length i with
  | none => rw [e] at h; cases h
  | some j =>
    rw [e] at h
    obtain ⟨h1, h2, h3, h4⟩ := ixN_seq e
    exact ⟨j, h1, h, h2, h3, h4⟩
theorem atI_nat {α : Type} {xs : List α} {j : Nat} {v : α} (h : xs[j]? = some v) : atI xs (j : Int) = some v := by
  have hj : j < xs.length := (List.getElem?_eq_some_iff.mp h).1
  have e : ixN xs.length (j : Int) = some j := by
    unfold ixN
    rw [if_pos (by omega), if_pos (by omega)]; simp
  unfold atI; rw [e]; exact h
noncomputable def PlainIx (b : Expr) : Prop := ∀ o i, subscripted b false o i = operate [o, i] (getItem o i)
noncomputable def IxR (X : Cx) (r : R2) : Prop :=
  ∀ (value slice : Expr) (pins : List (Addr × Obj)) (s : Shared) (σ : St) (H : Hp) (x y : V) (v u : Value) (Q : VK), Inv X pins σ H s → RelV x v → RelV y u → r x y H Q →
    subscripted slice false v u = operate [v, u] (getItem v u) → wpAny (model X.prog X.w) X.A (subscriptTail value slice v u) (EP X pins σ Q) X.xe s
noncomputable def MtR (X : Cx) (id : String) (r : V → List V → Hp → VK → Prop) : Prop :=
  ∀ (pins : List (Addr × Obj)) (s : Shared) (σ : St) (H : Hp) (x : V) (xs : List V) (v : Value) (us : List Value) (Q : VK), Inv X pins σ H s → RelV x v → Vals xs us → r x xs H Q →
    wpAny (model X.prog X.w) X.A (call (.builtin id) (v :: us)) (EP X pins σ Q) X.xe s
section
variable {X : Cx} {a b : Expr} {ta tb : TE} {pos : Pos}
theorem IxR.or {r r' : R2} (h : IxR X r) (h' : IxR X r') : IxR X (fun x y H Q => r x y H Q ∨ r' x y H Q) := by
  intro value slice pins s σ H x y v u Q I rx ry q hs
  rcases q with q | q
  · exact h value slice pins s σ H x y v u Q I rx ry q hs
  · exact h' value slice pins s σ H x y v u Q I rx ry q hs
theorem MtR.or {id : String} {r r' : V → List V → Hp → VK → Prop} (h : MtR X id r) (h' : MtR X id r') : MtR X id (fun x xs H Q => r x xs H Q ∨ r' x xs H Q) := by
  intro pins s σ H x xs v us Q I rx rs q
  rcases q with q | q
  · exact h pins s σ H x xs v us Q I rx rs q
  · exact h' pins s σ H x xs v us Q I rx rs q
theorem pe_ix {r : R2} (hr : IxR X r) (ha : PE X a ta) (hb : PE X b tb) (hs : PlainIx b) : PE X (.Subscript a b pos) (tOp r ta tb) := by
  intro pins s σ H Q I h
  exact Subscript_ (binT ha hb I h fun v u s2 x y H2 I2 rx ry q => hr a b pins s2 σ H2 x y v u Q I2 rx ry q (hs _ _))
noncomputable def rIxL (K : PySem.W.Frag) : R2 := fun x y H Q => ∃ p xs i v, x = .ref p ∧ y = .int i ∧ SqL K H p xs ∧ atI xs i = some v ∧ Q v H
noncomputable def rIxT (K : PySem.W.Frag) : R2 := fun x y H Q => ∃ p xs i v, x = .ref p ∧ y = .int i ∧ SqT K H p xs ∧ atI xs i = some v ∧ Q v H
noncomputable def rIxS : R2 := fun x y H Q => ∃ z i c, x = .str z ∧ y = .int i ∧ z.length ≤ sizeLine ∧ atI z.cps.toList i = some c ∧ Q (.str ⟨#[c]⟩) H
theorem ix_list : IxR X (rIxL X.K) := by
  intro value slice pins s σ H x y v u Q I rx ry h hs
  obtain ⟨p, xs, i, z, rfl, rfl, hq, he, q⟩ := h
  cases rx
  obtain ⟨t, rfl⟩ := ry
  obtain ⟨its, r, pl, hz⟩ := I.list hq
  obtain ⟨j, h1, h2, h3, h4, h5⟩ := atI_get he
  obtain ⟨w, ew, rw'⟩ := r.get h2
  have hl := r.length
  have hn := line63
  have fin : EP X pins σ Q w s := ⟨z, H, I, rw', q⟩
  by_cases h0 : 0 ≤ i
  · have hj : i.toNat = j := by
      rw [seqIndex_of h0 h5] at h1
      exact Option.some.inj h1
    exact item_listR pl.isList h0 (by omega) (by rw [hj]; simpa using ew) fin hs
  · have hj : (i + (its.toArray.size : Int)).toNat = j := by
      rw [seqIndex_neg (by omega) h4] at h1
      rw [List.size_toArray, ← hl]
      exact Option.some.inj h1
    exact subscriptTail_builtinR (x := w) pl.isList.typeIs slot_list_getitem.lookup
      (wpAny_getItem_list_neg (Q := fun r s' => r = w ∧ EP X pins σ Q r s') pl.isList (by omega) (by rw [List.size_toArray] <;> omega) (by omega) (by rw [hj]; simpa using ew) ⟨rfl, fin⟩) hs
theorem ix_tup : IxR X (rIxT X.K) := by
  intro value slice pins s σ H x y v u Q I rx ry h hs
  obtain ⟨p, xs, i, z, rfl, rfl, hq, he, q⟩ := h
  cases rx
  obtain ⟨t, rfl⟩ := ry
  obtain ⟨its, r, pl, hz⟩ := I.tuple hq
  obtain ⟨j, h1, h2, h3, h4, h5⟩ := atI_get he
  obtain ⟨w, ew, rw'⟩ := r.get h2
  have hl := r.length
  have hn := line63
  have fin : EP X pins σ Q w s := ⟨z, H, I, rw', q⟩
  exact subscriptTail_builtinR (x := w) pl.typeIs slot_tuple_getitem.lookup
    (getItem_tuple (j := j) (Q := fun r s' => r = w ∧ EP X pins σ Q r s') pl (by omega) (by omega) (by rw [List.size_toArray, ← hl]; exact h1) (by simpa using ew) ⟨rfl, fin⟩) hs
theorem ix_str : IxR X rIxS := by
  intro value slice pins s σ H x y v u Q I rx ry h hs
  obtain ⟨z, i, c, rfl, rfl, hz, he, q⟩ := h
  obtain ⟨t, rfl⟩ := rx
  obtain ⟨t', rfl⟩ := ry
  obtain ⟨j, h1, h2, h3, h4, h5⟩ := atI_get he
  have hl : z.cps.toList.length = z.length := by simp [Str.length]
  rw [hl] at h1 h4 h5
  have hn := line63
  exact tail_any (typeIs_str s z t) slot_str_getitem.lookup (getItem_str (c := c) (by
    have e1 : decide (i < -(2 ^ 63 : Int)) = false := decide_eq_false (by omega)
    have e2 : decide (i ≥ 2 ^ 63) = false := decide_eq_false (by omega)
    rw [e1, e2, Bool.or_false]) (by rw [h1]; simpa using h2) ⟨.str ⟨#[c]⟩, H, I.tok _, ⟨_, rfl⟩, q⟩) hs
noncomputable def rIx (K : PySem.W.Frag) : R2 := fun x y H Q => rIxL K x y H Q ∨ rIxT K x y H Q ∨ rIxS x y H Q
theorem ix_seq : IxR X (rIx X.K) := ix_list.or (ix_tup.or ix_str)
theorem Inv.lst {pins : List (Addr × Obj)} {σ : St} {H : Hp} {s : Shared} {p : Addr} {xs : List V} (I : Inv X pins σ H s) (h : H p = some (.lst xs)) :
    ∃ (its : List Value) (n : Nat), Vals xs its ∧ s.heap.get? p = some { cls := .type "list", data := .seq its.toArray n } ∧ xs.length ≤ sizeLine := by
  obtain ⟨z, its, n, r, e⟩ := I.hok p _ h
  exact ⟨its, n, r, e, z⟩
theorem slice_bounds (lo hi : Option Int) (n : Nat) : (sliceBounds lo hi none n).1 = ((HT.sIx n 0 lo : Nat) : Int) ∧ (sliceBounds lo hi none n).2.1 = ((HT.sIx n n hi : Nat) : Int) ∧ (sliceBounds lo hi none n).2.2 = 1 := by
  refine ⟨?_, ?_, rfl⟩
  · cases lo with
    | none => simp [sliceBounds, HT.sIx]
    | some i =>
      simp only [sliceBounds, HT.sIx, Option.getD_none, show (1 : Int) > 0 by decide, if_true]
      by_cases h : i < 0
      · simp only [h, if_true] <;> omega
      · simp only [h, if_false] <;> omega
  · cases hi with
    | none => simp [sliceBounds, HT.sIx]
    | some i =>
      simp only [sliceBounds, HT.sIx, Option.getD_none, show (1 : Int) > 0 by decide, if_true]
      by_cases h : i < 0
      · simp only [h, if_true] <;> omega
      · simp only [h, if_false] <;> omega
theorem slicePick_cut (its : List Value) (lo hi : Option Int) : slicePick its.toArray lo hi none = ((its.drop (HT.sIx its.length 0 lo)).take (HT.sIx its.length its.length hi - HT.sIx its.length 0 lo)).toArray := by
  obtain ⟨h1, h2, h3⟩ := slice_bounds lo hi its.toArray.size
  unfold slicePick
  rw [h1, h2, h3]
  simp only [sliceRange_one, pick_run, List.size_toArray] <;> rfl
theorem call_len_seq : CallR X (.builtin "len") (fun xs H Q => ∃ p ys, xs = [.ref p] ∧ (SqL X.K H p ys ∨ SqT X.K H p ys) ∧ Q (.int ys.length) H) := by
  intro pins s σ H xs us Q I r h
  obtain ⟨p, ys, rfl, hq, q⟩ := h
  obtain ⟨u, rfl, rx⟩ := vals1 r
  cases rx
  have hn := line63
  rcases hq with hq | hq
  · obtain ⟨its, r', pl, hz⟩ := I.list hq
    have hlen := r'.length
    exact Calls.call_len_list pl.isList (by simp only [List.size_toArray] <;> omega) ⟨.int ys.length, H, I.tok _, ⟨s.toks + 1, by rw [List.size_toArray, hlen]⟩, q⟩
  · obtain ⟨its, r', pl, hz⟩ := I.tuple hq
    have hlen := r'.length
    exact len_tuple pl (by simp only [List.size_toArray] <;> omega) ⟨.int ys.length, H, I.tok _, ⟨s.toks + 1, by rw [List.size_toArray, hlen]⟩, q⟩
theorem call_len_str : CallR X (.builtin "len") (fun xs H Q => ∃ z, xs = [.str z] ∧ z.length ≤ sizeLine ∧ Q (.int z.length) H) := by
  intro pins s σ H xs us Q I r h
  obtain ⟨z, rfl, hz, q⟩ := h
  obtain ⟨u, rfl, t, rfl⟩ := vals1 r
  have hn := line63
  exact len_str (by omega) ⟨.int z.length, H, I.tok _, ⟨_, rfl⟩, q⟩
theorem CallR.or {f : Value} {r r' : List V → Hp → VK → Prop} (h : CallR X f r) (h' : CallR X f r') : CallR X f (fun xs H Q => r xs H Q ∨ r' xs H Q) := by
  intro pins s σ H xs us Q I rs q
  rcases q with q | q
  · exact h pins s σ H xs us Q I rs q
  · exact h' pins s σ H xs us Q I rs q
noncomputable def tyV (K : PySem.W.Frag) (T : String) (x : V) (H : Hp) : Prop := match x with
  | .str _ => T = "str"
  | .int _ => T = "int"
  | .ref p => (T = "list" ∧ ∃ xs, SqL K H p xs) ∨ (T = "tuple" ∧ ∃ o, K.lookup p = some o ∧ o.cls = .type "tuple" ∧ o.dict = none) ∨
      (T = "dict" ∧ ((∃ kvs, H p = some (.dK kvs)) ∨ ∃ kvs, H p = some (.dT kvs))) ∨ (T = "set" ∧ ∃ S n, H p = some (.set S n))
  | _ => False
theorem tyV_is {pins : List (Addr × Obj)} {σ : St} {H : Hp} {s : Shared} {T : String} {x : V} {v : Value} (I : Inv X pins σ H s) (r : RelV x v) (ty : tyV X.K T x H) :
    s.TypeIs v T ∧ ∀ a, v = .ref a → ∃ ob, s.heap.get? a = some ob ∧ ob.dict = none := by
  cases x with
  | str z =>
    obtain ⟨t, rfl⟩ := r
    cases (show T = "str" from ty)
    exact ⟨typeIs_str s z t, fun _ e => nomatch e⟩
  | int i =>
    obtain ⟨t, rfl⟩ := r
    cases (show T = "int" from ty)
    exact ⟨typeIs_int s i t, fun _ e => nomatch e⟩
  | ref p =>
    cases r
    rcases ty with ⟨rfl, xs, hq⟩ | ⟨rfl, o, hk, hc, hd⟩ | ⟨rfl, hk⟩ | ⟨rfl, S, n, hk⟩
    · obtain ⟨its, _, pl, _⟩ := I.list hq
      refine ⟨pl.isList.typeIs, fun a e => ?_⟩
      cases e
      obtain ⟨o, n, e, c, hd, _⟩ := pl
      exact ⟨o, e, hd⟩
    · refine ⟨⟨o, I.kIn p o hk, hc⟩, fun a e => ?_⟩
      cases e
      exact ⟨o, I.kIn _ o hk, hd⟩
    · have z : ∃ o, s.heap.get? p = some o ∧ o.ExactDict := by
        rcases hk with ⟨kvs, hk⟩ | ⟨kvs, hk⟩
        · obtain ⟨_, _, _, _, o, _, _, e, ex, _⟩ := I.hok p _ hk
          exact ⟨o, e, ex⟩
        · obtain ⟨_, _, _, _, o, _, _, e, ex, _⟩ := I.hok p _ hk
          exact ⟨o, e, ex⟩
      obtain ⟨o, e, ex⟩ := z
      refine ⟨⟨o, e, ex.1⟩, fun a e2 => ?_⟩
      cases e2
      exact ⟨o, e, ex.2.1⟩
    · obtain ⟨o, _, _, _, e, ex, _⟩ := I.hok p _ hk
      refine ⟨⟨o, e, ex.1⟩, fun a e2 => ?_⟩
      cases e2
      exact ⟨o, e, ex.2.1⟩
  | _ => exact False.elim ty
noncomputable def tBM (K : PySem.W.Frag) (T : String) (r : V → List V → Hp → VK → Prop) (to : TE) (t : TA) : TE := fun σ H Q => to σ H fun x H1 => tyV K T x H1 ∧ t σ H1 fun xs H2 => r x xs H2 Q
variable {o e : Expr} {es : List Expr} {to : TE} {t : TA} {name : Str} {apos cpos : Pos} {T id : String} {r : V → List V → Hp → VK → Prop}
theorem pe_bm (pa : PlainAttrs T) (slot : Slot T name id) (hty : typeOf (.builtin id) = pure (.type "method_descriptor")) (hm : MtR X id r) (ho : PE X o to) (ha : PA X (e :: es) t)
    (hbase : attributeBase o name X.env (eval o X.env) = eval o X.env := by rfl)
    (hfew : ((backTo cpos (starEach (e :: es) X.env)).all (fun x => !x.1) && (backToKw cpos (keywordEach [] X.env)).all (fun x => x.1.isSome)
      && decide ((e :: es).length + ([] : List Keyword).length + (if ([] : List Keyword).isEmpty then 0 else 1) < 30)) = true := by rfl)
    (hline : (apos.endLine == cpos.line) = true := by rfl) (hs : starEach (e :: es) X.env = (false, eval e X.env) :: starEach es X.env := by rfl) (hplain : (backTo cpos (starEach es X.env)).any (·.1) = false := by rfl) :
    PE X (.Call (.Attribute o name apos) (e :: es) [] cpos) (tBM X.K T r to t) := by
  intro pins s σ H Q I h
  refine wpAny_Call_method_late hbase hfew hline rfl (thn (ho pins s σ H _ I h) fun v s1 ⟨x, H1, I1, r1, ty, q1⟩ => ?_)
  obtain ⟨h1, h2⟩ := tyV_is I1 r1 ty
  refine ⟨T, id, pa, slot, hty, h1, h2, ?_⟩
  have hA := ha cpos pins s1 σ H1 _ I1 q1
  rw [hs] at hA ⊢
  refine Calls.callWith_builtin (by show (false || (backTo cpos (starEach es X.env)).any (·.1)) = false; rw [hplain] <;> rfl) (Calls.evalArgs_plain ?_)
  exact thn hA fun us s2 ⟨vs, H2, I2, r2, q2⟩ => hm pins s2 σ H2 x vs v us Q I2 r1 r2 q2
end
end L2
namespace L2
open PySem PySem.Spec PyProof.Rows
noncomputable def MtM (X : Cx) (id : String) (r : V → List V → Hp → VK → Prop) : Prop :=
  ∀ (pins : List (Addr × Obj)) (s : Shared) (σ : St) (H : Hp) (x : V) (xs : List V) (v : Value) (us : List Value) (Q : VK), Inv X pins σ H s → RelV x v → Vals xs us → r x xs H Q →
    wpAny (model X.prog X.w) X.A (call (.builtin id) (v :: us)) (EP X pins σ Q) X.xe s
theorem Vals.one : ∀ {x : V} {us : List Value}, Vals [x] us → ∃ u, us = [u] ∧ RelV x u
  | _, _, .cons r .nil => ⟨_, rfl, r⟩
theorem Vals.two : ∀ {x y : V} {us : List Value}, Vals [x, y] us → ∃ u v, us = [u, v] ∧ RelV x u ∧ RelV y v
  | _, _, _, .cons r (.cons q .nil) => ⟨_, _, rfl, r, q⟩
theorem Vals.zero : ∀ {us : List Value}, Vals [] us → us = []
  | _, .nil => rfl
theorem Vals.reverse {xs : List V} {us : List Value} (h : Vals xs us) : Vals xs.reverse us.reverse := by
  induction h with
  | nil => exact .nil
  | cons r t ih => rw [List.reverse_cons, List.reverse_cons]; exact Vals.append ih (.cons r .nil)
section
variable {X : Cx} {pins : List (Addr × Obj)} {σ : St} {H : Hp} {s : Shared} {l b : Addr} {xs ys zs : List V}
theorem Inv.lset {its its' : List Value} {n : Nat} {f : Array Value → Array Value} {t' : Nat} (I : Inv X pins σ H s) (hH : H l = some (.lst xs))
    (e : s.heap.get? l = some { cls := .type "list", data := .seq its.toArray n }) (hf : f its.toArray = its'.toArray) (hv : Vals ys its') (hz : ys.length ≤ sizeLine) :
    Inv X pins σ (upd H l (.lst ys)) { s with heap := s.heap.update l (Obj.mapSeq f), toks := t' } := by
  have q := PySem.IsL.update e f
  rw [hf] at q
  refine I.write (x := l) (e := l) (by rw [hH]; exact trivial) (.inl rfl) (fun b' u hb hu => (Heap.get?_update_other s.heap (Obj.mapSeq f) (Ne.symm hb)).trans hu) ⟨_, q⟩ ?_
  exact ⟨hz, its', _, hv, q⟩
theorem Inv.lnew {its : List Value} {t' : Nat} (I : Inv X pins σ H s) (hv : Vals ys its) (hz : ys.length ≤ sizeLine) :
    Inv X pins σ (upd H s.heap.objs.size (.lst ys)) { s with heap := s.heap.push { cls := .type "list", data := .seq its.toArray }, toks := t' } :=
  I.laid (fun _ _ q => Heap.get?_push_of_some _ q) (Nat.le_refl _) ⟨hz, its, 0, hv, Heap.get?_push_size _ rfl⟩
theorem Inv.fresh (I : Inv X pins σ H s) : H s.heap.objs.size = none := I.hok.fresh (Nat.le_refl _)
theorem Inv.lstM (I : Inv X pins σ H s) (hH : H l = some (.lst xs)) : xs.length ≤ sizeLine ∧ ∃ (its : List Value) (n : Nat), Vals xs its ∧ xs.length = its.length ∧ s.heap.get? l = some { cls := .type "list", data := .seq its.toArray n } := by
  obtain ⟨z, its, n, r, e⟩ := I.hok l _ hH
  exact ⟨z, its, n, r, r.length, e⟩
theorem notLongL {n : Nat} (h : n ≤ sizeLine) : Builtin.List.listTooLong n = false := by
  unfold Builtin.List.listTooLong
  exact decide_eq_false (by omega)
end
section
variable {X : Cx}
noncomputable def rAppend : V → List V → Hp → VK → Prop := fun x vs H Q => ∃ l xs y, x = .ref l ∧ vs = [y] ∧ H l = some (.lst xs) ∧ xs.length < sizeLine ∧ Q .non (upd H l (.lst (xs ++ [y])))
theorem mt_append : MtM X "list.append" rAppend := by
  intro pins s σ H x vs v us Q I rx rv h
  obtain ⟨l, xs, y, rfl, rfl, hH, hz, q⟩ := h
  cases rx
  obtain ⟨u, rfl, ru⟩ := rv.one
  obtain ⟨z, its, n, r, hl, e⟩ := I.lstM hH
  refine call_meets F.slot_list_append ⟨_, e, rfl⟩ F.entry_list_append (F.args_list_append_2 _ _) (PySem.list_append l its.toArray n u (by rw [List.size_toArray]; omega)) ⟨e, ?_⟩
  refine ⟨.non, _, I.lset (its' := its ++ [u]) hH e (by simp) (r.append (.cons ru .nil)) ?_, rfl, q⟩
  rw [List.length_append, List.length_singleton]
  omega
noncomputable def rClear : V → List V → Hp → VK → Prop := fun x vs H Q => ∃ l xs, x = .ref l ∧ vs = [] ∧ H l = some (.lst xs) ∧ Q .non (upd H l (.lst []))
theorem mt_clear : MtM X "list.clear" rClear := by
  intro pins s σ H x vs v us Q I rx rv h
  obtain ⟨l, xs, rfl, rfl, hH, q⟩ := h
  cases rx
  have hus := rv.zero
  subst hus
  obtain ⟨z, its, n, r, hl, e⟩ := I.lstM hH
  refine call_meets F.slot_list_clear ⟨_, e, rfl⟩ F.entry_list_clear (F.args_list_clear_1 _) (AutoSeq1.list_clear_list_0 l its.toArray n (by rw [List.size_toArray]; omega)) ⟨e, ?_⟩
  exact ⟨.non, _, I.lset (its' := []) (ys := []) hH e rfl .nil (Nat.zero_le _), rfl, q⟩
end
section
variable {prog : Program} {w : World} {A : Around} {E : Value → Shared → Prop} {s : Shared}
set_option maxRecDepth 100000 in
end
section
variable {X : Cx}
end
end L2
namespace Att
open PySem PySem.W PySem.Calls PyProof.Rows
theorem ints_of_wellAll {P : Params} {h : Heap} : ∀ (ns : List Int) (vs : List Value), WellAll P h vs (ns.map WData.int) → IntsAre vs ns := by
  intro ns
  induction ns with
  | nil =>
    intro vs w
    rw [List.map_nil] at w
    cases w
    exact .nil
  | cons n ns ih =>
    intro vs w
    rw [List.map_cons] at w
    cases w with
    | cons a b =>
      cases a
      exact .cons _ _ (ih _ b)
theorem script_of {l : OpenLaw} {n : Nat} (hn : l.most = some n) {P : Params} {h : Heap} {args : List WData} {vals : List Value}
    (hpre : l.row.toRowW.claim.pre args = true) (hwl : WellAll P h vals args) :
    ∃ a vs ns, vals = [Value.ref a] ∧ args = [WData.list (ns.map WData.int)] ∧ h.get? a = some { cls := .type "list", data := .seq vs.toArray } ∧ IntsAre vs ns ∧ ns.length ≤ n := by
  have hsh : WShape.hasAll [] args [.list .int] = true := (pre_splitW hpre).1
  have hc : l.pre.holds [] { args := args } = true := (pre_splitW hpre).2
  obtain ⟨d, r, rfl, h1, h2⟩ := hasAllW_cons hsh
  obtain rfl := hasAllW_nil h2
  obtain ⟨xs, rfl, h3⟩ := hasW_list h1
  obtain ⟨ns, rfl⟩ := items_int h3
  have hlen : ns.length ≤ n := by
    unfold OpenLaw.pre at hc
    have h4 : (WTm.not (.lt (.lit (.int (n : Int))) (.len (.arg 0)))).holds [] { args := [.list (ns.map .int)] } = true := by
      have h4 := (holds_andW hc).1
      rw [hn] at h4
      exact h4
    have h5 := condW_of h4 (w_not (w_lt w_lit (w_len_list (w_arg rfl))))
    rw [List.length_map] at h5
    refine Nat.le_of_not_lt fun q => ?_
    have q' : (n : Int) < ((ns.length : Nat) : Int) := by omega
    first
      | (rw [decide_eq_true q'] at h5; exact absurd h5 (by decide))
      | (simp at h5; omega)
  cases hwl with
  | cons w1 w2 =>
    cases w2
    cases w1 with
    | list ho hall => exact ⟨_, _, ns, rfl, rfl, ho, ints_of_wellAll ns _ hall, hlen⟩
theorem post_true (l : OpenLaw) (args : List WData) : l.row.toRowW.claim.post args (.bool true) args = true :=
  postW_of (r := l.row.toRowW) (X := (true == true))
    (show WShape.has [] (.bool true) .bool = true by first | rfl | decide | simp [WShape.has, WShape.arms, WShape.armsAll])
    (show (WTm.eq .res (.lit (.bool true))).value [] { args := args, res := some (.bool true), after := args } = some (.bool (true == true)) from w_eq_bool (w_res rfl) w_lit) rfl
theorem attach_call {l : OpenLaw} {n : Nat} {q : Program} {loose : List Str} {XP : (Str → Option Value) → Heap → Prop} {YP : World → Heap → Prop} {d : DefRec}
    (hn : l.most = some n) (hdf : d.params.defaults = [])
    (call : ∀ (w : World) (s₀ s₁ : Shared) (mg mb : Str → Option Value) (fa : Addr) (o : Obj) (pm cd doc : Value) (a : Addr) (vs : List Value) (ns : List Int),
      Ground q loose [] XP w s₀ mg mb s₁.heap → YP w s₁.heap →
      s₁.heap.get? fa = some o → o.data = .func (docDef d.name d.params d.body d.scope pm cd doc) → s₁.heap.CodeRec cd d.name → mg d.name = some (.ref fa) →
      s₁.heap.get? a = some { cls := .type "list", data := .seq vs.toArray } → IntsAre vs ns → ns.length ≤ n → s₁.gens = #[] →
      codeAny (model l.prog w) callerA (.call (.ref fa) ⟨[.ref a], []⟩) (fun r s' => r = .ok (.ret (.bool true)) ∧ OldK s₁.heap s'.heap ∧ s'.os = s₁.os ∧ AllBare s'.gens) s₁) :
    WalkO q loose XP YP l.row.toRowW d [] (fun f vs => PySem.call f vs) := by
  intro w s₀ s₁ mg mb G Y fa o pm cd doc dV kV ho hd hcd hD hmg hg args vals as hpre hlay hrd hwl hlo
  obtain rfl : dV = .none := Dflts.none hD hdf
  obtain rfl : kV = .none := Dflts.noKw hD
  obtain ⟨a, vs, ns, rfl, rfl, hobj, hints, hlen⟩ := script_of hn hpre hwl
  refine enter_call (codeAny_mono (call w s₀ s₁ mg mb fa o pm cd doc a vs ns G Y ho (fd_plain hd) hcd hmg hobj hints hlen hg) fun r s' hq => ?_)
  obtain ⟨rfl, h2, h3, h4⟩ := hq
  exact ⟨.inl ⟨.bool true, .bool true, [], rfl, fun _ => rfl, .bool true, post_true l _, fun _ => ⟨List.Pairwise.nil, fun _ hm => (nomatch hm)⟩⟩, h2, h3, h4⟩
section
variable {prog : Program} {w : World} {A : Around} {E : Value → Shared → Prop} {s : Shared} {K : Frag}
end
end Att
namespace L2
open PySem PySem.Spec PyProof.Rows
theorem vals_ints : ∀ {vs : List Value} {ns : List Int}, IntsAre vs ns → Vals (ns.map V.int) vs
  | _, _, .nil => .nil
  | _, _, .cons n t h => .cons ⟨t, rfl⟩ (vals_ints h)
noncomputable def Only (H : Hp) : Prop := ∀ b, H b = none ∨ ∃ o xs, H b = some (.frz o (.lst xs))
theorem law_call {P : Program} {w : World} {K : PySem.W.Frag} {mg mb : Str → Option Value} {CX : CXT} {k : Nat} {fa a : Addr} {fd : FuncData} {x : Str} {sp : Sp} {s₁ : Shared} {vs : List Value} {ns : List Int}
    (KX : K.In s₁.heap) (hns : s₁.heap.Ns mainGlobals mg) (hb : s₁.heap.Ns builtinsNs mb) (hbb : ∀ x : Str, x ≠ "__name__" → mb x = bootBuiltins x) (hlim : s₁.heap.NoLimit) (hg : s₁.gens = #[])
    (ha : s₁.heap.get? a = some { cls := .type "list", data := .seq vs.toArray }) (hi : IntsAre vs ns) (hl : ns.length ≤ sizeLine) (hr : Room k callerA)
    (F : ∀ base : Heap, K.In base → base.Ns mainGlobals mg → FnOk P w K mg base CX k fa fd [x] sp) (hbind : ∀ (s : Shared) (u : Value), BindsTo s fd ⟨[u], []⟩ [(x, u)])
    (hsp : ∀ H : Hp, Only H → SqL K H a (ns.map V.int) → sp [.ref a] H (fun v _ => v = .bl true) fun _ _ _ => False)
    (hCX : ∀ H e s', CX [] H s₁ (fun _ _ _ => False) e s' → False) :
    codeAny (model P w) callerA (.call (.ref fa) ⟨[.ref a], []⟩) (fun r s' => r = .ok (.ret (.bool true)) ∧ OldK s₁.heap s'.heap ∧ s'.os = s₁.os ∧ AllBare s'.gens) s₁ := by
  have rv := vals_ints hi
  have lenV := hi.length
  have core : ∀ H : Hp, Only H → SqL K H a (ns.map V.int) → HOk P w H s₁.heap → (∀ b, H b ≠ none → b = a) → (H a ≠ none → K.lookup a = none) →
      codeAny (model P w) callerA (.call (.ref fa) ⟨[.ref a], []⟩) (fun r s' => r = .ok (.ret (.bool true)) ∧ OldK s₁.heap s'.heap ∧ s'.os = s₁.os ∧ AllBare s'.gens) s₁ := by
    intro H hO hS hok hA hK
    have base_of : ∀ {b : Addr} {o : Obj}, s₁.heap.get? b = some o → H b = none → (hidT s₁.heap H).get? b = some o := fun e n => hidT_get e n
    have noA : ∀ {b : Addr} {o : Obj} {es : Array DictEntry} {ep : Nat}, s₁.heap.get? b = some o → o.data = .dict es ep → H b = none := fun {b o es ep} e d => by
      cases q : H b with
      | none => rfl
      | some u =>
        have e' : b = a := hA b (by rw [q]; simp)
        subst e'
        rw [ha] at e; cases e
        have d' : Data.seq vs.toArray _ = Data.dict es ep := d
        cases d'
    have nsK : ∀ {b : Addr} {m : Str → Option Value}, s₁.heap.Ns b m → (hidT s₁.heap H).Ns b m := fun {b m} ⟨o, es, ep, e, d, r⟩ => ⟨o, es, ep, base_of e (noA e d), d, r⟩
    have hKb : K.In (hidT s₁.heap H) := fun b o e => base_of (KX b o e) (by
      cases q : H b with
      | none => rfl
      | some u =>
        have e' : b = a := hA b (by rw [q]; simp)
        subst e'
        rw [hK (by rw [q]; simp)] at e; cases e)
    have hM : Mod K mg (hidT s₁.heap H) := ⟨hKb, nsK hns, ⟨mb, nsK hb, hbb⟩, let ⟨mc, h1, h2⟩ := hlim; ⟨mc, nsK h1, h2⟩⟩
    have e0 : Env0 P w K mg (hidT s₁.heap H) callerA [] s₁ H := ⟨rfl, hM, fun b o e => of_hidT e, Nat.le_of_eq (hidT_size _ _), trivial, fun b hb => absurd (show b ∈ ([] : List Addr) from hb) (by simp), hok, .of_eq hg⟩
    refine codeAny_mono ((F _ hKb (nsK hns)).run callerA [] s₁ H ⟨[.ref a], []⟩ [.ref a] [.ref a] _ _ hr e0 (hbind s₁ (.ref a)) (.cons rfl .nil) (hsp H hO hS)) fun r s' h => ?_
    cases r with
    | error e => exact (hCX H e s' h).elim
    | ok fl =>
      cases fl with
      | next => exact False.elim h
      | brk => exact False.elim h
      | cont => exact False.elim h
      | ret u =>
        obtain ⟨v, H', os, bare, un, hok', r', q⟩ := h
        have q' : v = .bl true := q
        subst q'
        obtain rfl : u = Value.bool true := r'
        refine ⟨rfl, OldK.of_keep fun b o e => ?_, os, bare⟩
        cases q : H b with
        | none => exact un.keep b o e q (by intro z; exact absurd (show b ∈ ([] : List Addr) from z) (by simp)) (by simp)
        | some u =>
          rcases hO b with z | ⟨ob, xs, z⟩
          · rw [q] at z; cases z
          · have z2 := un.frzs b ob _ z
            obtain ⟨e1, _⟩ := hok b _ z
            obtain ⟨e2, _⟩ := hok' b _ z2
            rw [e] at e1; cases e1
            exact e2
  cases hk : K.lookup a with
  | some o =>
    have e := KX a o hk
    rw [ha] at e
    cases e
    refine core (fun _ => none) (fun _ => .inl rfl) (.inr ⟨_, vs.toArray, _, hk, rfl, rfl, rfl, by rw [List.size_toArray, lenV]; exact hl, by simpa using rv⟩) (fun b u z => by have z' : (none : Option HO) = some u := z; cases z') (fun b z => absurd rfl z) fun z => absurd rfl z
  | none =>
    refine core (fun b => if b = a then some (.frz { cls := .type "list", data := .seq vs.toArray } (.lst (ns.map V.int))) else none) (fun b => ?_) (.inl (.inr ⟨{ cls := .type "list", data := .seq vs.toArray }, if_pos rfl⟩)) (fun b u z => ?_) (fun b z => ?_) fun _ => hk
    · by_cases hb : b = a
      · exact .inr ⟨_, _, if_pos hb⟩
      · exact .inl (if_neg hb)
    · by_cases hb : b = a
      · have z' := (if_pos hb).symm.trans z
        cases z'
        subst hb
        exact ⟨ha, by rw [List.length_map]; exact hl, vs, _, rv, ha⟩
      · have z' := (if_neg hb).symm.trans z
        cases z'
    · by_cases hb : b = a
      · exact hb
      · exact absurd (if_neg hb) z
end L2
namespace L2
open PySem PySem.Spec PyProof.Rows
end L2
namespace L2
open PySem PySem.Spec PyProof.Rows
noncomputable def defArgs (s : Stmt) : Arguments := match s with
  | .FunctionDef _ a _ _ _ _ _ _ _ _ => a
  | _ => { posonlyargs := [], args := [], vararg := none, kwonlyargs := [], kw_defaults := [], kwarg := none, defaults := [] }
noncomputable def defBody (s : Stmt) : List Stmt := match s with
  | .FunctionDef _ _ b _ _ _ _ _ _ _ => b
  | _ => []
noncomputable def defScope (s : Stmt) : Scope := match s with
  | .FunctionDef _ _ _ _ _ _ sc _ _ _ => sc
  | _ => { kind := .function, names := [], isGenerator := false, isCoroutine := false }
noncomputable abbrev CX0 : CXT := fun _ _ _ _ _ _ => False
structure Fun (K : PySem.W.Frag) (x qual : Str) (st : Stmt) (f : Addr) (fd : FuncData) : Prop where
  ex : ∃ (oc : Value) (od : Option Addr) (kV doc pm : Value) (an : Option Addr) (cdv ct : Value) (osl : Array (Option Value)),
    fd = PySem.W.fnOf x qual (defArgs st) (defBody st) (defScope st) .none kV doc pm an cdv ct ∧ K.lookup f = some ⟨oc, od, .func fd, osl⟩ ∧ PySem.W.codeIn K cdv qual = true
  kp : PySem.W.keepIn K (.ref f) = true
section
variable {P : Program} {w : World} {K : PySem.W.Frag} {mg : Str → Option Value} {base : Heap}
theorem Fun.ok {x qual : Str} {st : Stmt} {f : Addr} {fd : FuncData} {N ps : List Str} {k : Nat} {sp : Sp} (F : Fun K x qual st f fd) (S : FnScope N ps (defScope st)) (len : ∀ vs H Q E, sp vs H Q E → vs.length = ps.length)
    (hbody : ∀ (cdv : Value) (A : Around) (outer : List Env) (s : Shared) (H : Hp) (vs : List V) (Q : VK) (E : XK), Room k (A.deeper (envOfC qual (defScope st) s.heap.objs.size f cdv)) → sp vs H Q E →
      ∃ t, PSs (cxOf CX0 P w K mg base N qual (defScope st) f cdv A outer s H E).nox (defBody st) t ∧ t { nx := fun _ H' => Q .non H', rt := Q } (start N vs) H) : FnOk P w K mg base CX0 (k + 1) f fd ps sp := by
  obtain ⟨oc, od, kV, doc, pm, an, cdv, ct, osl, rfl, lk, hcd⟩ := F.ex
  refine fn_of lk hcd S len fun A outer s H vs Q E hr hsp => ?_
  obtain ⟨t, h, q⟩ := hbody cdv A outer s H vs Q E hr hsp
  exact ⟨t, h.nox, q⟩
theorem fun_mk {x qual : Str} {st : Stmt} {f : Addr} {oc : Value} {od an : Option Addr} {osl : Array (Option Value)} {kV doc pm cdv ct : Value} (l : K.lookup f = some ⟨oc, od, .func (PySem.W.fnOf x qual (defArgs st) (defBody st) (defScope st) .none kV doc pm an cdv ct), osl⟩)
    (c : PySem.W.codeIn K cdv qual = true) (k : PySem.W.keepIn K (.ref f) = true) : Fun K x qual st f (PySem.W.fnOf x qual (defArgs st) (defBody st) (defScope st) .none kV doc pm an cdv ct) := ⟨⟨oc, od, kV, doc, pm, an, cdv, ct, osl, rfl, l, c⟩, k⟩
end
section
variable {X : Cx}
end
noncomputable def Same (H H' : Hp) : Prop := ∀ b o, H b = some o → H' b = some o
theorem Same.trans {H H1 H2 : Hp} (a : Same H H1) (b : Same H1 H2) : Same H H2 := fun c o h => b c o (a c o h)
theorem Same.free {H H' : Hp} (e : Same H H') {l : Addr} (h : H' l = Option.none) : H l = Option.none := by
  cases q : H l with
  | none => rfl
  | some o =>
    rw [e l o q] at h
    cases h
theorem Same.seq {K : PySem.W.Frag} {H H' : Hp} {a : Addr} {xs : List V} (e : Same H H') (h : SqL K H a xs) : SqL K H' a xs := by
  rcases h with (h | ⟨o, h⟩) | h
  · exact .inl (.inl (e _ _ h))
  · exact .inl (.inr ⟨o, e _ _ h⟩)
  · exact .inr h
section
variable {κ : Type} [DecidableEq κ]
end
end L2
set_option Elab.async false
set_option linter.all false
set_option maxRecDepth 100000
set_option maxHeartbeats 4000000
namespace L2
open PySem PySem.Spec PyProof.Rows
noncomputable def DA (h : Heap) (e : Addr) (d : Option Addr) : Prop := ∃ o, h.get? e = some o ∧ o.dict = d
theorem dict_mapFields (f : Array Value → Array Value) (o : Obj) : (Obj.mapFields f o).dict = o.dict := by
  obtain ⟨c, d, x, sl⟩ := o
  cases x <;> rfl
section
variable {M : Model} {A : Around} {E : Value → Shared → Prop} {s : Shared} {base : Heap} {env : Env} {outer l : List Env} {L e : Addr} {Q : Unit → Shared → Prop}
theorem entry_d {oe : Obj} {vs : Array Value} {head a0 : Value} {hadNext : Bool} (hfr : A.frames = some (env :: outer)) (hl : s.heap.FunFrames base (env :: outer)) (hf : env.frame = some L) (he : s.heap.get? e = some oe) (hkb : base.StaysIn s.heap) (hen : base.get? e = none)
    (hd : oe.data = .fields vs) (hsz : 1 < vs.size) (h0 : vs[0]? = some a0) (k : ∀ h', Heap.NotedW base (env :: outer) e oe.cls a0 (rawInt L) s.heap h' → DA h' e oe.dict → Q () { s with heap := h' }) :
    wpAny M A (do let fr ← frameOf env; let pl ← entryPlaceOf L hadNext; let t ← EntryCells.newEntry head fr .none (rawInt L) .none pl; setField (.ref e) 1 t) Q E s := by
  have out : e ∉ (env :: outer).filterMap (·.frame) := fun z => by
    obtain ⟨_, o, ho, nf⟩ := hl.mem z
    cases he.symm.trans ho
    exact nf vs hd
  refine wpAny_bind (wpAny_frameOf_fun hfr hl hf fun g1 sl1 => wpAny_bind (wpAny_entryPlaceOf fun pl hpl => ?_))
  unfold EntryCells.newEntry newFields
  refine wpAny_bind (wpAny_newObj_type ?_ (hpl.sizeOk5 _ _ _ _ _))
  generalize hT : ({ cls := .type "traceback", dict := none, data := .fields ([head, .ref L, .none, rawInt L, .none] ++ (if pl.isEmpty then List.replicate 6 Value.none else pl)).toArray } : Obj) = oT
  have e1 : g1.get? e = some oe := (sl1.2.1 e out).trans he
  have b1 : base.StaysIn g1 := fun b o q => (sl1.2.1 b fun z => by rw [(hl.mem z).1] at q; cases q).trans (hkb b o q)
  have e2 : (g1.push oT).get? e = some oe := Heap.get?_push_of_some oT e1
  refine wpAny_setField e2 hd hsz (k _ ?_ ?_)
  · have ne : g1.objs.size ≠ e := Nat.ne_of_gt (Heap.lt_size e1)
    have d3 := Obj.data_mapFields hd (·.setIfInBounds 1 (Value.ref g1.objs.size))
    have e3 := Heap.get?_update_self (Obj.mapFields (·.setIfInBounds 1 (Value.ref g1.objs.size))) e2 (Obj.isFreed_of_fields d3)
    have t3 : (g1.push oT).get? g1.objs.size = some oT := Heap.get?_push_size g1 (by rw [← hT]; rfl)
    have t4 : ((g1.push oT).update e (Obj.mapFields (·.setIfInBounds 1 (Value.ref g1.objs.size)))).get? g1.objs.size = some oT := (Heap.get?_update_other _ _ (Ne.symm ne)).trans t3
    have stay : ∀ b o, b ≠ e → g1.get? b = some o → ((g1.push oT).update e (Obj.mapFields (·.setIfInBounds 1 (Value.ref g1.objs.size)))).get? b = some o := fun b o n q =>
      (Heap.get?_update_other _ _ (Ne.symm n)).trans (Heap.get?_push_of_some oT q)
    have other : ∀ b o, s.heap.get? b = some o → (∀ ws, o.data ≠ .fields ws) → b ≠ e := fun b o q nf z => by
      subst z
      cases he.symm.trans q
      exact nf vs hd
    refine ⟨fun b o q => stay b o (fun z => by rw [z, hen] at q; cases q) (b1 b o q), hl.of_keeps fun b o q nf => ?_, ⟨_, _, g1.objs.size, oT, _, e3, ⟨Obj.cls_mapFields _ _, ?_⟩, d3, by simp [hsz], b1.fresh, ne, t4, by rw [← hT], ?_⟩, fun b o q nf => ?_⟩
    · obtain ⟨sl, z⟩ := sl1.2.2 b o q
      exact ⟨_, stay b _ (other b o q nf) z, rfl⟩
    · rw [Array.getElem?_setIfInBounds_ne (by decide)]; exact h0
    · first | (simp; done) | (rcases hpl with rfl | ⟨_, _, _, _, _, _, _, rfl⟩ <;> simp)
    · obtain ⟨sl, z⟩ := sl1.2.2 b o q
      exact ⟨sl, stay b _ (other b o q nf) z⟩
  · have d3 := Obj.data_mapFields hd (·.setIfInBounds 1 (Value.ref g1.objs.size))
    exact ⟨_, Heap.get?_update_self (Obj.mapFields (·.setIfInBounds 1 (Value.ref g1.objs.size))) e2 (Obj.isFreed_of_fields d3), dict_mapFields _ _⟩
theorem flight_d {cls a0 fl : Value} {d : Option Addr} (hkb : base.StaysIn s.heap) (hl : s.heap.FunFrames base l) (ht : s.heap.TracedAtW base e cls a0 fl) (hd : DA s.heap e d)
    (k : ∀ h', base.StaysIn h' → h'.FunFrames base l → h'.TracedW base e cls a0 → s.heap.UpToSlots h' → DA h' e d → Q () { s with heap := h' }) : wpAny M A (setFlight (.ref e) none) Q E s := by
  obtain ⟨oe, vs, T, oT, ts, he, hc, hv, h1, nT, ne, hT, dT, h3⟩ := ht
  obtain ⟨oe', he', hd⟩ := hd
  cases he.symm.trans he'
  have sz : 3 < ts.size := (Array.getElem?_eq_some_iff.mp h3).1
  unfold setFlight
  refine wpAny_bind (wpAny_field he hv h1 ?_)
  rw [if_pos (by simp : (Value.ref T != Value.none) = true)]
  have oth : ∀ b, b ≠ T → (s.heap.update T (Obj.mapFields (·.setIfInBounds 3 ((none : Option Addr).elim Value.none fun f => rawInt f)))).get? b = s.heap.get? b := fun b n => Heap.get?_update_other _ _ (Ne.symm n)
  have plain : ∀ b o, s.heap.get? b = some o → (∀ ws, o.data ≠ .fields ws) → b ≠ T := fun b o q nf z => by
    subst z
    cases hT.symm.trans q
    exact nf ts dT
  have ee := (oth e (Ne.symm ne)).trans he
  refine wpAny_setField hT dT sz (k _ (fun b o q => (oth b fun z => by rw [z, nT] at q; cases q).trans (hkb b o q)) (hl.of_keeps fun b o q nf => ⟨o, (oth b (plain b o q nf)).trans q, rfl⟩) ⟨oe, vs, T, _, _, ee, hc, hv, h1, nT, ne, Heap.get?_update_self _ hT (Obj.isFreed_of_fields (Obj.data_mapFields dT _)), Obj.data_mapFields dT _, by simp [sz]⟩
    (fun b o q nf => ⟨o.slots, (oth b (plain b o q nf)).trans q⟩) ⟨oe, ee, hd⟩)
theorem note_d {cls a0 : Value} {d : Option Addr} (hfr : A.frames = some (env :: outer)) (hf : env.frame = some L) (fl : Heap.FlyingW base (env :: outer) e cls a0 s.heap) (hd : DA s.heap e d)
    (k : ∀ h', Heap.HeldW base (env :: outer) e cls a0 L h' → s.heap.UpToSlots h' → DA h' e d → Q () { s with heap := h' }) : wpAny M A (noteFrame (.ref e) env) Q E s := by
  obtain ⟨hkb, hen, hl, oe, vs, T, oT, ts, he, ⟨rfl, h0⟩, hv, h1, nT, ne, hT, dT, h3⟩ := fl
  obtain ⟨oe', he', rfl⟩ := hd
  cases he.symm.trans he'
  unfold noteFrame
  simp only [hf]
  refine wpAny_bind (wpAny_field he hv h1 ?_)
  rw [if_pos (by simp : (Value.ref T != Value.none) = true)]
  refine wpAny_bind (wpAny_field hT dT h3 ?_)
  rw [if_neg (by simp [rawInt] : ¬ ((Value.none == rawInt L) = true))]
  refine wpAny_bind (wpAny_setField hT dT (Array.getElem?_eq_some_iff.mp h3).1 ?_)
  have oth : ∀ b, b ≠ T → (s.heap.update T (Obj.mapFields (·.setIfInBounds 3 Value.none))).get? b = s.heap.get? b := fun b n => Heap.get?_update_other _ _ (Ne.symm n)
  have plain : ∀ b o, s.heap.get? b = some o → (∀ ws, o.data ≠ .fields ws) → b ≠ T := fun b o q nf z => by
    subst z
    cases hT.symm.trans q
    exact nf ts dT
  exact entry_d hfr (hl.of_keeps fun b o q nf => ⟨o, (oth b (plain b o q nf)).trans q, rfl⟩) hf ((oth e (Ne.symm ne)).trans he) (fun b o q => (oth b fun z => by rw [z, nT] at q; cases q).trans (hkb b o q)) hen hv (Array.getElem?_eq_some_iff.mp h1).1 h0
    fun h' ⟨x1, x2, x3, x4⟩ dd => k h' ⟨x1, hen, x2, x3⟩ (fun b o q nf => x4 b o ((oth b (plain b o q nf)).trans q) nf) dd
theorem lands_d {cls a0 : Value} {d : Option Addr} (hh : Heap.HeldW base l e cls a0 L s.heap) (hd : DA s.heap e d) (k : ∀ h', Heap.FlyingW base l e cls a0 h' → s.heap.UpToSlots h' → DA h' e d → Q () { s with heap := h' }) : wpAny M A (setFlight (.ref e) none) Q E s :=
  flight_d hh.1 hh.2.2.1 hh.2.2.2 hd fun h' k1 k2 k3 k4 k5 => k h' ⟨k1, hh.2.1, k2, k3⟩ k4 k5
theorem again_d {cls a0 : Value} {d : Option Addr} (fl : Heap.FlyingW base l e cls a0 s.heap) (hd : DA s.heap e d) (k : ∀ h', Heap.FlyingW base l e cls a0 h' → s.heap.UpToSlots h' → DA h' e d → Q () { s with heap := h' }) : wpAny M A (setFlight (.ref e) none) Q E s :=
  flight_d fl.1 fl.2.2.1 fl.2.2.2.at hd fun h' k1 k2 k3 k4 k5 => k h' ⟨k1, fl.2.1, k2, k3⟩ k4 k5
theorem funFrames_tail {h : Heap} (x : h.FunFrames base (env :: outer)) : h.FunFrames base outer := x.2.2
theorem leaves_d {cls a0 : Value} {d : Option Addr} (hfr : A.frames = some (env :: outer)) (hf : env.frame = some L) (fl : Heap.FlyingW base (env :: outer) e cls a0 s.heap) (hd : DA s.heap e d)
    (k : ∀ h', Heap.FlyingW base outer e cls a0 h' → s.heap.UpToSlots h' → DA h' e d → Q () { s with heap := h' }) : wpAny M A (leaving env (.ref e)) Q E s := by
  unfold leaving
  refine wpAny_bind (note_d hfr hf fl hd fun h1 x1 u1 d1 => lands_d x1 d1 fun h2 x2 u2 d2 => k h2 ⟨x2.1, x2.2.1, funFrames_tail x2.2.2.1, x2.2.2.2⟩ (u1.trans u2) d2)
theorem first_d {oe : Obj} {vs : Array Value} {a0 : Value} (hfr : A.frames = some (env :: outer)) (hf : env.frame = some L) (hkb : base.StaysIn s.heap) (hl : s.heap.FunFrames base (env :: outer)) (he : s.heap.get? e = some oe) (hen : base.get? e = none) (hv : oe.data = .fields vs) (h0 : vs[0]? = some a0) (h1 : vs[1]? = some .none)
    (k : ∀ h', Heap.FlyingW base outer e oe.cls a0 h' → s.heap.UpToSlots h' → DA h' e oe.dict → Q () { s with heap := h' }) : wpAny M A (leaving env (.ref e)) Q E s := by
  unfold leaving noteFrame
  simp only [hf]
  refine wpAny_bind (wpAny_bind (wpAny_field he hv h1 ?_))
  rw [if_neg (by decide)]
  refine entry_d hfr hl hf he hkb hen hv (Array.getElem?_eq_some_iff.mp h1).1 h0 fun h1 x1 d1 => ?_
  exact flight_d x1.1 x1.2.1 x1.2.2.1 d1 fun h2 k1 k2 k3 k4 k5 => k h2 ⟨k1, hen, funFrames_tail k2, k3⟩ (Heap.UpToSlots.trans x1.2.2.2 k4) k5
end
end L2
set_option Elab.async false
set_option linter.all false
set_option maxRecDepth 100000
set_option maxHeartbeats 4000000
namespace L2
open PySem PySem.Spec PyProof.Rows
section
variable {P : Program} {w : World} {H H' : Hp} {h h' : Heap} {a : Addr} {o : HO}
theorem ObjOk.isAt (x : ObjOk P w H h a o) : ∃ ob, h.get? a = some ob := by
  cases o with
  | lst xs => obtain ⟨_, _, _, _, e⟩ := x; exact ⟨_, e⟩
  | tup xs => obtain ⟨_, _, _, ob, e, _⟩ := x; exact ⟨_, e⟩
  | dK kvs => obtain ⟨_, _, _, _, ob, _, _, e, _⟩ := x; exact ⟨_, e⟩
  | dT kvs => obtain ⟨_, _, _, _, ob, _, _, e, _⟩ := x; exact ⟨_, e⟩
  | set S n => obtain ⟨ob, _, _, _, e, _⟩ := x; exact ⟨_, e⟩
  | ins C dx fs => obtain ⟨_, _, _, e, _⟩ := x; exact ⟨_, e⟩
  | own y => exact x
  | xd fs => obtain ⟨_, ⟨ob, _, _, e, _⟩, _⟩ := x; exact ⟨_, e⟩
  | rng lo hi => obtain ⟨_, _, _, e⟩ := x; exact ⟨_, e⟩
  | frz ob u => exact ⟨_, x.1⟩
  | tbl ps => exact ⟨_, x⟩
  | met f y => exact ⟨_, x⟩
  | ext φ => exact x.2.1
theorem HOk.keptT (x : HOk P w H h) (k : ∀ b u ob, H b = some u → h.get? b = some ob → h'.get? b = some ob) : HOk P w H h' := fun a o e =>
  (x a o e).stay (fun b u hb q => hb.elim (fun z => by subst z; exact k _ _ _ e q) (fun z => k _ _ _ z q)) (fun _ q => q) fun _ _ q => q
end
noncomputable def Fly (B : Heap) (l : List Env) (a : Addr) (cls : Value) (h : Heap) : Prop := ∃ a0, Heap.FlyingW B l a cls a0 h
noncomputable def Within (B : Heap) (l : List Env) (hs : Heap) (H' : Hp) (h' : Heap) : Prop :=
  ∀ b ob, h'.get? b = some ob → (H' b ≠ none ∨ ((∃ o', hs.get? b = some o') ∧ b ∉ frs l)) → B.get? b = some ob
noncomputable def CX1 (P : Program) (w : World) : CXT := fun outer H s E e s' =>
  ∃ (a : Addr) (cls : Value) (B : Heap) (H' : Hp) (dx : Option Addr), e = .ref a ∧ s'.os = s.os ∧ AllBare s'.gens ∧ Un (frs outer) [] H H' s.heap s'.heap ∧ HOk P w H' s'.heap ∧
    (Fly B outer a cls s'.heap ∧ DA s'.heap a dx) ∧ H' a = none ∧ Within B outer s.heap H' s'.heap ∧ E cls dx H'
theorem Inv.notrk {X : Cx} {pins : List (Addr × Obj)} {σ : St} {H : Hp} {s : Shared} (I : Inv X pins σ H s) {e : Addr} (hn : s.heap.get? e = none) : H e = none := by
  cases q : H e with
  | none => rfl
  | some u =>
    obtain ⟨ob, z⟩ := (I.hok e u q).isAt
    rw [hn] at z; cases z
theorem Inv.oldNe {X : Cx} {pins : List (Addr × Obj)} {σ : St} {H : Hp} {s : Shared} (I : Inv X pins σ H s) {b : Addr} {o : Obj} (q : X.s₀.heap.get? b = some o) (hb : b ∉ X.fs) : b ∉ frs X.stack := fun hm => by
  rcases List.mem_cons.mp (I.stkSub b hm) with z | z
  · have := Nat.lt_of_lt_of_le (Heap.lt_size q) I.ok.above
    rw [z] at this
    exact absurd this (Nat.lt_irrefl _)
  · exact hb z
section
variable {P : Program} {w : World} {K : PySem.W.Frag} {mg : Str → Option Value} {base : Heap} {N : List Str} {qual : Str} {scope : Scope} {f : Addr} {cd : Value} {A : Around} {outer : List Env} {s : Shared} {H : Hp} {E : XK}
theorem raise_gen {pins : List (Addr × Obj)} {σ : St} {H1 : Hp} {s1 : Shared} {e : Addr} {oe : Obj} {vs : Array Value} {a0 : Value} {h' : Heap}
    (I : Inv (cxOf (CX1 P w) P w K mg base N qual scope f cd A outer s H E) pins σ H1 s1) (hk : ∀ b o, s1.heap.get? b = some o → b ≠ e → h'.get? b = some o) (hke : ∀ o, s1.heap.get? e = some o → ∃ vs, o.data = .fields vs) (hnt : H1 e = none) (hno : s.heap.get? e = none)
    (hoe : h'.get? e = some oe) (hv : oe.data = .fields vs) (hv0 : vs[0]? = some a0) (hv1 : vs[1]? = some .none) (he : E oe.cls oe.dict H1) :
    (cxOf (CX1 P w) P w K mg base N qual scope f cd A outer s H E).xe (.ref e) { s1 with heap := h' } := by
  have hfr : ((cxOf (CX1 P w) P w K mg base N qual scope f cd A outer s H E).A).frames = some (envOfC qual scope s.heap.objs.size f cd :: outer) := I.ok.frames
  have hl : s1.heap.FunFrames base (envOfC qual scope s.heap.objs.size f cd :: outer) := I.stack
  have hin : ∀ env ∈ (envOfC qual scope s.heap.objs.size f cd :: outer), ∀ b, env.frame = some b → b ∈ e :: frs (envOfC qual scope s.heap.objs.size f cd :: outer) := fun env he b hb => List.mem_cons_of_mem _ (List.mem_filterMap.mpr ⟨env, he, hb⟩)
  have hB : ∀ b o, (PySem.W.hideAll s1.heap (e :: frs (envOfC qual scope s.heap.objs.size f cd :: outer))).get? b = some o → s1.heap.get? b = some o ∧ b ≠ e := fun b o q => ⟨PySem.W.of_hideAll _ q, fun z => by
    subst z
    rw [PySem.W.hideAll_none _ List.mem_cons_self] at q; cases q⟩
  have hff : s1.heap.FunFrames (PySem.W.hideAll s1.heap (e :: frs (envOfC qual scope s.heap.objs.size f cd :: outer))) (envOfC qual scope s.heap.objs.size f cd :: outer) := PySem.W.funFrames_hide hl hin
  show wpAny _ _ (leaving _ _) _ _ _
  refine first_d (base := PySem.W.hideAll s1.heap (e :: frs (envOfC qual scope s.heap.objs.size f cd :: outer))) hfr rfl (fun b o q => hk b o (hB b o q).1 (hB b o q).2) (hff.of_keeps fun b o q nf => ⟨o, hk b o q (fun z => by
    subst z
    obtain ⟨ws, dw⟩ := hke o q
    exact nf ws dw), rfl⟩) hoe (PySem.W.hideAll_none _ List.mem_cons_self) hv hv0 hv1 fun h2 fl up dd => ?_
  have tB : ∀ b u ob, H1 b = some u → s1.heap.get? b = some ob → (PySem.W.hideAll s1.heap (e :: frs (envOfC qual scope s.heap.objs.size f cd :: outer))).get? b = some ob := fun b u ob hb q =>
    PySem.W.hideAll_get _ q fun hm => by
      rcases List.mem_cons.mp hm with z | hm
      · rw [z, hnt] at hb; cases hb
      · have z := I.stkFree b hm
        rw [hb] at z; cases z
  have one : ∀ b o, s.heap.get? b = some o → b ≠ e := fun b o q z => by rw [z, hno] at q; cases q
  have oB : ∀ b o ob, s.heap.get? b = some o → b ∉ frs outer → s1.heap.get? b = some ob → (PySem.W.hideAll s1.heap (e :: frs (envOfC qual scope s.heap.objs.size f cd :: outer))).get? b = some ob := fun b o ob q hb q1 =>
    PySem.W.hideAll_get _ q1 fun hm => (List.mem_cons.mp hm).elim (one b o q) (I.oldNe q hb)
  have st := fl.1
  have slot : ∀ b o, s.heap.get? b = some o → H b = none → b ∈ frs outer → ∃ sl, h2.get? b = some { o with slots := sl } := fun b o q n hb => by
    obtain ⟨sl, e1⟩ := I.base.slot b o q n hb (fun z => nomatch z)
    obtain ⟨_, o2, e2, nf⟩ := I.ok.funs.mem hb
    have e3 : o2 = o := Option.some.inj (e2.symm.trans q)
    subst e3
    obtain ⟨sl2, e4⟩ := up b _ (hk _ _ e1 (one b _ q)) nf
    exact ⟨sl2, e4⟩
  refine ⟨e, oe.cls, _, H1, oe.dict, rfl, I.os, I.bare, ⟨fun b o q n hb _ => ?_, fun b o q n hb _ => slot b o q n hb, fun b o q n _ => I.base.free b o q n (fun z => nomatch z), fun b o q _ => ?_, I.base.tups, I.base.frzs, I.base.tbls⟩, ?_, ⟨⟨_, fl⟩, dd⟩, hnt, fun b ob q hb => ?_, he⟩
  · exact st b o (oB b o o q hb (I.base.keep b o q n hb (fun z => nomatch z)))
  · by_cases hb : b ∈ frs outer
    · obtain ⟨sl, z⟩ := slot b o q (I.ok.frf b hb) hb
      exact ⟨_, z⟩
    · obtain ⟨o', e1⟩ := I.base.there b o q (fun z => nomatch z)
      exact ⟨o', st b o' (oB b o o' q hb e1)⟩
  · exact I.hok.keptT fun b u ob hb q => st b ob (tB b u ob hb q)
  · rcases hb with hb | ⟨⟨o', ho'⟩, hb⟩
    · cases z : H1 b with
      | none => exact absurd z hb
      | some u =>
        obtain ⟨o1, e1⟩ := (I.hok b u z).isAt
        have e2 := tB b u o1 z e1
        have e3 : o1 = ob := Option.some.inj ((st b o1 e2).symm.trans q)
        rw [← e3]; exact e2
    · obtain ⟨o1, e1⟩ := I.base.there b o' ho' (fun z => nomatch z)
      have e2 := oB b o' o1 ho' hb e1
      have e3 : o1 = ob := Option.some.inj ((st b o1 e2).symm.trans q)
      rw [← e3]; exact e2
theorem raise_out {pins : List (Addr × Obj)} {σ : St} {H1 : Hp} {s1 : Shared} {e : Addr} {cls : Value} {args : List Value} {h' : Heap}
    (I : Inv (cxOf (CX1 P w) P w K mg base N qual scope f cd A outer s H E) pins σ H1 s1) (hx : Heap.MadeExcOf s1.heap h' e cls args) (he : E cls none H1) :
    (cxOf (CX1 P w) P w K mg base N qual scope f cd A outer s H E).xe (.ref e) { s1 with heap := h' } := by
  obtain ⟨t, e1, _, _⟩ := hx.there
  refine raise_gen I (fun b o q _ => hx.keeps b o q) (fun o q => by rw [hx.new] at q; cases q) (I.notrk hx.new) ?_ e1 rfl rfl rfl he
  cases q : s.heap.get? e with
  | none => rfl
  | some o =>
    obtain ⟨o1, z⟩ := I.base.there e o q (fun z => nomatch z)
    rw [hx.new] at z; cases z
theorem pass_out {E' : XK} {pins : List (Addr × Obj)} {σ : St} {H1 : Hp} {s1 : Shared} {e : Value} {s' : Shared} (hE : ∀ c d H', E' c d H' → E c d H')
    (I : Inv (cxOf (CX1 P w) P w K mg base N qual scope f cd A outer s H E) pins σ H1 s1) (hc : CX1 P w (envOfC qual scope s.heap.objs.size f cd :: outer) H1 s1 E' e s') :
    (cxOf (CX1 P w) P w K mg base N qual scope f cd A outer s H E).xe e s' := by
  obtain ⟨a, cls, B, H2, dx, rfl, os, bare, un, hok, ⟨⟨a0, fl⟩, dd⟩, ha, inc, he⟩ := hc
  have hfr : ((cxOf (CX1 P w) P w K mg base N qual scope f cd A outer s H E).A).frames = some (envOfC qual scope s.heap.objs.size f cd :: outer) := I.ok.frames
  show wpAny _ _ (leaving _ _) _ _ _
  refine leaves_d hfr rfl fl dd fun h2 fl2 up dd2 => ?_
  have st := fl2.1
  have nil : ∀ b : Addr, b ∉ ([] : List Addr) := fun b z => nomatch z
  have slot : ∀ b o, s.heap.get? b = some o → H b = none → b ∈ frs outer → ∃ sl, h2.get? b = some { o with slots := sl } := fun b o q n hb => by
    obtain ⟨sl, e1⟩ := I.base.slot b o q n hb (nil b)
    obtain ⟨sl1, e2⟩ := un.any e1 (I.base.free b o q n (nil b)) (nil b)
    obtain ⟨_, o2, e3, nf⟩ := I.ok.funs.mem hb
    have e4 : o2 = o := Option.some.inj (e3.symm.trans q)
    subst e4
    obtain ⟨sl2, e5⟩ := up b _ e2 nf
    exact ⟨sl2, e5⟩
  have old : ∀ b o, s.heap.get? b = some o → b ∉ frs outer → ∃ ob, s'.heap.get? b = some ob ∧ B.get? b = some ob := fun b o q hb => by
    obtain ⟨o1, e1⟩ := I.base.there b o q (nil b)
    obtain ⟨o2, e2⟩ := un.there b o1 e1 (nil b)
    exact ⟨o2, e2, inc b o2 e2 (.inr ⟨⟨o1, e1⟩, I.oldNe q hb⟩)⟩
  refine ⟨a, cls, B, H2, dx, rfl, os.trans I.os, bare, ⟨fun b o q n hb _ => ?_, fun b o q n hb _ => slot b o q n hb, fun b o q n _ => ?_, fun b o q _ => ?_, fun b xs q => un.tups b xs (I.base.tups b xs q), fun b o u q => un.frzs b o u (I.base.frzs b o u q), fun b ps q => ?_⟩, ?_, ⟨⟨a0, fl2⟩, dd2⟩, ha, fun b ob q hb => ?_, hE _ _ _ he⟩
  · have e1 := I.base.keep b o q n hb (nil b)
    have e2 := un.keep b o e1 (I.base.free b o q n (nil b)) (I.oldNe q hb) (nil b)
    exact st b o (inc b o e2 (.inr ⟨⟨o, e1⟩, I.oldNe q hb⟩))
  · obtain ⟨o1, e1⟩ := I.base.there b o q (nil b)
    exact un.free b o1 e1 (I.base.free b o q n (nil b)) (nil b)
  · by_cases hb : b ∈ frs outer
    · obtain ⟨sl, z⟩ := slot b o q (I.ok.frf b hb) hb
      exact ⟨_, z⟩
    · obtain ⟨ob, _, e2⟩ := old b o q hb
      exact ⟨ob, st b ob e2⟩
  · obtain ⟨m1, e1⟩ := I.base.tbls b ps q
    obtain ⟨m2, e2⟩ := un.tbls b _ e1
    exact ⟨m1 ++ m2, by rw [e2, Array.append_assoc]⟩
  · exact hok.keptT fun b u ob hb q => st b ob (inc b ob q (.inl (by rw [hb]; exact fun z => nomatch z)))
  · rcases hb with hb | ⟨⟨o', ho'⟩, hb⟩
    · cases z : H2 b with
      | none => exact absurd z hb
      | some u =>
        obtain ⟨o1, e1⟩ := (hok b u z).isAt
        have e2 := inc b o1 e1 (.inl hb)
        have e3 : o1 = ob := Option.some.inj ((st b o1 e2).symm.trans q)
        rw [← e3]; exact e2
    · obtain ⟨o1, e1, e2⟩ := old b o' ho' hb
      have e3 : o1 = ob := Option.some.inj ((st b o1 e2).symm.trans q)
      rw [← e3]; exact e2
theorem pass1 : Passes (CX1 P w) (cxOf (CX1 P w) P w K mg base N qual scope f cd A outer s H E) E := fun _ _ _ _ _ _ I h => pass_out (fun _ _ _ z => z) I h
theorem own1 : PassesOwn (model P w) (cxOf (CX1 P w) P w K mg base N qual scope f cd A outer s H E).A (cxOf (CX1 P w) P w K mg base N qual scope f cd A outer s H E).env (cxOf (CX1 P w) P w K mg base N qual scope f cd A outer s H E).xe :=
  PassesOwn.leaving
end
noncomputable def Raises (X : Cx) (E : XK) : Prop := ∀ (pins : List (Addr × Obj)) (σ : St) (H : Hp) (s : Shared) (e : Addr) (cls : Value) (args : List Value) (h' : Heap), Inv X pins σ H s → Heap.MadeExcOf s.heap h' e cls args → E cls none H → X.xe (.ref e) { s with heap := h' }
noncomputable def RaisesD (X : Cx) (E : XK) : Prop := ∀ (pins : List (Addr × Obj)) (σ : St) (H : Hp) (s : Shared) (e : Addr) (oe : Obj) (vs : Array Value) (a0 : Value), Inv X pins σ H s → H e = none → X.s₀.heap.get? e = none → s.heap.get? e = some oe → oe.data = .fields vs → vs[0]? = some a0 → vs[1]? = some .none → E oe.cls oe.dict H → X.xe (.ref e) s
theorem raisesD1 {P : Program} {w : World} {K : PySem.W.Frag} {mg : Str → Option Value} {base : Heap} {N : List Str} {qual : Str} {scope : Scope} {f : Addr} {cd : Value} {A : Around} {outer : List Env} {s : Shared} {H : Hp} {E : XK} :
    RaisesD (cxOf (CX1 P w) P w K mg base N qual scope f cd A outer s H E) E := fun _ _ _ s1 e oe vs a0 I ht h0 hoe hv v0 v1 he => raise_gen (h' := s1.heap) I (fun _ _ q _ => q) (fun o q => by
  cases hoe.symm.trans q
  exact ⟨vs, hv⟩) ht h0 hoe hv v0 v1 he
theorem raises1 {P : Program} {w : World} {K : PySem.W.Frag} {mg : Str → Option Value} {base : Heap} {N : List Str} {qual : Str} {scope : Scope} {f : Addr} {cd : Value} {A : Around} {outer : List Env} {s : Shared} {H : Hp} {E : XK} :
    Raises (cxOf (CX1 P w) P w K mg base N qual scope f cd A outer s H E) E := fun _ _ _ _ _ _ _ _ I hx he => raise_out I hx he
abbrev bmV : List Value := [.type "ValueError", .type "Exception", .type "BaseException", .type "object"]
noncomputable def ExcC (K : PySem.W.Frag) (C : Addr) : Prop := PySem.W.excIn K C bmV "ValueError.__new__" = true
noncomputable def tRaise (E : XK) (C : Addr) (t : TA) : TS := fun _ σ H => t σ H fun vs H1 => vs.length ≤ sizeLine ∧ E (.ref C) none H1
theorem exc_obj {K : PySem.W.Frag} {h : Heap} {C : Addr} {bmB : List Value} {nid : String} (X : K.In h) (z : PySem.W.excIn K C bmB nid = true) :
    ∃ bm M nm qn bs b1 sn sb b2 co dd x0 x1 x2 x3 x5 mN, h.get? C = some (excClassObj nm qn C M bs bm b1 sn sb b2 co dd x0 x1 x2 x3 x5 nid) ∧ h.Ns M mN ∧ mN "__init__" = none ∧ OwnTail h bmB bm := by
  unfold PySem.W.excIn at z
  split at z
  next dd cd sl ho =>
    split at z
    next C' bm x0 x1 x2 x3 n x5 hm hs =>
      rw [Bool.and_eq_true, Bool.and_eq_true, Bool.and_eq_true, Bool.and_eq_true, Bool.and_eq_true, beq_iff_eq, beq_iff_eq, beq_iff_eq] at z
      have z1 := z.1.1.1.1.1
      have z2 := z.1.1.1.1.2
      have z3 := z.1.1.1.2
      have z4 := z.1.1.2
      have z5 := z.1.2
      have z6 := z.2
      subst z1; subst z2
      cases cd with
      | mk nm bs mro ns qn hd sn sub ab col del =>
        cases hm
        cases del with
        | true => cases z3
        | false =>
          have es : sl = #[x0, x1, x2, x3, some (.builtin n), x5] := by
            cases sl with
            | mk l => cases hs; rfl
          subst es
          exact ⟨bm, ns, nm, qn, bs, hd, sn, sub, ab, col, dd, x0, x1, x2, x3, x5, _, X _ _ ho, .of_isNs (PySem.W.isNs_of_in X z5), PySem.W.nsMap_none_of_in X z5 z6, PySem.W.tail_of_in X z4⟩
    next => cases z
  next => cases z
section
variable {X : Cx} {x : Str} {C : Addr} {e : Expr} {es : List Expr} {t : TA} {np cpos pos : Pos} {E : XK}
theorem ps_raise (hx : Raises X E) (hc : X.calm = true) (hg : Gl X x) (hm : X.mg x = some (.ref C)) (q : ExcC X.K C) (ha : PA X (e :: es) t) (hdb : (x == ("__debug__" : Str)) = false := by decide)
    (he : starEach (e :: es) X.env = (false, eval e X.env) :: starEach es X.env := by rfl) (hpl : (backTo cpos (starEach es X.env)).any (·.1) = false := by rfl) :
    PS X (.Raise (some (.Call (.Name x np) (e :: es) [] cpos)) none pos) (tRaise E C t) := by
  intro pins s σ H D I h
  obtain ⟨bm, M, nm, qn, bs, b1, sn, sb, b2, co, dd, x0, x1, x2, x3, x5, mN, hC, hN, hni, T⟩ := exc_obj I.ok.mod.kin q
  refine wpAny_Raise_call_subT (C := C) (nm := nm) (q := qn) (N := M) (bs := bs) (bm := bm) (hdct := b1) (sn := sn) (sub := sb) (ab := b2) (col := co) (dd := dd) (k0 := x0) (k1 := x1) (k2 := x2) (k3 := x3) (k5 := x5)
    PySem.F.excBase_ValueError (mN := mN) (T.hasType PySem.F.excBase_ValueError.hasBase) (I.ok.hd hc) ?pl hni (ld_glob I hg hm ⟨rfl, ?_⟩ hdb)
  case pl =>
    rw [he]
    show (false || (backTo cpos (starEach es X.env)).any (·.1)) = false
    rw [hpl]; rfl
  have h2 := ha cpos pins s σ H _ I h
  rw [he] at h2 ⊢
  refine Calls.evalArgs_plain (thn h2 fun us s2 ⟨vs, H2, I2, r, z, q2⟩ => ?_)
  exact ⟨rfl, by rw [← r.length]; exact z, I2.bk _ _ hC, hN.keeps I2.bk, T.keeps I2.bk, fun h' a hm' => hx pins σ H2 s2 a _ us h' I2 hm' q2⟩
end
end L2
set_option Elab.async false
set_option linter.all false
set_option maxRecDepth 100000
set_option maxHeartbeats 4000000
namespace L2
open PySem PySem.Spec PyProof.Rows
noncomputable def PassesS (CX : CXT) (X : Cx) (E : St → XK) : Prop := ∀ (pins : List (Addr × Obj)) (σ : St) (H : Hp) (s : Shared) (e : Value) (s' : Shared), Inv X pins σ H s → CX X.stack H s (E σ) e s' → X.xe e s'
section
variable {X : Cx} {CX : CXT} {k : Nat} {f C : Addr} {fd : FuncData} {ps : List Str} {sp : Sp} {dvs : List V} {ds : List Value} {E : St → XK} {x m : Str} {p pos apos : Pos} {e o : Expr} {es : List Expr} {ta : TE} {t : TA}
end
section
variable {X : Cx} {pins : List (Addr × Obj)} {σ : St} {H1 H2 : Hp} {s1 s' : Shared} {B h4 : Heap}
theorem Inv.behind (I : Inv X pins σ H1 s1) (hex : X.ex = []) (os : s'.os = s1.os) (bare : AllBare s'.gens) (un : Un (frs X.stack) [] H1 H2 s1.heap s'.heap) (hok : HOk X.prog X.w H2 s'.heap)
    (inc : Within B X.stack s1.heap H2 s'.heap) (st : B.StaysIn h4) (up : s'.heap.UpToSlots h4) : Inv X pins σ H2 { s' with heap := h4 } := by
  have nil : ∀ b : Addr, b ∉ ([] : List Addr) := fun b z => nomatch z
  have ex : ∀ b : Addr, b ∉ X.ex := fun b => by rw [hex]; exact nil b
  have dataK : ∀ b o, s1.heap.get? b = some o → H1 b = none → (∀ vs, o.data ≠ .fields vs) → ∃ sl, h4.get? b = some { o with slots := sl } := fun b o q n nf => by
    obtain ⟨sl, e1⟩ := un.any q n (nil b)
    obtain ⟨sl2, e2⟩ := up b _ e1 nf
    exact ⟨sl2, e2⟩
  have cellK : ∀ x c, X.env.cells.lookup x = some c → ∀ v, s1.heap.IsCell c v → h4.IsCell c v := fun x c e v ⟨o, ho, hd⟩ => by
    obtain ⟨sl, z⟩ := dataK c o ho (I.freeC x c e) fun vs q => by rw [hd] at q; cases q
    exact ⟨_, z, hd⟩
  refine ⟨I.ok, os.trans I.os, bare, ⟨fun b o q n hb _ => ?_, fun b o q n hb _ => ?_, fun b o q n _ => ?_, fun b o q _ => ?_, fun b xs q => un.tups b xs (I.base.tups b xs q), fun b o u q => un.frzs b o u (I.base.frzs b o u q), fun b ps q => ?_⟩, ?_, fun x c e => ?_, ?_, fun x c e => ?_, fun p hp => ?_, ?_, I.len⟩
  · have e1 := I.base.keep b o q n hb (ex b)
    have e2 := un.keep b o e1 (I.base.free b o q n (ex b)) (I.oldNe q hb) (nil b)
    exact st b o (inc b o e2 (.inr ⟨⟨o, e1⟩, I.oldNe q hb⟩))
  · obtain ⟨sl, e1⟩ := I.base.slot b o q n hb (ex b)
    obtain ⟨_, o2, e3, nf⟩ := I.ok.funs.mem hb
    have e4 : o2 = o := Option.some.inj (e3.symm.trans q)
    subst e4
    obtain ⟨sl2, e5⟩ := dataK b _ e1 (I.base.free b _ q n (ex b)) nf
    exact ⟨sl2, e5⟩
  · obtain ⟨o1, e1⟩ := I.base.there b o q (ex b)
    exact un.free b o1 e1 (I.base.free b o q n (ex b)) (nil b)
  · obtain ⟨o1, e1⟩ := I.base.there b o q (ex b)
    by_cases hb : b ∈ X.fs
    · obtain ⟨_, o2, e3, nf⟩ := I.ok.funs.mem hb
      obtain ⟨sl, e4⟩ := I.base.slot b o2 e3 (I.ok.frf b hb) hb (ex b)
      obtain ⟨sl2, e5⟩ := dataK b _ e4 (I.base.free b _ e3 (I.ok.frf b hb) (ex b)) nf
      exact ⟨_, e5⟩
    · obtain ⟨o2, e2⟩ := un.there b o1 e1 (nil b)
      exact ⟨o2, st b o2 (inc b o2 e2 (.inr ⟨⟨o1, e1⟩, I.oldNe q hb⟩))⟩
  · obtain ⟨m1, e1⟩ := I.base.tbls b ps q
    obtain ⟨m2, e2⟩ := un.tbls b _ e1
    exact ⟨m1 ++ m2, by rw [e2, Array.append_assoc]⟩
  · obtain ⟨m, ⟨o, es, ep, ho, hd, r⟩, hl⟩ := I.loc
    obtain ⟨sl, z⟩ := dataK _ o ho I.free fun vs q => by rw [hd] at q; cases q
    refine ⟨m, ⟨_, es, ep, z, hd, r⟩, fun i x v e1 e2 e3 => ?_⟩
    obtain ⟨u, r', l⟩ := hl i x v e1 e2 e3
    refine ⟨u, r', l.elim .inl fun ⟨k, c, e, z⟩ => .inr ⟨k, c, e, cellK x c e _ z⟩⟩
  · obtain ⟨v, z⟩ := I.cell x c e
    exact ⟨v, cellK x c e v z⟩
  · obtain ⟨m, ⟨o, _, _, ho, _⟩, _⟩ := I.loc
    exact un.free _ o ho I.free (nil _)
  · obtain ⟨v, o, ho, _⟩ := I.cell x c e
    exact un.free c o ho (I.freeC x c e) (nil _)
  · obtain ⟨e, n, ne, nf, d⟩ := I.pin p hp
    have nb : p.1 ∉ frs X.stack := fun hm => (List.mem_cons.mp (I.stkSub _ hm)).elim ne nf
    have e2 := un.keep p.1 p.2 e n nb (nil _)
    exact ⟨st _ _ (inc _ _ e2 (.inr ⟨⟨_, e⟩, nb⟩)), un.free p.1 p.2 e n (nil _), ne, nf, d⟩
  · exact hok.keptT fun b u ob hb q => st b ob (inc b ob q (.inl (by rw [hb]; exact fun z => nomatch z)))
theorem fly_new {a : Addr} {cls : Value} (fl : Fly B X.stack a cls s'.heap) (inc : Within B X.stack s1.heap H2 s'.heap) : s1.heap.get? a = none := by
  obtain ⟨a0, f1, f2, f3, oe, vs, T, oT, ts, he, hc, hd, _⟩ := fl
  cases q : s1.heap.get? a with
  | none => rfl
  | some o =>
    have z := inc a oe he (.inr ⟨⟨o, q⟩, fun hm => by
      obtain ⟨_, o2, e2, nf⟩ := f3.mem hm
      rw [he] at e2; cases e2
      exact nf vs hd⟩)
    rw [f2] at z; cases z
end
noncomputable def excO (a : Addr) (cls : Value) (dx : Option Addr) : HO := .ext fun h => ∃ o vs, h.get? a = some o ∧ o.cls = cls ∧ o.data = .fields vs ∧ o.dict = dx
section
variable {X : Cx} {pins : List (Addr × Obj)} {σ : St} {H : Hp} {s : Shared}
theorem Inv.trackExc {a : Addr} {cls : Value} {o : Obj} {vs : Array Value} {dx : Option Addr} (I : Inv X pins σ H s) (hn : H a = none) (ho : s.heap.get? a = some o) (hc : o.cls = cls) (hd : o.data = .fields vs) (hdx : o.dict = dx) (h0 : X.s₀.heap.get? a = none) (hp : ∀ p ∈ X.pn ++ pins, p.1 ≠ a) :
    Inv X pins σ (upd H a (excO a cls dx)) s := by
  have ne : ∀ b u, H b = some u → b ≠ a := fun b u q => ne_of_none q hn
  have nL : X.env.locals ≠ a := fun z => by
    obtain ⟨m, ⟨o', _, _, ho', hd', _⟩, _⟩ := I.loc
    rw [z, ho] at ho'; cases ho'; rw [hd] at hd'; cases hd'
  have nC : ∀ x c, X.env.cells.lookup x = some c → c ≠ a := fun x c e z => by
    obtain ⟨v, o', ho', hd'⟩ := I.cell x c e
    rw [z, ho] at ho'; cases ho'; rw [hd] at hd'; cases hd'
  refine ⟨I.ok, I.os, I.bare, ⟨I.base.keep, I.base.slot, fun b o' q n hx => ?_, I.base.there, fun b xs q => ?_, fun b o' u q => ?_, fun b ps q => ?_⟩, I.loc, I.cell, ?_, fun x c e => ?_, fun p hp' => ?_, fun b u q => ?_, I.len⟩
  · rw [upd_ne fun z => by rw [z, h0] at q; cases q]
    exact I.base.free b o' q n hx
  · have z := I.base.tups b xs q
    rw [upd_ne (ne _ _ z)]; exact z
  · have z := I.base.frzs b o' u q
    rw [upd_ne (ne _ _ z)]; exact z
  · obtain ⟨m, z⟩ := I.base.tbls b ps q
    exact ⟨m, by rw [upd_ne (ne _ _ z)]; exact z⟩
  · rw [upd_ne nL]; exact I.free
  · rw [upd_ne (nC x c e)]; exact I.freeC x c e
  · obtain ⟨e, n, r⟩ := I.pin p hp'
    exact ⟨e, by rw [upd_ne (hp p hp')]; exact n, r⟩
  · by_cases hb : b = a
    · subst hb
      rw [upd_same] at q; cases q
      exact ⟨⟨o, vs, ho, hc, hd, hdx⟩, ⟨o, ho⟩, fun h1 h2 ⟨o1, vs1, e1, e2, e3⟩ k => ⟨o1, vs1, k _ e1, e2, e3⟩⟩
    · rw [upd_ne hb] at q
      exact (I.hok b u q).stay (fun _ _ _ z => z) (fun c z => by rw [upd_ne (ne _ _ z)]; exact z) fun c xs z => by rw [upd_ne (ne _ _ z)]; exact z
theorem Inv.goes {i : Nat} {n : Str} {h' : Heap} {v : Option Value} {t' : Nat} (hi : X.N[i]? = some n) (hN : X.N.Nodup) (I : Inv X pins σ H s) {m : Str → Option Value} (hm : s.heap.Ns X.env.locals m)
    (hl : ∀ (j : Nat) (x : Str) (w : V), X.N[j]? = some x → σ[j]? = some (some w) → Vis X.env.scope x → ∃ u, RelV w u ∧ Look X.env s.heap m x u)
    (hn : h'.Ns X.env.locals (fun x => if x = n then v else m x)) (hs : Heap.SameBut X.env.locals s.heap h') : Inv X pins (σ.set i none) H { s with heap := h', toks := t' } := by
  obtain ⟨oL, _, _, hoL, _⟩ := id hm
  have old : ∀ b o, X.s₀.heap.get? b = some o → h'.get? b = s.heap.get? b := fun b o e => hs.2 b (Nat.ne_of_lt (Nat.lt_of_lt_of_le (Heap.lt_size e) I.ok.above))
  refine ⟨I.ok, I.os, I.bare, ⟨fun b o q n hb hx => (old b o q).trans (I.base.keep b o q n hb hx), fun b o q n hb hx => ?_, I.base.free, fun b o q hx => ?_, I.base.tups, I.base.frzs, I.base.tbls⟩, ⟨_, hn, fun j y w e1 e2 e3 => ?_⟩, fun y c e => ?_, I.free, I.freeC, fun p hp => ?_, fun b u q => ?_, by rw [List.length_set]; exact I.len⟩
  · obtain ⟨sl, z⟩ := I.base.slot b o q n hb hx
    exact ⟨sl, (old b o q).trans z⟩
  · obtain ⟨o', z⟩ := I.base.there b o q hx
    exact ⟨o', (old b o q).trans z⟩
  · have hj : j ≠ i := fun z => by
      subst z
      rw [List.getElem?_set_self' ] at e2
      cases q : σ[j]? with
      | none => rw [q] at e2; cases e2
      | some r => rw [q] at e2; cases e2
    rw [List.getElem?_set_ne (Ne.symm hj)] at e2
    obtain ⟨u, r, l⟩ := hl j y w e1 e2 e3
    refine ⟨u, r, ?_⟩
    rcases l with ⟨k, e⟩ | ⟨k, c, e, z⟩
    · refine .inl ⟨k, ?_⟩
      have : y ≠ n := fun e => hj (nodup_ix hN e1 (e ▸ hi))
      show (if y = n then v else m y) = some u
      rw [if_neg this]; exact e
    · exact .inr ⟨k, c, e, z.sameBut hs (I.cne y c e)⟩
  · obtain ⟨w', z⟩ := I.cell y c e
    exact ⟨w', z.sameBut hs (I.cne y c e)⟩
  · obtain ⟨e, n, ne, nf, d⟩ := I.pin p hp
    exact ⟨(hs.2 p.1 ne).trans e, n, ne, nf, d⟩
  · refine (I.hok b u q).stay (fun c w' hc z => (hs.2 c ?_).trans z) (fun _ z => z) fun _ _ z => z
    rintro rfl
    rcases hc with rfl | hc
    · rw [I.free] at q; cases q
    · rw [I.free] at hc; cases hc
end
noncomputable abbrev Cx.marked (X : Cx) (v : Value) : Cx := { X with A := X.A.mark (some v), calm := false, xe := fun _ _ => False }
noncomputable abbrev Cx.tryX (X : Cx) (pn : List (Addr × Obj)) (W : Value → Shared → Prop) : Cx := { X with pn := X.pn ++ pn, xe := W }
section
variable {X : Cx} {pins : List (Addr × Obj)} {σ : St} {H : Hp} {s : Shared}
theorem Inv.marked (I : Inv X pins σ H s) (v : Value) : Inv (X.marked v) pins σ H s :=
  ⟨⟨I.ok.mod, I.ok.kind, I.ok.glob, I.ok.blt, I.ok.above, I.ok.inj, I.ok.has, I.ok.cab, (fun z => nomatch z), I.ok.frames, I.ok.stk, I.ok.exf, I.ok.bs, I.ok.bsz, I.ok.noex, I.ok.exfs, I.ok.funs, I.ok.frf⟩, I.os, I.bare, I.base, I.loc, I.cell, I.free, I.freeC, I.pin, I.hok, I.len⟩
theorem Inv.unmark {v : Value} (ok : X.Ok) (I : Inv (X.marked v) pins σ H s) : Inv X pins σ H s := ⟨ok, I.os, I.bare, I.base, I.loc, I.cell, I.free, I.freeC, I.pin, I.hok, I.len⟩
theorem Cx.Ok.tryX (ok : X.Ok) (pn : List (Addr × Obj)) (W : Value → Shared → Prop) : (X.tryX pn W).Ok :=
  ⟨ok.mod, ok.kind, ok.glob, ok.blt, ok.above, ok.inj, ok.has, ok.cab, ok.hd, ok.frames, ok.stk, ok.exf, ok.bs, ok.bsz, ok.noex, ok.exfs, ok.funs, ok.frf⟩
theorem Inv.tryX (I : Inv X pins σ H s) (W : Value → Shared → Prop) : Inv (X.tryX pins W) [] σ H s :=
  ⟨I.ok.tryX _ _, I.os, I.bare, I.base, I.loc, I.cell, I.free, I.freeC, fun p hp => I.pin p (by rw [List.append_nil] at hp; exact hp), I.hok, I.len⟩
theorem Inv.untry {pn : List (Addr × Obj)} {W : Value → Shared → Prop} (ok : X.Ok) (I : Inv (X.tryX pn W) pins σ H s) : Inv X pn σ H s :=
  ⟨ok, I.os, I.bare, I.base, I.loc, I.cell, I.free, I.freeC, fun p hp => I.pin p (List.mem_append_left _ hp), I.hok, I.len⟩
end
noncomputable def XI (X : Cx) (pins : List (Addr × Obj)) (σ : St) (H : Hp) (a : Addr) (cls : Value) (dx : Option Addr) (s : Shared) : Prop :=
  ∃ B a0, Inv X pins σ H s ∧ (Heap.FlyingW B X.stack a cls a0 s.heap ∧ DA s.heap a dx) ∧ H a = none ∧ X.s₀.heap.get? a = none ∧ (∀ p ∈ X.pn ++ pins, p.1 ≠ a) ∧ ∀ h4, B.StaysIn h4 → s.heap.UpToSlots h4 → Inv X pins σ H { s with heap := h4 }
noncomputable def PH (X : Cx) (hs : List ExceptHandler) (t : Ends → St → XK) : Prop :=
  ∀ (pins : List (Addr × Obj)) (s : Shared) (σ : St) (H : Hp) (D : Ends) (a : Addr) (cls : Value) (dx : Option Addr), XI X pins σ H a cls dx s → t D σ cls dx H → wpAny (model X.prog X.w) X.A (handleBy (.ref a) X.env hs) (SP X pins D) X.xe s
noncomputable def Ends.goes (D : Ends) (i : Nat) : Ends := ⟨fun σ H => D.nx (σ.set i none) H, D.rt, fun σ H => D.bk (σ.set i none) H, fun σ H => D.ct (σ.set i none) H⟩
noncomputable def tHas (K : PySem.W.Frag) (C : Addr) (i : Nat) (ts : TS) (tr : Ends → St → XK) : Ends → St → XK := fun D σ cls d H =>
  (PySem.W.exmOne K cls (.ref C) = some true ∧ ∀ a, H a = none → ts (D.goes i) (σ.set i (some (.ref a))) (upd H a (excO a cls d))) ∨ (PySem.W.exmOne K cls (.ref C) = some false ∧ tr D σ cls d H)
noncomputable def tHan (K : PySem.W.Frag) (C : Addr) (ts : TS) (tr : Ends → St → XK) : Ends → St → XK := fun D σ cls d H =>
  (PySem.W.exmOne K cls (.ref C) = some true ∧ ts D σ H) ∨ (PySem.W.exmOne K cls (.ref C) = some false ∧ tr D σ cls d H)
section
variable {X : Cx} {c n : Str} {C : Addr} {b0 : Stmt} {suite : List Stmt} {np hpos pos : Pos} {rest : List ExceptHandler} {ts : TS} {tr : Ends → St → XK} {i : Nat}
theorem fly_type {M : Model} {B h : Heap} {l : List Env} {a : Addr} {cls a0 : Value} (fl : Heap.FlyingW B l a cls a0 h) : PySem.W.Looks M h (typeOf (.ref a)) cls := by
  obtain ⟨ob, hob, hc⟩ := fl.there
  exact hc ▸ (PySem.W.Looks.ld hob).andThen .now
theorem ph_as (hg : Gl X c) (hm : X.mg c = some (.ref C)) (hN : X.N.Nodup) (hi : X.N[i]? = some n) (hl : X.env.scope.names.lookup n = some .local) (hs : ∀ v, PSs (X.marked v) (b0 :: suite) ts) (hr : PH X rest tr) (hdb : (c == ("__debug__" : Str)) = false := by decide) :
    PH X (.ExceptHandler (some (.Name c np)) (some n) (b0 :: suite) hpos :: rest) (tHas X.K C i ts tr) := by
  intro pins s σ H D a cls dx xi h
  obtain ⟨B, a0, I, ⟨fl, dd⟩, ha, h0, hp, stab⟩ := id xi
  rcases h with ⟨em, k⟩ | ⟨em, k⟩
  · refine wpAny_handleBy_cons (codeAny_handlers_test (ld_glob (I.marked (.ref a)) hg hm ?_ hdb)) (by intro q; cases q)
    refine (PySem.W.exm_one I.kIn (fly_type fl) em).here ?_
    refine codeAny_handlers_suite_as (again_d fl dd fun h6 fl6 up6 dd6 => ?_)
    have I6 := stab h6 fl6.1 up6
    obtain ⟨oe, vs, e1, e2, e3, _⟩ := fl6.first
    have e4 : oe.dict = dx := by
      obtain ⟨o', z1, z2⟩ := dd6
      cases e1.symm.trans z1
      exact z2
    have I7 := I6.trackExc (cls := cls) ha e1 e2 e3 e4 h0 hp
    refine store_ok (X := X.marked (.ref a)) (v := .ref a) (I7.marked (.ref a)) hN hi (.inl hl) rfl (fun s7 I8 => ?_) (.inr hl)
    refine wpAny_mono (hs (.ref a) pins s7 _ _ (D.goes i) I8 (k a ha)) (fun fl s8 q => ?_) (fun _ _ z => False.elim z)
    have hcl : (X.env.scope.kind == .class || (X.env.scope.kind == .module && X.env.locals != X.env.globals)) = false := by rw [I.ok.kind]; rfl
    have fin : ∀ σ' H', Inv (X.marked (.ref a)) pins σ' H' s8 → ∀ (Q : Unit → Shared → Prop), (∀ s9, Inv X pins (σ'.set i none) H' s9 → Q () s9) →
        wpAny (model X.prog X.w) X.A (do bindName X.env n .none; unbindBehindTheSuite X.env n hpos) Q X.xe s8 := fun σ' H' J Q kq => by
      have J' := J.unmark I.ok
      obtain ⟨m, hm', hl'⟩ := J'.loc
      exact wpAny_nameGoes_keeps hl hm' hcl fun h' v hn hs' => kq _ (Inv.goes hi hN J' hm' hl' hn hs')
    match fl, q with
    | .next, ⟨σ', H', J, q⟩ => exact fin σ' H' J _ fun s9 J9 => ⟨_, _, J9, q⟩
    | .brk, ⟨σ', H', J, q⟩ => exact fin σ' H' J _ fun s9 J9 => ⟨_, _, J9, q⟩
    | .cont, ⟨σ', H', J, q⟩ => exact fin σ' H' J _ fun s9 J9 => ⟨_, _, J9, q⟩
    | .ret u, ⟨v, σ', H', J, r, q⟩ => exact fin σ' H' J _ fun s9 J9 => ⟨v, _, _, J9, r, q⟩
  · refine wpAny_handleBy_cons (codeAny_handlers_test (ld_glob (I.marked (.ref a)) hg hm ?_ hdb)) (by intro q; cases q)
    refine (PySem.W.exm_one I.kIn (fly_type fl) em).here ?_
    exact hr pins s σ H D a cls dx xi k
theorem ph_an (hg : Gl X c) (hm : X.mg c = some (.ref C)) (hs : ∀ v, PSs (X.marked v) (b0 :: suite) ts) (hr : PH X rest tr) (hdb : (c == ("__debug__" : Str)) = false := by decide) :
    PH X (.ExceptHandler (some (.Name c np)) none (b0 :: suite) hpos :: rest) (tHan X.K C ts tr) := by
  intro pins s σ H D a cls dx xi h
  obtain ⟨B, a0, I, ⟨fl, dd⟩, ha, h0, hp, stab⟩ := id xi
  rcases h with ⟨em, k⟩ | ⟨em, k⟩
  · refine wpAny_handleBy_cons (codeAny_handlers_test (ld_glob (I.marked (.ref a)) hg hm ?_ hdb)) (by intro q; cases q)
    refine (PySem.W.exm_one I.kIn (fly_type fl) em).here ?_
    refine codeAny_handlers_suite (again_d fl dd fun h6 fl6 up6 dd6 => ?_)
    have I6 := stab h6 fl6.1 up6
    refine wpAny_mono (hs (.ref a) pins _ _ _ D (I6.marked (.ref a)) k) (fun fl s8 q => ?_) (fun _ _ z => False.elim z)
    match fl, q with
    | .next, ⟨σ', H', J, q⟩ => exact ⟨_, _, J.unmark I.ok, q⟩
    | .brk, ⟨σ', H', J, q⟩ => exact ⟨_, _, J.unmark I.ok, q⟩
    | .cont, ⟨σ', H', J, q⟩ => exact ⟨_, _, J.unmark I.ok, q⟩
    | .ret u, ⟨v, σ', H', J, r, q⟩ => exact ⟨v, _, _, J.unmark I.ok, r, q⟩
  · refine wpAny_handleBy_cons (codeAny_handlers_test (ld_glob (I.marked (.ref a)) hg hm ?_ hdb)) (by intro q; cases q)
    refine (PySem.W.exm_one I.kIn (fly_type fl) em).here ?_
    exact hr pins s σ H D a cls dx xi k
end
end L2
set_option Elab.async false
set_option linter.all false
set_option maxRecDepth 100000
set_option maxHeartbeats 4000000
namespace L2
open PySem PySem.Spec PySem.Calls PyProof.Rows
noncomputable def exc2In (K : PySem.W.Frag) (C : Addr) : Bool := match K.lookup C with
  | some ⟨.type "type", _, .cls k, sl⟩ => (match k.mro with
    | .ref C2 :: above => C2 == C && !k.hasDel && PySem.W.tailIn K bmV above && (match sl.toList with
      | [_, _, _, _, some (.builtin mk), _] => mk == "ValueError.__new__"
      | _ => false)
    | _ => false)
  | _ => false
section
variable {prog : Program} {w : World} {A : Around} {E : Value → Shared → Prop} {h : Heap} {g : Array GenState} {d : Drawn} {t : Nat} {os : OsState} {K : PySem.W.Frag} {C fI : Addr}
end
end L2
set_option Elab.async false
set_option linter.all false
set_option maxRecDepth 100000
set_option maxHeartbeats 4000000
namespace L2
open PySem PySem.Spec PySem.Calls PyProof.Rows
section
variable {pos : Pos}
theorem form_of {args : List Expr} {env : Env} (h1 : (backTo pos (starEach args env)).any (·.1) = false) (h2 : args.length < 30) : methodCallForm (args.length + ([] : List Keyword).length) (backTo pos (starEach args env)) (backToKw pos (keywordEach [] env)) = true := by
  unfold methodCallForm
  have a : (backTo pos (starEach args env)).all (!·.1) = true := by
    rw [List.all_eq_true]
    intro x hx
    have := List.any_eq_false.mp h1 x hx
    simpa using this
  rw [a]
  have : (backToKw pos (keywordEach [] env)).all (·.1.isSome) = true := rfl
  rw [this]
  have h3 : (backToKw pos (keywordEach ([] : List Keyword) env)).isEmpty = true := rfl
  simp only [h3, if_true, List.length_nil, Bool.true_and, Nat.add_zero, decide_eq_true_eq]
  exact h2
end
noncomputable def exc0 (e C : Addr) : HO := .ext fun h => ∃ t0, h.get? e = some { cls := .ref C, data := .fields #[.ref t0, .none, .none, .none, .bool false, .none] }
noncomputable def exc1 (e C dx : Addr) : HO := .ext fun h => ∃ t0, h.get? e = some { cls := .ref C, dict := some dx, data := .fields #[.ref t0, .none, .none, .none, .bool false, .none] }
structure XIni (K : PySem.W.Frag) (C fI : Addr) (f : Str) : Prop where
  cl : exc2In K C = true
  ini : PySem.W.findIn K (.ref C) "__init__" = some (some (.ref fI))
  fn : PySem.W.typeIn K (.ref fI) = some (.type "function")
  sa : PySem.W.findIn K (.ref C) "__setattr__" = some (some (.builtin "object.__setattr__"))
  at_ : PySem.W.findIn K (.ref C) f = some none
  hd : PySem.W.hasDictIn K C = true
  ob : PySem.W.mroIn K C (.type "object") = some true
  kp : PySem.W.keepIn K (.ref C) = true
section
variable {X : Cx} {x f : Str} {D C fI : Addr} {o e value : Expr} {es : List Expr} {t : TA} {ta tv : TE} {px apos pos pos' : Pos}
noncomputable def spIni (C : Addr) (f : Str) : Sp := fun vs H Q _ => ∃ a v, vs = [.ref a, v] ∧ H a = some (exc0 a C) ∧ ∀ dx ob, H dx = none → dx ≠ a → Q .non (upd (upd H a (exc1 a C dx)) dx (.frz ob (.xd [(f, v)])))
end
end L2
set_option Elab.async false
set_option linter.all false
set_option maxRecDepth 100000
set_option maxHeartbeats 4000000
namespace L2
open PySem PySem.Spec PyProof.Rows
noncomputable def closOf (names : List (Str × NameKind)) (cs : List (Str × Addr)) (acc : List (Str × Addr)) : List (Str × Addr) := match names with
  | [] => acc
  | (n, k) :: r => if k = .free then (match cs.lookup n with | some c => closOf r cs ((n, c) :: acc) | none => closOf r cs acc) else closOf r cs acc
theorem closOf_sub {cs : List (Str × Addr)} : ∀ {names : List (Str × NameKind)} {acc : List (Str × Addr)}, (∀ p ∈ acc, cs.lookup p.1 = some p.2) → ∀ p ∈ closOf names cs acc, cs.lookup p.1 = some p.2
  | [], _, h, p, hp => h p hp
  | (n, k) :: r, acc, h, p, hp => by
    unfold closOf at hp
    split at hp
    · split at hp
      next c e =>
        refine closOf_sub (fun q hq => ?_) p hp
        rcases List.mem_cons.mp hq with z | z
        · subst z; exact e
        · exact h q z
      next => exact closOf_sub h p hp
    · exact closOf_sub h p hp
theorem closOf_acc {cs : List (Str × Addr)} : ∀ {names : List (Str × NameKind)} {acc : List (Str × Addr)} {p : Str × Addr}, p ∈ acc → p ∈ closOf names cs acc
  | [], _, _, h => h
  | (n, k) :: r, acc, p, h => by
    unfold closOf
    split
    · split
      · exact closOf_acc (List.mem_cons_of_mem _ h)
      · exact closOf_acc h
    · exact closOf_acc h
theorem closOf_mem {cs : List (Str × Addr)} {x : Str} {c : Addr} (e : cs.lookup x = some c) : ∀ {names : List (Str × NameKind)} {acc : List (Str × Addr)}, (x, NameKind.free) ∈ names → (x, c) ∈ closOf names cs acc
  | (n, k) :: r, acc, h => by
    rcases List.mem_cons.mp h with z | z
    · cases z
      unfold closOf
      rw [if_pos rfl, e]
      exact closOf_acc List.mem_cons_self
    · unfold closOf
      split
      · split
        · exact closOf_mem e z
        · exact closOf_mem e z
      · exact closOf_mem e z
theorem lookup_of_uniq {l : List (Str × Addr)} {x : Str} {c : Addr} (h : (x, c) ∈ l) (u : ∀ p ∈ l, p.1 = x → p.2 = c) : l.lookup x = some c := by
  induction l with
  | nil => cases h
  | cons p r ih =>
    obtain ⟨n, d⟩ := p
    by_cases e : x = n
    · subst e
      rw [List.lookup_cons, beq_self_eq_true]
      exact congrArg some (u (x, d) List.mem_cons_self rfl)
    · rw [List.lookup_cons]
      rw [beq_eq_false_iff_ne.mpr e]
      rcases List.mem_cons.mp h with z | z
      · cases z; exact absurd rfl e
      · exact ih z fun q hq => u q (List.mem_cons_of_mem _ hq)
theorem mem_of_lookupA {l : List (Str × Addr)} {x : Str} {c : Addr} (h : l.lookup x = some c) : (x, c) ∈ l := PySem.mem_of_lookup h
theorem clos_has {names : List (Str × NameKind)} {cs : List (Str × Addr)} {x : Str} {c : Addr} (hm : (x, NameKind.free) ∈ names) (e : cs.lookup x = some c) : (closOf names cs []).lookup x = some c := by
  refine lookup_of_uniq (closOf_mem e hm) fun p hp hx => ?_
  have z := closOf_sub (acc := []) (fun p hp => nomatch hp) p hp
  rw [hx, e] at z
  exact (Option.some.inj z).symm
theorem cellOf_eq {env : Env} {n : Str} {c : Addr} (e : env.cells.lookup n = some c) : cellOf env n = pure c := by
  unfold cellOf; rw [e]
theorem closureFor_eq {scope : Scope} {env : Env} (h : ∀ y ∈ scope.names, y.2 = .free → ∃ c, env.cells.lookup y.1 = some c) : closureFor scope env = pure (closOf scope.names env.cells []) := by
  have go : ∀ (names : List (Str × NameKind)) (acc : List (Str × Addr)), (∀ y ∈ names, y.2 = .free → ∃ c, env.cells.lookup y.1 = some c) →
      (forIn names acc fun x r => match x with
        | (n, k) => if (k == NameKind.free) = true then do let c ← cellOf env n; pure (ForInStep.yield ((n, c) :: r)) else pure (ForInStep.yield r) : Sem (List (Str × Addr))) = pure (closOf names env.cells acc) := by
    intro names
    induction names with
    | nil => intro acc _; rfl
    | cons y r ih =>
      intro acc hy
      obtain ⟨n, k⟩ := y
      rw [List.forIn_cons]
      by_cases hk : k = NameKind.free
      · subst hk
        obtain ⟨c, e⟩ := hy (n, .free) List.mem_cons_self rfl
        simp only [beq_self_eq_true, if_true]
        rw [cellOf_eq e]
        show (forIn r ((n, c) :: acc) _ : Sem _) = _
        rw [ih _ fun z hz => hy z (List.mem_cons_of_mem _ hz)]
        conv => rhs; unfold closOf
        simp only [if_true, e]
      · have hb : (k == NameKind.free) = false := by simpa using hk
        simp only [hb, Bool.false_eq_true, if_false]
        show (forIn r acc _ : Sem _) = _
        rw [ih _ fun z hz => hy z (List.mem_cons_of_mem _ hz)]
        conv => rhs; unfold closOf
        simp only [hk, if_false]
  have e := go scope.names [] h
  show ((forIn scope.names [] fun x r => match x with
        | (n, k) => if (k == NameKind.free) = true then do let c ← cellOf env n; pure (ForInStep.yield ((n, c) :: r)) else pure (ForInStep.yield r) : Sem (List (Str × Addr))) >>= fun z => pure z) = _
  rw [e]
  rfl
theorem cellsFrom_app : ∀ (names : List (Str × NameKind)) (n : Nat) (acc : List (Str × Addr)), cellsFrom n names acc = cellsFrom n names [] ++ acc
  | [], _, _ => rfl
  | (x, k) :: r, n, acc => by
    unfold cellsFrom
    split
    · rw [cellsFrom_app r (n + 1) ((x, n) :: acc), cellsFrom_app r (n + 1) [(x, n)], List.append_assoc]; rfl
    · exact cellsFrom_app r n acc
theorem cellsFrom_mem : ∀ {names : List (Str × NameKind)} {n : Nat} {p : Str × Addr}, p ∈ cellsFrom n names [] → (p.1, NameKind.cell) ∈ names ∧ n ≤ p.2
  | [], _, _, h => nomatch h
  | (x, k) :: r, n, p, h => by
    unfold cellsFrom at h
    split at h
    · rename_i hk
      rw [cellsFrom_app] at h
      rcases List.mem_append.mp h with z | z
      · obtain ⟨a, b⟩ := cellsFrom_mem z
        exact ⟨List.mem_cons_of_mem _ a, by omega⟩
      · obtain rfl := List.mem_singleton.mp z
        exact ⟨by rw [show k = NameKind.cell from by simpa using hk]; exact List.mem_cons_self, Nat.le_refl _⟩
    · obtain ⟨a, b⟩ := cellsFrom_mem h
      exact ⟨List.mem_cons_of_mem _ a, b⟩
theorem cellsFrom_of : ∀ {names : List (Str × NameKind)} {n : Nat} {x : Str}, (x, NameKind.cell) ∈ names → ∃ c, (x, c) ∈ cellsFrom n names []
  | (y, k) :: r, n, x, h => by
    rcases List.mem_cons.mp h with z | z
    · cases z
      unfold cellsFrom
      rw [if_pos (by rfl), cellsFrom_app]
      exact ⟨n, List.mem_append_right _ List.mem_cons_self⟩
    · unfold cellsFrom
      split
      · obtain ⟨c, e⟩ := cellsFrom_of z (n := n + 1)
        rw [cellsFrom_app]
        exact ⟨c, List.mem_append_left _ e⟩
      · exact cellsFrom_of z
theorem lookup_mem : ∀ {l : List (Str × Addr)} {x : Str} {c : Addr}, (x, c) ∈ l → ∃ c', l.lookup x = some c'
  | (y, d) :: r, x, c, h => by
    rw [List.lookup_cons]
    cases e : x == y with
    | true => exact ⟨d, rfl⟩
    | false =>
      rcases List.mem_cons.mp h with z | z
      · cases z; simp at e
      · exact lookup_mem z
theorem wpAny_newCompEnv {M : Model} {A : Around} {E : Value → Shared → Prop} {s : Shared} {scope : Scope} {globals : Addr} {cl : List (Str × Addr)} {qual : Str} {outer : Env} {Q : Env → Shared → Prop}
    (hQ : Q { scope := scope, locals := s.heap.objs.size, globals := globals, cells := cellsFrom (s.heap.objs.size + 1) scope.names [] ++ cl, qual := qual, func := none, code := outer.code, frame := outer.frame, builtins := outer.builtins } { s with heap := pushCells (s.heap.push { cls := .type "dict", data := .dict #[] }) scope.names }) :
    wpAny M A (newFunctionEnv scope globals cl [] qual none .none (some outer)) Q E s := by
  simp only [newFunctionEnv, Option.isSome_some, if_true]
  refine wpAny_bind (wpAny_alloc ?_)
  refine wpAny_bind (wpAny_layCells _ (fun name kind cells => by cases hkc : kind == NameKind.cell <;> simp [hkc]) _ _ _ _ ?_)
  rw [show ({ s with heap := s.heap.push { cls := .type "dict", data := .dict #[] } } : Shared).heap.objs.size = s.heap.objs.size + 1 from Heap.size_push .., cellsFrom_app]
  refine wpAny_bind ?_
  rw [List.forIn_nil]
  exact wpAny_pure (wpAny_pure hQ)
noncomputable def compOk (N : List Str) (js : List (Option Nat)) (sc osc : Scope) (oN : List Str) : Bool :=
  N.length == js.length && decide N.Nodup &&
  (N.zip js).all (fun p => match p.2 with
    | none => sc.names.lookup p.1 == some .local || sc.names.lookup p.1 == some .cell
    | some j => oN[j]? == some p.1 && sc.names.contains (p.1, NameKind.free) && osc.names.lookup p.1 == some .cell) &&
  decide (sc.names.map (·.1)).Nodup && sc.names.all (fun y => (y.2 != .free || osc.names.lookup y.1 == some .cell) && (y.2 != .local || sc.names.lookup y.1 == some .local)) && (sc.kind == .function) && (osc.kind == .function)
noncomputable def compSt (js : List (Option Nat)) (σ : St) : St := js.map fun o => o.bind fun j => (σ[j]?).bind id
noncomputable abbrev compCx (X : Cx) (scope : Scope) (C : Addr) (N : List Str) (s2 : Shared) (H2 : Hp) (fp : List Addr) (pins : List (Addr × Obj)) : Cx :=
  { X with env := compEnvC scope (cellsFrom (C + 1) scope.names [] ++ closOf scope.names X.env.cells []) C X.env, N := N, s₀ := s2, H₀ := H2, outer := X.stack, stack := X.stack, ex := fp, fn := fun x => scope.names.lookup x == some .cell, pn := X.pn ++ pins, xe := fun _ _ => False }
theorem relabel_cell {env : Env} {x : Str} (hk : env.scope.kind = .function) (hc : env.kindOf x = some .cell) : ∀ {names : List (Str × NameKind)}, (x, NameKind.free) ∈ names → (∀ y ∈ names, y.1 = x → y.2 = .free) →
    (names.map fun (n, k) => if (k == .free && env.scope.kind == .function && env.kindOf n == some .cell) then (n, .cell) else (n, k)).lookup x = some NameKind.cell
  | (n, k) :: r, hm, hu => by
    show List.lookup x ((if (k == NameKind.free && env.scope.kind == .function && env.kindOf n == some .cell) = true then (n, NameKind.cell) else (n, k)) :: _) = _
    by_cases e : x = n
    · subst e
      have ek : k = .free := hu (x, k) List.mem_cons_self rfl
      subst ek
      simp only [hk, hc, beq_self_eq_true, Bool.and_self, if_true]
      rw [List.lookup_cons, beq_self_eq_true]
    · have hm' : (x, NameKind.free) ∈ r := by
        rcases List.mem_cons.mp hm with z | z
        · cases z; exact absurd rfl e
        · exact z
      have ih := relabel_cell hk hc hm' fun y hy => hu y (List.mem_cons_of_mem _ hy)
      split
      · rw [List.lookup_cons, beq_eq_false_iff_ne.mpr e]; exact ih
      · rw [List.lookup_cons, beq_eq_false_iff_ne.mpr e]; exact ih
end L2
set_option Elab.async false
set_option linter.all false
set_option maxRecDepth 100000
set_option maxHeartbeats 4000000
namespace L2
open PySem PySem.Spec PyProof.Rows
structure CompOk (N : List Str) (js : List (Option Nat)) (sc osc : Scope) (oN : List Str) : Prop where
  len : N.length = js.length
  nd : N.Nodup
  own : ∀ (i : Nat) (x : Str), N[i]? = some x → js[i]? = some none → sc.names.lookup x = some .local ∨ sc.names.lookup x = some .cell
  fr : ∀ (i : Nat) (x : Str) (j : Nat), N[i]? = some x → js[i]? = some (some j) → oN[j]? = some x ∧ (x, NameKind.free) ∈ sc.names ∧ osc.names.lookup x = some .cell
  ndn : (sc.names.map (·.1)).Nodup
  nf : ∀ y ∈ sc.names, y.2 = .free → osc.names.lookup y.1 = some .cell
  nl : ∀ y ∈ sc.names, y.2 = .local → sc.names.lookup y.1 = some .local
  k1 : sc.kind = .function
  k2 : osc.kind = .function
theorem compOk_of {N : List Str} {js : List (Option Nat)} {sc osc : Scope} {oN : List Str} (h : compOk N js sc osc oN = true) : CompOk N js sc osc oN := by
  unfold compOk at h
  simp only [Bool.and_eq_true, beq_iff_eq, decide_eq_true_eq, List.all_eq_true, Bool.or_eq_true, bne_iff_ne] at h
  obtain ⟨⟨⟨⟨⟨⟨h1, h2⟩, h3⟩, h4⟩, h5⟩, h6⟩, h7⟩ := h
  have zip : ∀ (i : Nat) (x : Str) (o : Option Nat), N[i]? = some x → js[i]? = some o → (x, o) ∈ N.zip js := fun i x o e1 e2 =>
    List.mem_of_getElem? (i := i) (by rw [List.getElem?_zip_eq_some]; exact ⟨e1, e2⟩)
  refine ⟨h1, h2, fun i x e1 e2 => ?_, fun i x j e1 e2 => ?_, h4, fun y hy e => ?_, fun y hy e => ?_, h6, h7⟩
  · have z := h3 _ (zip i x _ e1 e2)
    simpa using z
  · have z := h3 _ (zip i x _ e1 e2)
    simp only [Bool.and_eq_true, beq_iff_eq] at z
    exact ⟨z.1.1, List.contains_iff_mem.mp z.1.2, z.2⟩
  · rcases (h5 y hy).1 with z | z
    · exact absurd e z
    · exact z
  · rcases (h5 y hy).2 with z | z
    · exact absurd e z
    · exact z
theorem relabel_has {env : Env} {x : Str} {k : NameKind} : ∀ {names : List (Str × NameKind)},
    (names.map fun (n, k) => if (k == .free && env.scope.kind == .function && env.kindOf n == some .cell) then (n, .cell) else (n, k)).lookup x = some k → ∃ k', (x, k') ∈ names ∧ (k' = k ∨ k' = .free)
  | [], h => by cases h
  | (n, k0) :: r, h => by
    have h : List.lookup x ((if (k0 == NameKind.free && env.scope.kind == .function && env.kindOf n == some .cell) = true then (n, NameKind.cell) else (n, k0)) :: _) = _ := h
    by_cases e : x = n
    · subst e
      split at h
      next hc =>
        refine ⟨k0, List.mem_cons_self, .inr ?_⟩
        have := (Bool.and_eq_true_iff.mp (Bool.and_eq_true_iff.mp hc).1).1
        simpa using this
      next =>
        rw [List.lookup_cons, beq_self_eq_true] at h
        exact ⟨k0, List.mem_cons_self, .inl (Option.some.inj h)⟩
    · have h' : List.lookup x (r.map fun (n, k) => if (k == .free && env.scope.kind == .function && env.kindOf n == some .cell) then (n, .cell) else (n, k)) = some k := by
        split at h
        · rw [List.lookup_cons, beq_eq_false_iff_ne.mpr e] at h; exact h
        · rw [List.lookup_cons, beq_eq_false_iff_ne.mpr e] at h; exact h
      obtain ⟨k', m, z⟩ := relabel_has h'
      exact ⟨k', List.mem_cons_of_mem _ m, z⟩
theorem comp_loop {prog : Program} {w : World} {A : Around} {R : Result → Shared → Prop} {s : Shared} {elt target iter : Expr} {ifs : List Expr} {scope : Scope} {pos : Pos} {it acc : Value} {env : Env} (I : Nat → Shared → Prop)
    (turn : ∀ n s, I n s → wpAny (model prog w) A (pyNext it) (fun r s1 => match r with
      | none => R (.ok .next) s1
      | some v => wpAny (model prog w) A (letOwnedTupleGo target it v) (fun _ s2 => wpAny (model prog w) A (assign target env v) (fun _ s3 =>
          wpAny (model prog w) A (forIn ifs true fun c r => if r = true then do let ok ← isTrue c env (eval c env); pure (ForInStep.yield ok) else pure (ForInStep.yield r)) (fun ok s4 =>
            if ok = true then wpAny (model prog w) A (eval elt env) (fun x s5 => wpAny (model prog w) A (call (.builtin "list.append") [acc, x]) (fun _ s6 => ∃ m, m < n ∧ I m s6) (fun _ _ => False) s5) (fun _ _ => False) s4
            else ∃ m, m < n ∧ I m s4) (fun _ _ => False) s3) (fun _ _ => False) s2) (fun _ _ => False) s1) (fun _ _ => False) s)
    (n : Nat) (h : I n s) : codeAny (model prog w) A (.compLoop (.ListComp elt [⟨target, iter, ifs, 0⟩] scope pos) 0 it acc env) R s := by
  have no : ∀ {α : Type} {t : Sem α} {Q : α → Shared → Prop} {E : Value → Shared → Prop} {z : Shared}, wpAny (model prog w) A t Q (fun _ _ => False) z → wpAny (model prog w) A t Q E z := fun h => wpAny_noRaise h
  refine codeAny_loop rfl I (fun n s hI => ?_) n h
  show wpAny _ A ((compTurn (.ListComp elt [⟨target, iter, ifs, 0⟩] scope pos) 0 it acc env).onRaise (fun x => do noteFrame x env; theTreesLotGoes x)) _ _ s
  refine wpAny_noted ?_
  rw [compTurn_list]
  refine wpAny_bind (wpAny_standAt (wpAny_bind (no (wpAny_mono (turn n s hI) (fun r s1 h1 => ?_) fun _ _ z => z))))
  cases r with
  | none => exact wpAny_pure h1
  | some v =>
    refine wpAny_bind (no (wpAny_mono h1 (fun _ s2 h2 => ?_) fun _ _ z => z))
    refine wpAny_bind (no (wpAny_mono h2 (fun _ s3 h3 => ?_) fun _ _ z => z))
    refine wpAny_bind (no (wpAny_mono h3 (fun ok s4 h4 => ?_) fun _ _ z => z))
    cases ok with
    | false => exact wpAny_pure ⟨rfl, h4⟩
    | true =>
      refine wpAny_bind (wpAny_bind (no (wpAny_mono h4 (fun x s5 h5 => ?_) fun _ _ z => z)))
      exact wpAny_bind (no (wpAny_mono h5 (fun _ s6 h6 => wpAny_pure (wpAny_pure ⟨rfl, h6⟩)) fun _ _ z => z))
noncomputable def PIf (X : Cx) (ifs : List Expr) (tt : TT) : Prop := ∀ (pins : List (Addr × Obj)) (s : Shared) (σ : St) (H : Hp) (Q : Bool → Hp → Prop), Inv X pins σ H s → tt σ H Q →
  wpAny (model X.prog X.w) X.A (forIn ifs true fun c r => if r = true then do let ok ← isTrue c X.env (eval c X.env); pure (ForInStep.yield ok) else pure (ForInStep.yield r)) (TP X pins σ Q) X.xe s
noncomputable def tYes : TT := fun _ H Q => Q true H
theorem pif_nil {X : Cx} : PIf X [] tYes := fun pins s σ H Q I h => wpAny_tests_nil ⟨H, I, h⟩
theorem pif_one {X : Cx} {c : Expr} {t : TT} (h : PT X c t) : PIf X [c] t := fun pins s σ H Q I q => wpAny_tests_one (h pins s σ H Q I q)
noncomputable def tComp (js : List (Option Nat)) (wi : TI) (g : TG) (tt : TT) (te : TE) : TE := fun σ H Q => wi σ H fun J H1 => ∀ p, H1 p = none → ∃ W : Nat → Nat → St → Hp → Prop, (∃ m, W 0 m (compSt js σ) (upd H1 p (.lst []))) ∧
  ∀ (i : Nat) m σc H, W i m σc H → (J.stop i H ∧ Q (.ref p) H) ∨ (J.go i H ∧ ∀ x H', J.yld i H x H' → g x σc H' fun σ2 H2 => tt σ2 H2 fun b H3 =>
    if b = true then te σ2 H3 fun y H4 => ∃ ys, H4 p = some (.lst ys) ∧ ys.length < sizeLine ∧ ∃ m', m' < m ∧ W (i + 1) m' σ2 (upd H4 p (.lst (ys ++ [y]))) else ∃ m', m' < m ∧ W (i + 1) m' σ2 H3)
section
variable {X : Cx} {elt tg iter : Expr} {ifs : List Expr} {scope : Scope} {pos : Pos} {N : List Str} {js : List (Option Nat)} {wi : TI} {g : TG} {tt : TT} {te : TE}
theorem comp_gen {use : Option (Value → Sem Unit)} {Qf : Value → Shared → Prop} {pins : List (Addr × Obj)} {s : Shared} {σ : St} {H : Hp} {Q : VK} {pos' : Pos} (hok : compOk N js scope X.env.scope X.N = true) (hcalm : X.calm = true) (hi : PI X tg iter wi)
    (hg : ∀ C s2 H2 fp pn, PG (compCx X scope C N s2 H2 fp pn) tg g) (ht : ∀ C s2 H2 fp pn, PIf (compCx X scope C N s2 H2 fp pn) ifs tt) (he : ∀ C s2 H2 fp pn, PE (compCx X scope C N s2 H2 fp pn) elt te)
    (hs : ∀ x, foldedSetIterable iter X.env x = pure x) (I : Inv X pins σ H s) (h : tComp js wi g tt te σ H Q)
    (fin : ∀ (D C : Addr) (s5 : Shared) (H4 : Hp) (m5 : Str → Option Value), s5.heap.Ns C m5 → FpOk X pins H4 C → (∀ h', Heap.SameBut C s5.heap h' → Inv X pins σ H4 { s5 with heap := h' }) → Q (.ref D) H4 → compPost (model X.prog X.w) X.A X.xe use Qf (.ref D) C (.ok .next) s5) :
    wpAny (model X.prog X.w) X.A (comprehension (.ListComp elt [⟨tg, iter, ifs, 0⟩] scope pos) scope X.env pos' (newList []) false (eval iter X.env) use) Qf X.xe s := by
  have O := compOk_of hok
  have hcells : ∀ y ∈ scope.names, y.2 = .free → ∃ c, X.env.cells.lookup y.1 = some c := fun y hy e => I.ok.has y.1 (.inl (O.nf y hy e))
  refine wpAny_comprehension_free (use := use) rfl hs (closureFor_eq hcells) O.k1 O.nl (thn (hi pins s σ H _ I h) fun xv s1 h1 => thn h1 fun itv s2 h2 => ?_)
  obtain ⟨it, fp, tn, J, H2, rfl, I2, T, st2, f2, hQ⟩ := h2
  refine wpAny_newObj_type (wpAny_newCompEnv ?_)
  dsimp only
  have sz1 : (s2.heap.push { cls := .type "list", dict := none, data := .seq ([] : List Value).toArray }).objs.size = s2.heap.objs.size + 1 := Heap.size_push ..
  have sz2 : ((s2.heap.push { cls := .type "list", dict := none, data := .seq ([] : List Value).toArray }).push { cls := .type "dict", data := .dict #[] }).objs.size = s2.heap.objs.size + 1 + 1 := by rw [Heap.size_push, sz1]
  have hns : (pushCells ((s2.heap.push { cls := .type "list", dict := none, data := .seq ([] : List Value).toArray }).push { cls := .type "dict", data := .dict #[] }) scope.names).Ns (s2.heap.objs.size + 1) (fun _ => none) := by
    rw [← sz1]; exact (Heap.Ns.new _ (.type "dict")).keeps (pushCells_keeps _ _)
  have keep : ∀ b o, s2.heap.get? b = some o → (pushCells ((s2.heap.push { cls := .type "list", dict := none, data := .seq ([] : List Value).toArray }).push { cls := .type "dict", data := .dict #[] }) scope.names).get? b = some o := fun b o e =>
    pushCells_keeps _ _ b o (Heap.get?_push_of_some _ (Heap.get?_push_of_some _ e))
  have atD : (pushCells ((s2.heap.push { cls := .type "list", dict := none, data := .seq ([] : List Value).toArray }).push { cls := .type "dict", data := .dict #[] }) scope.names).get? s2.heap.objs.size = some { cls := .type "list", data := .seq ([] : List Value).toArray } :=
    pushCells_keeps _ _ _ _ (Heap.get?_push_of_some _ (Heap.get?_push_size _ rfl))
  have cok := cellsFrom_ok scope.names ((s2.heap.push { cls := .type "list", dict := none, data := .seq ([] : List Value).toArray }).push { cls := .type "dict", data := .dict #[] }) (s2.heap.objs.size + 1 + 1) [] ⟨fun _ _ hm => (nomatch hm), List.Pairwise.nil⟩ (by rw [sz2]; exact Nat.le_refl _)
  rw [sz2] at cok
  rw [sz1]
  generalize pushCells ((s2.heap.push { cls := .type "list", dict := none, data := .seq ([] : List Value).toArray }).push { cls := .type "dict", data := .dict #[] }) scope.names = h1' at hns keep atD cok ⊢
  have frD : H2 s2.heap.objs.size = none := I2.hok.fresh (Nat.le_refl _)
  have frC : H2 (s2.heap.objs.size + 1) = none := I2.hok.fresh (Nat.le_succ _)
  have hCD : s2.heap.objs.size + 1 ≠ s2.heap.objs.size := Nat.succ_ne_self _
  obtain ⟨W, ⟨m0, w0⟩, turn⟩ := hQ s2.heap.objs.size frD
  have fpThere : ∀ b ∈ fp, b < s2.heap.objs.size := fun b hb => by
    obtain ⟨o, e, _⟩ := T.obj 0 _ st2 b hb
    exact Heap.lt_size e
  have lk : ∀ x c, (cellsFrom (s2.heap.objs.size + 1 + 1) scope.names [] ++ closOf scope.names X.env.cells []).lookup x = some c → (x, c) ∈ cellsFrom (s2.heap.objs.size + 1 + 1) scope.names [] ∨ X.env.cells.lookup x = some c := fun x c e => by
    rcases List.mem_append.mp (mem_of_lookupA e) with z | z
    · exact .inl z
    · exact .inr (closOf_sub (acc := []) (fun p hp => nomatch hp) _ z)
  have old : ∀ x c, X.env.cells.lookup x = some c → c < s2.heap.objs.size := fun x c e => by
    obtain ⟨v, o, ho, hd⟩ := I2.cell x c e
    exact Heap.lt_size ho
  have cne : ∀ b ∈ fp, ∀ x c, (cellsFrom (s2.heap.objs.size + 1 + 1) scope.names [] ++ closOf scope.names X.env.cells []).lookup x = some c → c ≠ b := fun b hb x c e => by
    rcases lk x c e with z | z
    · have a1 := (cellsFrom_mem z).2
      exact Nat.ne_of_gt (Nat.lt_of_lt_of_le (fpThere b hb) (Nat.le_trans (Nat.le_add_right _ 2) a1))
    · exact (f2 b hb).2.2.2.2.1 x c z
  let Xc : Cx := compCx X scope (s2.heap.objs.size + 1) N s2 H2 fp pins
  have cOk : Xc.Ok := by
    refine ⟨I2.ok.mod, O.k1, I2.ok.glob, I2.ok.blt, Nat.le_succ _, fun x y c e1 e2 => ?_, fun x hx => ?_, fun x c e1 e2 => ?_, I2.ok.hd, I2.ok.frames, .inl rfl, fun b hb => ?_, I2.bs, Nat.le_trans I2.ok.bsz I2.sz, fun b o e hb => ?_, fun b hb hm => ?_, I2.stack, I2.stkFree⟩
    · rcases lk x c e1 with z1 | z1 <;> rcases lk y c e2 with z2 | z2
      · exact name_of_addr cok.apart z1 z2
      · have a1 := (cellsFrom_mem z1).2
        exact absurd (Nat.lt_of_lt_of_le (old _ _ z2) (Nat.le_trans (Nat.le_add_right _ 2) a1)) (Nat.lt_irrefl _)
      · have a1 := (cellsFrom_mem z2).2
        exact absurd (Nat.lt_of_lt_of_le (old _ _ z1) (Nat.le_trans (Nat.le_add_right _ 2) a1)) (Nat.lt_irrefl _)
      · exact I2.ok.inj x y c z1 z2
    · have hx : (relabel scope X.env).names.lookup x = some .cell ∨ (relabel scope X.env).names.lookup x = some .free := hx
      have key : (x, NameKind.free) ∈ scope.names ∨ (x, NameKind.cell) ∈ scope.names := by
        rcases hx with hx | hx
        · obtain ⟨k', m, z⟩ := relabel_has hx
          rcases z with z | z
          · subst z; exact .inr m
          · subst z; exact .inl m
        · obtain ⟨k', m, z⟩ := relabel_has hx
          rcases z with z | z <;> (subst z; exact .inl m)
      rcases key with key | key
      · obtain ⟨c, e⟩ := hcells _ key rfl
        exact lookup_mem (List.mem_append_right _ (mem_of_lookupA (clos_has key e)))
      · obtain ⟨c, e⟩ := cellsFrom_of key (n := s2.heap.objs.size + 1 + 1)
        exact lookup_mem (List.mem_append_left _ e)
    · have e1 : scope.names.lookup x = some .cell := beq_iff_eq.mp e1
      obtain ⟨c1, h1⟩ := cellsFrom_of (PySem.mem_of_lookup e1) (n := s2.heap.objs.size + 1 + 1)
      obtain ⟨c2, h2⟩ := lookup_mem h1
      have e2 : (cellsFrom (s2.heap.objs.size + 1 + 1) scope.names [] ++ closOf scope.names X.env.cells []).lookup x = some c := e2
      rw [List.lookup_append, h2] at e2
      cases e2
      have a1 := (cellsFrom_mem (mem_of_lookupA h2)).2
      exact Nat.le_trans (Nat.le_add_right _ 2) a1
    · exact ⟨Nat.ne_of_lt (Nat.lt_succ_of_lt (fpThere b hb)), fun x c e => cne b hb x c e⟩
    · rcases (f2 b hb).2.2.2.1 with z | z
      · exact I2.ok.noex b o e z
      · exact absurd (Nat.lt_of_lt_of_le (Heap.lt_size e) (Nat.le_trans I2.ok.bsz z)) (Nat.lt_irrefl _)
    · rcases List.mem_cons.mp (I2.stkSub b hm) with z | z
      · exact (f2 b hb).2.1 z
      · exact (f2 b hb).2.2.1 z
  have I3 : Inv Xc [] (compSt js σ) (upd H2 s2.heap.objs.size (.lst [])) { s2 with heap := h1' } := by
    refine ⟨cOk, rfl, I2.bare, Un.laid keep (Nat.le_refl _) frD, ⟨_, hns, fun i x v e1 e2 e3 => ?_⟩, fun x c e => ?_, ?_, fun x c e => ?_, fun p hp => ?_, ?_, ?_⟩
    · have e2 : (js.map fun o => o.bind fun j => (σ[j]?).bind id)[i]? = some (some v) := e2
      rw [List.getElem?_map] at e2
      cases q : js[i]? with
      | none => rw [q] at e2; cases e2
      | some o =>
        rw [q] at e2
        cases o with
        | none => cases e2
        | some j =>
          obtain ⟨a1, a2, a3⟩ := O.fr i x j e1 q
          have hv : σ[j]? = some (some v) := by
            cases z : σ[j]? with
            | none => rw [Option.map_some, Option.bind_some, z] at e2; cases e2
            | some y =>
              rw [Option.map_some, Option.bind_some, z] at e2
              have e2 : some (id y) = some (some v) := e2
              rw [show y = some v from Option.some.inj e2]
          obtain ⟨m, hn, hl⟩ := I2.loc
          obtain ⟨u, r, l⟩ := hl j x v a1 hv (.inr (.inl a3))
          refine ⟨u, r, ?_⟩
          rcases l with ⟨k, _⟩ | ⟨k, c, e, o, ho, hd⟩
          · rw [show X.env.kindOf x = some .cell from a3] at k; cases k
          · have only : ∀ y ∈ scope.names, y.1 = x → y.2 = .free := fun y hy hyx => ?_
            · refine .inr ⟨.inl (relabel_cell I2.ok.kind a3 a2 only), c, lookup_of_uniq (List.mem_append_right _ (mem_of_lookupA (clos_has a2 e))) (fun p hp hx => ?_), o, keep _ _ ho, hd⟩
              rcases List.mem_append.mp hp with z | z
              · have := only _ (cellsFrom_mem z).1 hx
                cases this
              · have z := closOf_sub (acc := []) (fun p hp => nomatch hp) p z
                rw [hx, e] at z
                exact (Option.some.inj z).symm
            obtain ⟨i1, h1, e1'⟩ := List.mem_iff_getElem.mp hy
            obtain ⟨i2, h2, e2'⟩ := List.mem_iff_getElem.mp a2
            have : i1 = i2 := by
              refine (List.getElem_inj (h₀ := by rw [List.length_map]; exact h1) (h₁ := by rw [List.length_map]; exact h2) O.ndn).mp ?_
              rw [List.getElem_map, List.getElem_map, e1', e2']; exact hyx
            subst this
            rw [e1'] at e2'; rw [e2']
    · rcases lk x c e with z | z
      · exact ⟨none, (cok.empty x c z).1⟩
      · obtain ⟨v, o, ho, hd⟩ := I2.cell x c z
        exact ⟨v, o, keep _ _ ho, hd⟩
    · show upd H2 _ _ (s2.heap.objs.size + 1) = none
      rw [upd_ne hCD]; exact frC
    · rcases lk x c e with z | z
      · have a1 := (cellsFrom_mem z).2
        show upd H2 _ _ c = none
        rw [upd_ne (Nat.ne_of_gt (Nat.lt_of_lt_of_le (Nat.lt_add_of_pos_right (by decide : 0 < 2)) a1))]
        exact I2.hok.fresh (Nat.le_trans (Nat.le_add_right _ 2) a1)
      · have a2 := old _ _ z
        show upd H2 _ _ c = none
        rw [upd_ne (Nat.ne_of_lt a2)]
        exact I2.freeC x c z
    · have hp : p ∈ X.pn ++ pins := by rw [List.append_nil] at hp; exact hp
      obtain ⟨e, n, ne, nf, d⟩ := I2.pin p hp
      refine ⟨keep _ _ e, by rw [upd_ne (Nat.ne_of_lt (Heap.lt_size e))]; exact n, Nat.ne_of_lt (Nat.lt_succ_of_lt (Heap.lt_size e)), fun hm => ?_, d⟩
      rcases List.mem_cons.mp (I2.stkSub _ hm) with z | z
      · exact ne z
      · exact nf z
    · exact I2.hok.laid keep (Nat.le_refl _) ⟨Nat.zero_le _, [], 0, .nil, atD⟩
    · show (js.map _).length = N.length
      rw [List.length_map, O.len]
  have fpc : ∀ {H' : Hp}, (∀ b ∈ fp, H' b = none) → ∀ b ∈ fp, FpOk Xc [] H' b := fun {H'} hn b hb => by
    refine ⟨hn b hb, Nat.ne_of_lt (Nat.lt_succ_of_lt (fpThere b hb)), fun hm => ?_, .inl hb, fun x c e => cne b hb x c e, fun p hp => (f2 b hb).2.2.2.2.2 p (by rw [List.append_nil] at hp; exact hp)⟩
    rcases List.mem_cons.mp (I2.stkSub b hm) with z | z
    · exact (f2 b hb).2.1 z
    · exact (f2 b hb).2.2.1 z
  have st3 : tn 0 h1' := T.keep 0 _ _ st2 fun b hb o e => keep b o e
  have fr3 : ∀ b ∈ fp, (upd H2 s2.heap.objs.size (.lst [])) b = none := fun b hb => by
    rw [upd_ne (Nat.ne_of_lt (fpThere b hb))]; exact (f2 b hb).1
  have loop : codeAny (model X.prog X.w) X.A (.compLoop (.ListComp elt [⟨tg, iter, ifs, 0⟩] scope pos) 0 (.ref it) (.ref s2.heap.objs.size) (compEnvC scope (cellsFrom (s2.heap.objs.size + 1 + 1) scope.names [] ++ closOf scope.names X.env.cells []) (s2.heap.objs.size + 1) X.env))
      (compPost (model X.prog X.w) X.A X.xe use Qf (.ref s2.heap.objs.size) (s2.heap.objs.size + 1)) { s2 with heap := h1' } := by
    refine comp_loop (fun n s' => ∃ i σc H', Inv Xc [] σc H' s' ∧ tn i s'.heap ∧ (∀ b ∈ fp, H' b = none) ∧ W i n σc H') ?_ m0 ⟨0, _, _, I3, st3, fr3, w0⟩
    rintro n s4 ⟨i, σc, H4, I4, st4, fr4, w4⟩
    rcases turn i n σc H4 w4 with ⟨stop, q⟩ | ⟨go, step⟩
    · refine thn (T.done Xc rfl rfl rfl hcalm i [] s4 σc H4 (fun _ _ => False) I4 (fpc fr4) st4 stop) fun r s5 ⟨hr, I5⟩ => ?_
      subst hr
      obtain ⟨m5, hn5, _⟩ := I5.loc
      have un5 : Un (frs X.stack) fp H2 H4 s2.heap s5.heap := I5.base
      have neC : ∀ b o, s2.heap.get? b = some o → b ≠ s2.heap.objs.size + 1 := fun b o e => Nat.ne_of_lt (Nat.lt_succ_of_lt (Heap.lt_size e))
      have fC : H4 (s2.heap.objs.size + 1) = none := I5.free
      refine fin _ _ _ H4 m5 hn5 (I2.fpOk (Nat.le_succ _) fC) (fun h' hsame => ?_) q
      refine I2.call' (s' := { s5 with heap := h' }) (ch := fp) I5.os ⟨fun b o q n hb hx => (hsame.2 b (neC b o q)).trans (un5.keep b o q n hb hx), fun b o q n hb hx => ?_, un5.free, fun b o q hx => ?_, un5.tups, un5.frzs, un5.tbls⟩ ?_ I5.bare (fun b hb => ⟨(f2 b hb).2.2.2.1, (f2 b hb).2.1, (f2 b hb).2.2.2.2.1, (f2 b hb).2.2.2.2.2⟩)
      · obtain ⟨sl, z⟩ := un5.slot b o q n hb hx
        exact ⟨sl, (hsame.2 b (neC b o q)).trans z⟩
      · obtain ⟨o', z⟩ := un5.there b o q hx
        exact ⟨o', (hsame.2 b (neC b o q)).trans z⟩
      · exact I5.hok.keptT fun b u ob hb q => (hsame.2 b fun z => by rw [z, fC] at hb; cases hb).trans q
    · refine thn (T.item Xc rfl rfl rfl hcalm i [] s4 σc H4 (fun _ _ => False) I4 (fpc fr4) st4 go) fun r s5 ⟨u, hr, h5⟩ => ?_
      subst hr
      refine thn h5 fun _ s6 ⟨x, H6, I6, r6, y6, st6, fr6⟩ => ?_
      have I6' := I6.pinned (fpc fr6) (T.obj _ _ st6)
      refine thn (hg _ _ _ _ _ _ s6 σc H6 x u _ I6' r6 (step x H6 y6)) fun _ s7 ⟨σ7, H7, I7, q7⟩ => ?_
      refine thn (ht _ _ _ _ _ _ s7 σ7 H7 _ I7 q7) fun ok s8 ⟨H8, I8, q8⟩ => ?_
      have back : ∀ {H9 : Hp} {s9 : Shared} {σ9 : St}, Inv Xc ([] ++ pinsAt fp s6.heap) σ9 H9 s9 → Inv Xc [] σ9 H9 s9 ∧ tn (i + 1) s9.heap ∧ ∀ b ∈ fp, H9 b = none := fun {H9 s9 σ9} I9 => by
        refine ⟨I9.unpinned, T.keep _ _ _ st6 fun b hb o e => (I9.pin (b, o) (List.mem_append_right _ (List.mem_append_right _ (mem_pinsAt hb e)))).1, fun b hb => ?_⟩
        obtain ⟨o, e, d⟩ := T.obj _ _ st6 b hb
        exact (I9.pin (b, o) (List.mem_append_right _ (List.mem_append_right _ (mem_pinsAt hb e)))).2.1
      cases ok with
      | false =>
        rw [if_neg Bool.false_ne_true] at q8 ⊢
        obtain ⟨m', hm, w8⟩ := q8
        obtain ⟨b1, b2, b3⟩ := back I8
        exact ⟨m', hm, i + 1, σ7, H8, b1, b2, b3, w8⟩
      | true =>
        rw [if_pos rfl] at q8 ⊢
        refine thn (he _ _ _ _ _ _ s8 σ7 H8 _ I8 q8) fun y s9 ⟨z, H9, I9, r9, ys, e9, hl, m', hm, w9⟩ => ?_
        refine thn (mt_append (X := Xc) _ s9 σ7 H9 (.ref s2.heap.objs.size) [z] (.ref s2.heap.objs.size) [y] (fun _ H10 => H10 = upd H9 s2.heap.objs.size (.lst (ys ++ [z]))) I9 rfl (.cons r9 .nil) ⟨_, ys, z, rfl, rfl, e9, hl, rfl⟩) fun _ s10 ⟨_, H10, I10, _, e10⟩ => ?_
        subst e10
        obtain ⟨b1, b2, b3⟩ := back I10
        exact ⟨m', hm, i + 1, σ7, _, b1, b2, b3, w9⟩
  exact codeAny_compStart_list loop (T.self _ 0 _ _ _ st3 loop)
theorem pe_comp (hok : compOk N js scope X.env.scope X.N = true) (hcalm : X.calm = true) (hi : PI X tg iter wi)
    (hg : ∀ C s2 H2 fp pn, PG (compCx X scope C N s2 H2 fp pn) tg g) (ht : ∀ C s2 H2 fp pn, PIf (compCx X scope C N s2 H2 fp pn) ifs tt) (he : ∀ C s2 H2 fp pn, PE (compCx X scope C N s2 H2 fp pn) elt te)
    (hs : ∀ x, foldedSetIterable iter X.env x = pure x := by intro _; rfl) : PE X (.ListComp elt [⟨tg, iter, ifs, 0⟩] scope pos) (tComp js wi g tt te) := fun pins s σ H Q I h => by
  rw [eval_ListComp]
  exact comp_gen (use := none) hok hcalm hi hg ht he hs I h fun D C s5 H4 m5 hn _ key q => ⟨m5, hn, fun h' hs' => ⟨.ref D, H4, key h' hs', rfl, q⟩⟩
theorem ps_setComp {i : Nat} {y : Str} {py spos : Pos} (hN : X.N.Nodup) (hy : X.N[i]? = some y) (hl : X.env.scope.names.lookup y = some .local) (hok : compOk N js scope X.env.scope X.N = true) (hcalm : X.calm = true) (hi : PI X tg iter wi)
    (hg : ∀ C s2 H2 fp pn, PG (compCx X scope C N s2 H2 fp pn) tg g) (ht : ∀ C s2 H2 fp pn, PIf (compCx X scope C N s2 H2 fp pn) ifs tt) (he : ∀ C s2 H2 fp pn, PE (compCx X scope C N s2 H2 fp pn) elt te)
    (hs : ∀ x, foldedSetIterable iter X.env x = pure x) (hsw : swapsWith (.ListComp elt [⟨tg, iter, ifs, 0⟩] scope pos) (some (.Name y py)) spos.line X.env = pure true) :
    PS X (.Assign [.Name y py] (.ListComp elt [⟨tg, iter, ifs, 0⟩] scope pos) spos) (tAsg (tComp js wi g tt te) (gName i)) := by
  intro pins s σ H D I h
  rw [exec_Assign_Name_used _ _ _ _ hsw]
  refine wpAny_bind (wpAny_standAt (wpAny_bind ?_))
  show wpAny _ _ (do let _ ← comprehension (.ListComp elt [⟨tg, iter, ifs, 0⟩] scope pos) scope X.env _ (newList []) false (eval iter X.env) (some (assign (.Name y py) X.env))) _ _ s
  refine wpAny_bind (wpAny_mono (comp_gen (use := some (assign (.Name y py) X.env)) (Qf := fun _ s' => SP X pins D .next s') hok hcalm hi hg ht he hs I h fun Da C s5 H4 m5 hn fp key q => ?_) (fun _ s' hq => wpAny_pure (wpAny_pure hq)) fun _ _ z => z)
  show wpAny _ _ (assign (.Name y py) X.env (.ref Da)) _ _ _
  have J : Inv X pins σ H4 s5 := key s5.heap (Heap.SameBut.refl _ _)
  obtain ⟨oC, es, ep, eC, rC⟩ := id hn
  obtain ⟨f0, f1, f2, f3, f4, f5⟩ := id fp
  have JC : Inv X (pins ++ [(C, oC)]) σ H4 s5 := J.pins_of fun p hp => by
    rcases List.mem_append.mp hp with z | z
    · exact J.pin p (List.mem_append_right _ z)
    · have e : p = (C, oC) := by simpa using z
      subst e
      exact ⟨eC, f0, f1, f2, fun v hv => by
        have z := rC.1
        rw [show oC.data = .cell v from hv] at z
        cases z⟩
  refine thn ((pg_name (pos := py) hN hy (.inl hl) (.inr hl)) _ s5 σ H4 (.ref Da) (.ref Da) (fun σ' H' => H' = H4 ∧ D.nx σ' H') JC rfl ⟨rfl, q⟩) fun _ s6 ⟨σ6, H6, I6, e6, q6⟩ => ?_
  subst e6
  have eC6 : s6.heap.get? C = some oC := (I6.pin (C, oC) (List.mem_append_right _ (List.mem_append_right _ (by simp)))).1
  refine ⟨m5, hn.at' fun o e => ?_, fun h' hsame => ⟨σ6, H6, ?_, q6⟩⟩
  · rw [eC] at e; cases e; exact eC6
  · exact (Inv.unpinned I6).turned (t' := s6.toks) (it := C) (fun b o hb e => (hsame.2 b hb).trans e) f0 f1 f3 f4 f5
end
end L2
set_option Elab.async false
set_option linter.all false
set_option maxRecDepth 100000
set_option maxHeartbeats 4000000
namespace L2
open PySem PySem.Spec PySem.Calls PyProof.Rows PySem.W PySem.Builtin PySem.Builtin.ObjectAttr PySem.Builtin.Getset_descriptor
section
variable {prog : Program} {w : World} {A : Around} {E : Value → Shared → Prop} {h : Heap} {g : Array GenState} {d : Drawn} {t : Nat} {os : OsState} {a C : Addr} {o : Obj} {K : PySem.W.Frag}
theorem exc_get {R : Result → Shared → Prop} {tp : Value} (X : K.In h) (hx : h.get? a = some o) (hc : o.cls = .ref C) (hm : PySem.W.mroIn K C (.type "object") = some true) (hq : R (.ok (.ret (.ref C))) ⟨h, g, d, t, os⟩) :
    codeAny (model prog w) A (.call (.builtin "getset_descriptor.__get__") ⟨[.builtin "object.__class__", .ref a, tp], []⟩) R ⟨h, g, d, t, os⟩ := by
  have L0 : PySem.W.Looks (model prog w) h (typeOf (.ref a)) (.ref C) := hc ▸ (PySem.W.Looks.ld hx).andThen .now
  have L1 := PySem.W.looks_mroIn (M := model prog w) X hm
  refine codeAny_call_builtin KF.slot_gs.plain KF.entry_gs (KF.slot_gs.check _ _ _ _ _ _ _ _ KF.type_class (KF.args_gs _ _ _) ?_)
  unfold Builtin.«getset_descriptor.__get__» descrGet
  rw [dga_obj]
  refine wpAny_bind (wpAny_pure ?_)
  unfold descrGetter descrCheckInstance descrNameAndClass isInstance
  simp only [KF.owner_class]
  repeat lk
  refine ⟨Code.quiet_builtin _ (by decide +kernel), codeAny_builtin KF.entry_class ?_⟩
  unfold Builtin.«object.__class__» shownTypeOf
  repeat lk
  exact hq
theorem looks_findD {M : Model} {name : Str} {b gg : Value} (X : K.In h) (ha : findIn K (.ref C) name = some (some b)) (hg : specialIn K b "__get__" = some (some gg)) (ht : takesIn K b = some true) : Looks M h (find (.ref a) (.ref C) name) (.bind gg b) := by
  have L1 := looks_findIn (M := M) X ha
  have L2 : Looks M h (getOf (some b)) (some gg) := looks_specialIn X hg
  have L3 := looks_takesIn (M := M) X ht
  refine L1.andThen (L2.andThen ?_)
  exact (show Looks M h (dataDescriptor? (some b) (some gg)) (some (gg, b)) from L3.andThen .now).andThen (Looks.tag .now)
variable (hga : findIn K (.ref C) "__getattribute__" = some (some (.builtin "BaseException.__getattribute__"))) (hgn : findIn K (.ref C) "__getattr__" = some none) (hcl : findIn K (.ref C) "__class__" = some (some (.builtin "object.__class__")))
  (hn : specialIn K (.builtin "object.__class__") "__get__" = some (some (.builtin "getset_descriptor.__get__"))) (htk : takesIn K (.builtin "object.__class__") = some true) (hm : mroIn K C (.type "object") = some true) (hmB : mroIn K C (.type "BaseException") = some true)
include hcl hn htk hm in
theorem exc_entry {tk : Tok} {Q : PySem.Fin → Shared → Prop} (X : K.In h) (hx : h.get? a = some o) (hc : o.cls = .ref C) (hq : Q (.done (.ret (.ref C))) ⟨h, g, d, t, os⟩) :
    wpAny (model prog w) A (Builtin.«object.__getattribute__» ⟨[.ref a, .str "__class__" tk], []⟩) Q E ⟨h, g, d, t, os⟩ := by
  have L0 : Looks (model prog w) h (typeOf (.ref a)) (.ref C) := hc ▸ (Looks.ld hx).andThen .now
  have L1 := looks_findD (M := model prog w) (a := a) X hcl hn htk
  refine wpAny_bind (wpAny_pure (wpAny_bind (wpAny_pure (wpAny_bind (L0.at (wpAny_bind (L1.at ?_)))))))
  show wpAny _ _ (bindTo _ _ _ _) _ _ _
  refine wpAny_bind (wpAny_holding (wpAny_call (exc_get X hx hc hm ?_)))
  exact wpAny_pure hq
include hmB in
theorem exc_check {M : Model} {nameV : Value} {Q : Unit → Shared → Prop} (X : K.In h) (hx : h.get? a = some o) (hc : o.cls = .ref C) (hq : Q () ⟨h, g, d, t, os⟩) : wpAny M A (checkBuiltinCall "BaseException.__getattribute__" ⟨[.ref a, nameV], []⟩) Q E ⟨h, g, d, t, os⟩ := by
  have hk : builtinKind "BaseException.__getattribute__" = some .slot := by decide +kernel
  have hsplit : splitId "BaseException.__getattribute__" = some ("BaseException", "__getattribute__") := by decide +kernel
  have L0 : Looks M h (typeOf (.ref a)) (.ref C) := hc ▸ (Looks.ld hx).andThen .now
  have L1 := looks_mroIn (M := M) X hmB
  have ha := F.args_bexc_ga (.ref a) nameV
  simp only [checkBuiltinCall, hk, hsplit]
  refine wpAny_bind ?_
  · unfold isInstance
    refine wpAny_bind (L0.at (L1.at ?_))
    repeat (first | assumption | wp_step)
include hga hgn hcl hn htk hm hmB in
theorem exc_attr {Q : Option Value → Shared → Prop} (X : K.In h) (hx : h.get? a = some o) (hc : o.cls = .ref C) (hq : Q (some (.ref C)) ⟨h, g, d, t + 1, os⟩) : wpAny (model prog w) A (getAttr? (.ref a) "__class__") Q E ⟨h, g, d, t, os⟩ := by
  have L0 : Looks (model prog w) h (typeOf (.ref a)) (.ref C) := hc ▸ (Looks.ld hx).andThen .now
  have L1 := looks_findIn (M := model prog w) X hga
  have L2 := looks_findIn (M := model prog w) X hgn
  have FB : Slot "ValueError" "__getattribute__" "BaseException.__getattribute__" := F.excAttr_ValueError.ga
  have f3 := FB.bind (.ref a)
  unfold getAttr? getAttrBy? getAttrBy
  refine wpAny_bind (wpAny_mkText (wpAny_bind (wpAny_attempt (wpAny_holding (wpAny_bind (L0.at (wpAny_bind (L1.at ?_))))))))
  show wpAny _ _ (getAttrByItsOwn _ _ _ _ _ _) _ _ _
  refine wpAny_bind (L2.at (wpAny_bind (wpAny_attempt (wpAny_holding ?_))))
  unfold callGetattribute
  show wpAny _ _ (boundAndCalled _ _ _) _ _ _
  unfold boundAndCalled
  rw [f3]
  refine wpAny_bind (wpAny_pure ?_)
  refine wpAny_call (codeAny_call_builtin FB.plain F.entry_bexc_ga (exc_check hmB X hx hc (exc_entry hcl hn htk hm X hx hc ?_)))
  exact wpAny_pure (wpAny_pure hq)
end
structure ExcI (K : PySem.W.Frag) (C : Addr) : Prop where
  hd : PySem.W.hasDictIn K C = true
  ga : findIn K (.ref C) "__getattribute__" = some (some (.builtin "BaseException.__getattribute__"))
  gn : findIn K (.ref C) "__getattr__" = some none
  cl : findIn K (.ref C) "__class__" = some (some (.builtin "object.__class__"))
  n : specialIn K (.builtin "object.__class__") "__get__" = some (some (.builtin "getset_descriptor.__get__"))
  tk : takesIn K (.builtin "object.__class__") = some true
  m : mroIn K C (.type "object") = some true
  mB : mroIn K C (.type "BaseException") = some true
theorem kitx_exc {K : PySem.W.Frag} {a C : Addr} (X : ExcI K C) : KitX K (.ref a) (.ref C) (fun h => ∃ o, h.get? a = some o ∧ o.cls = .ref C) where
  ty := fun M h _ ⟨o, hx, hc⟩ => hc ▸ (Looks.ld hx).andThen .now
  it := fun _ _ Y _ => by
    obtain ⟨cdD, hcD, _⟩ := any_some X.hd
    unfold clsIn at hcD
    split at hcD
    · rename_i c' d' cd' sl' ho
      intro A' Q' E' s' k q
      unfold isType loadHead
      exact wpAny_bind (wpAny_loadPart (k _ _ (Y _ _ ho)) (wpAny_pure q))
    · cases hcD
  ne := fun h tp dd its n sl Y htp => by
    obtain ⟨cdD, hcD, _⟩ := any_some X.hd
    refine Bool.eq_false_iff.mpr fun q => ?_
    have e : C = tp := Value.ref.inj (beq_iff_eq.mp q)
    subst e
    unfold clsIn at hcD
    split at hcD
    · rename_i c' d' cd' sl' ho
      have z := (Y _ _ ho).symm.trans htp
      cases z
    · cases hcD
  ca := fun {prog w A E Q s} Y ⟨o, hx, hc⟩ k => exc_attr X.ga X.gn X.cl X.n X.tk X.m X.mB Y hx hc k
end L2
set_option Elab.async false
set_option linter.all false
set_option maxRecDepth 100000
set_option maxHeartbeats 4000000
namespace L2
open PySem PySem.Spec PySem.Calls PyProof.Rows PySem.W PySem.Builtin PySem.Builtin.ObjectAttr
section
variable {prog : Program} {w : World} {A : Around} {E : Value → Shared → Prop} {h : Heap} {g : Array GenState} {d : Drawn} {t : Nat} {os : OsState} {a C : Addr} {o : Obj} {K : PySem.W.Frag} {name : Str} {u : Value}
end
end L2
set_option Elab.async false
set_option linter.all false
set_option maxRecDepth 100000
set_option maxHeartbeats 4000000
namespace L2
open PySem PySem.Spec PySem.Calls PyProof.Rows PySem.W
noncomputable def kasEv {α : Type} (f : Nat → Nat → Bool) : KasT α → α
  | .ret a => a
  | .ask i j k => kasEv f (k (f i j))
noncomputable def lfB (n : Nat) (p : Array Nat) : Bool := decide (p.size = n) && p.toList.all (decide <| · < n)
noncomputable def PvOne (h : Heap) (v : Value) (p : Str × Int) : Prop := ∃ t o m tx ty, v = .ref t ∧ h.get? t = some o ∧ o.cls = .type "tuple" ∧ o.data = .seq #[.str p.1 tx, .int p.2 ty] m
section
variable {prog : Program} {w : World} {A : Around} {E : Value → Shared → Prop} {s : Shared}
noncomputable def Pv (h : Heap) : List Value → List (Str × Int) → Prop
  | [], ps => ps = []
  | v :: vs, ps => ∃ p r, ps = p :: r ∧ PvOne h v p ∧ Pv h vs r
theorem Pv.length {h : Heap} : ∀ {vs : List Value} {ps : List (Str × Int)}, Pv h vs ps → vs.length = ps.length
  | [], _, e => by rw [show _ = [] from e]; rfl
  | v :: vs, _, e => by obtain ⟨p, r, rfl, _, t⟩ := e; rw [List.length_cons, List.length_cons, t.length]
theorem Pv.get {h : Heap} : ∀ {vs : List Value} {ps : List (Str × Int)} {i : Nat}, Pv h vs ps → i < ps.length → PvOne h (vs.getD i .none) (ps.getD i ("", 0))
  | [], _, i, e, hi => by rw [e] at hi; simp at hi
  | v :: vs, _, 0, e, hi => by obtain ⟨p, r, rfl, a, t⟩ := e; simpa using a
  | v :: vs, _, i + 1, e, hi => by
    obtain ⟨p, r, rfl, a, t⟩ := e
    simpa using t.get (i := i) (by simpa using hi)
theorem Pv.keeps {h h' : Heap} (k : ∀ b o, h.get? b = some o → o.cls = .type "tuple" → h'.get? b = some o) : ∀ {vs : List Value} {ps : List (Str × Int)}, Pv h vs ps → Pv h' vs ps
  | [], _, e => e
  | v :: vs, _, e => by
    obtain ⟨p, r, rfl, ⟨t, o, m, tx, ty, e1, g, c, d⟩, z⟩ := e
    exact ⟨p, r, rfl, ⟨t, o, m, tx, ty, e1, k _ _ g c, c, d⟩, z.keeps k⟩
theorem Pv.tups {h : Heap} : ∀ {vs : List Value} {ps : List (Str × Int)}, Pv h vs ps → ∃ fs, KatTups h vs fs ∧ fs.length = ps.length ∧ ∀ v ∈ fs, ∃ x t, v = Value.str x t
  | [], _, e => by rw [e]; exact ⟨[], KatTups.nil, rfl, fun _ h => nomatch h⟩
  | v :: vs, _, e => by
    obtain ⟨p, r, rfl, ⟨t, o, m, tx, ty, rfl, g, c, d⟩, z⟩ := e
    obtain ⟨fs, a, b, c'⟩ := z.tups
    exact ⟨.str p.1 tx :: fs, KatTups.cons g c d rfl a, by rw [List.length_cons, List.length_cons, b], fun v hv => (List.mem_cons.mp hv).elim (fun e => ⟨_, _, e⟩) (c' v)⟩
end
end L2
set_option Elab.async false
set_option linter.all false
set_option maxRecDepth 100000
set_option maxHeartbeats 4000000
namespace L2
open PySem PySem.Spec PySem.Calls PyProof.Rows PySem.W
open AutoSeq1 (wpAny_loadPart')
open MeetsSeq MeetsSeq2 MeetsSeq3
noncomputable def ltI : List Int → List Int → Bool
  | a :: r, b :: t => if a = b then ltI r t else decide (a < b)
  | _, _ => false
theorem lt_loop (l b : Addr) (n n2 : Nat) (dd dd2 : Option Addr) (sl sl2 : Array (Option Value)) (vs us : List Value) (xs ys : List Int) (hx : IntsAre vs xs) (hy : IntsAre us ys) (hsz : xs.length = ys.length) (k : Nat) :
    ∀ i : Nat, xs.length - i = k → Meets (Builtin.«list.__eq__.loop» ⟨[.ref l, .ref b, rawInt i, rawInt 0], []⟩)
      (fun A R s => s.heap.get? l = some { cls := .type "list", dict := dd, data := .seq vs.toArray n, slots := sl } ∧ s.heap.get? b = some { cls := .type "list", dict := dd2, data := .seq us.toArray n2, slots := sl2 } ∧
        R (.ok (.ret (.bool (ltI (xs.drop i) (ys.drop i))))) s) := by
  have lx : vs.length = xs.length := IntsAre.length hx
  have ly : us.length = ys.length := IntsAre.length hy
  induction k with
  | zero =>
    intro i hk prog w A R s h
    obtain ⟨hp, g, d, tk, os⟩ := s; obtain ⟨hl, hb, h⟩ := h
    wp_walk using wpAny_loadPart' hl, wpAny_loadPart' hb
    have hi1 : vs.toArray[((i : Nat) : Int).toNat]? = none := by simp; omega
    have hi2 : us.toArray[((i : Nat) : Int).toNat]? = none := by simp; omega
    have hd : xs.drop i = [] := by simp; omega
    rw [hd] at h
    rw [hi1, hi2]
    wp_walk using wpAny_loadPart' hl, wpAny_loadPart' hb
    show R (.ok (.ret (.bool (decide (vs.toArray.size < us.toArray.size))))) _
    have e : decide (vs.toArray.size < us.toArray.size) = false := by simp; omega
    rw [e]
    simpa [ltI] using h
  | succ k ih =>
    intro i hk prog w A R s h
    obtain ⟨hp, g, d, tk, os⟩ := s; obtain ⟨hl, hb, h⟩ := h
    wp_walk using wpAny_loadPart' hl, wpAny_loadPart' hb
    have hlt : i < xs.length := by omega
    have hlt2 : i < ys.length := by omega
    obtain ⟨x, t, e1, e2⟩ := hx.at i vs[i] (by simp)
    obtain ⟨y, u, e3, e4⟩ := hy.at i us[i] (by simp)
    have hi1 : vs.toArray[((i : Nat) : Int).toNat]? = some (.int x t) := by rw [← e1]; simp [lx, hlt]
    have hi2 : us.toArray[((i : Nat) : Int).toNat]? = some (.int y u) := by rw [← e3]; simp [ly, hlt2]
    have hdx : xs.drop i = x :: xs.drop (i + 1) := by
      rw [List.drop_eq_getElem_cons hlt]
      have : xs[i] = x := by rw [List.getElem?_eq_getElem hlt] at e2; exact Option.some.inj e2
      rw [this]
    have hdy : ys.drop i = y :: ys.drop (i + 1) := by
      rw [List.drop_eq_getElem_cons hlt2]
      have : ys[i] = y := by rw [List.getElem?_eq_getElem hlt2] at e4; exact Option.some.inj e4
      rw [this]
    have hc : ((i : Int) + 1) = ((i + 1 : Nat) : Int) := by push_cast; rfl
    rw [hdx, hdy, ltI] at h
    rw [hi1, hi2]
    refine wpAny_bind (wpAny_eqBool_int ?_)
    by_cases hxy : x = y
    · rw [if_pos hxy] at h
      rw [beq_iff_eq.mpr hxy]
      wp_walk
      rw [hc]
      exact ⟨plainId_quiet plain_eq_loop _, codeAny_builtin entry_eq_loop (by
        rw [Around.under_plainId plain_eq_loop _]
        exact ih (i + 1) (by omega) prog w A R _ ⟨hl, hb, h⟩)⟩
    · rw [if_neg hxy] at h
      rw [beq_eq_false_iff_ne.mpr hxy]
      wp_walk using wpAny_loadPart' hl, wpAny_loadPart' hb
      rw [hi1, hi2]
      exact wpAny_bind (show wpAny _ _ (compareOp .Lt (.int x t) (.int y u)) _ _ _ from wpAny_lt_int (wpAny_pure h))
theorem list_lt (l b : Addr) (n n2 : Nat) (dd dd2 : Option Addr) (sl sl2 : Array (Option Value)) (vs us : List Value) (xs ys : List Int) (hx : IntsAre vs xs) (hy : IntsAre us ys) (hsz : xs.length = ys.length) :
    Meets (Builtin.«list.__lt__» ⟨[.ref l, .ref b], []⟩)
      (fun A R s => s.heap.get? l = some { cls := .type "list", dict := dd, data := .seq vs.toArray n, slots := sl } ∧ s.heap.get? b = some { cls := .type "list", dict := dd2, data := .seq us.toArray n2, slots := sl2 } ∧
        R (.ok (.ret (.bool (ltI xs ys)))) s) := by
  intro prog w A R s h
  obtain ⟨hp, g, d, tk, os⟩ := s; obtain ⟨hl, hb, h⟩ := h
  have f3 := AutoSeq1.sub_list_list
  wp_walk using wpAny_loadPart' hl, wpAny_loadPart' hb
  exact ⟨plainId_quiet plain_eq_loop _, codeAny_builtin entry_eq_loop (by
    rw [Around.under_plainId plain_eq_loop _]
    exact lt_loop l b n n2 dd dd2 sl sl2 vs us xs ys hx hy hsz _ 0 rfl prog w A R _ ⟨hl, hb, h⟩)⟩
noncomputable def LvOne (h : Heap) (v : Value) (xs : List Int) : Prop := ∃ t n vs, v = .ref t ∧ h.get? t = some (seqObj "list" vs.toArray n) ∧ IntsAre vs xs
section
variable {prog : Program} {w : World} {A : Around} {E : Value → Shared → Prop} {s : Shared}
theorem lt_list {u v : Value} {xs ys : List Int} {Q : Bool → Shared → Prop} (ha : A.units < cLine) (hu : LvOne s.heap u xs) (hv : LvOne s.heap v ys) (hsz : xs.length = ys.length) (h : Q (ltI xs ys) s) : wpAny (model prog w) A (keyLt' oneType' u v) Q E s := by
  obtain ⟨t, n, vs, rfl, g, i⟩ := hu
  obtain ⟨t', n', us, rfl, g', i'⟩ := hv
  rw [keyLt'_oneType, oneLt'_eq]
  simp only [if_true]
  refine wpAny_bind (wpAny_cRoomFor ha ?_)
  refine wpAny_bind (wpAny_callSpecialIfBound?_slot ⟨_, g, rfl⟩ F.slot_list_lt (call_meets F.slot_list_lt ⟨_, g, rfl⟩ F.entry_list_lt (F.args_list_lt_2 _ _) (list_lt t t' n n' none none #[] #[] vs us xs ys i i' hsz) ⟨g, g', ?_⟩))
  exact wpAny_truthy_bool h
noncomputable def kasOn {α : Type} (n : Nat) (f : Nat → Nat → Bool) : KasT α → Bool
  | .ret _ => true
  | .ask i j k => decide (i < n) && decide (j < n) && kasOn n f (k (f i j))
theorem kas_on {α : Type} {n : Nat} {f : Nat → Nat → Bool} {cmp : Nat → Nat → (Bool → Shared → Prop) → Shared → Prop} {s : Shared} {Q : α → Shared → Prop} (hc : ∀ i j C, i < n → j < n → C (f i j) s → cmp i j C s) :
    ∀ t : KasT α, kasOn n f t = true → Q (kasEv f t) s → t.kasWp cmp Q s
  | .ret a, _, q => q
  | .ask i j k, h, q => by
    unfold kasOn at h
    simp only [Bool.and_eq_true, decide_eq_true_eq] at h
    exact hc i j _ h.1.1 h.1.2 (kas_on hc (k (f i j)) h.2 q)
noncomputable def sortLx (ls : List (List Int)) : List Nat := if ls.length < 2 then List.range ls.length else (kasEv (fun i j => ltI (ls.getD i []) (ls.getD j [])) (kas_sort ls.length)).toList
noncomputable def sortLok (ls : List (List Int)) : Bool := decide (ls.length ≤ 40) && ls.all (fun x => x.length == (ls.getD 0 []).length) && (decide (ls.length < 2) || (kasOn ls.length (fun i j => ltI (ls.getD i []) (ls.getD j [])) (kas_sort ls.length) && lfB ls.length (kasEv (fun i j => ltI (ls.getD i []) (ls.getD j [])) (kas_sort ls.length))))
theorem lok_le {ls : List (List Int)} (h : sortLok ls = true) : ls.length ≤ 40 ∧ ∀ i j, i < ls.length → j < ls.length → (ls.getD i []).length = (ls.getD j []).length := by
  unfold sortLok at h
  simp only [Bool.and_eq_true, decide_eq_true_eq, List.all_eq_true, beq_iff_eq] at h
  refine ⟨h.1.1, fun i j hi hj => ?_⟩
  have a1 := h.1.2 (ls.getD i []) (by rw [List.getD_eq_getElem?_getD, List.getElem?_eq_getElem hi]; exact List.getElem_mem hi)
  have a2 := h.1.2 (ls.getD j []) (by rw [List.getD_eq_getElem?_getD, List.getElem?_eq_getElem hj]; exact List.getElem_mem hj)
  rw [a1, a2]
theorem lok_on {ls : List (List Int)} (h : sortLok ls = true) (h2 : 2 ≤ ls.length) : kasOn ls.length (fun i j => ltI (ls.getD i []) (ls.getD j [])) (kas_sort ls.length) = true := by
  unfold sortLok at h
  simp only [Bool.and_eq_true, Bool.or_eq_true, decide_eq_true_eq] at h
  rcases h.2 with z | z
  · omega
  · exact z.1
theorem sortLx_ok {ls : List (List Int)} (h : sortLok ls = true) : (sortLx ls).length = ls.length ∧ ∀ i ∈ sortLx ls, i < ls.length := by
  unfold sortLx
  split
  · exact ⟨List.length_range, fun i h => List.mem_range.mp h⟩
  · unfold sortLok at h
    simp only [Bool.and_eq_true, Bool.or_eq_true, decide_eq_true_eq] at h
    rcases h.2 with z | z
    · omega
    · have := z.2
      unfold lfB at this
      simp only [Bool.and_eq_true, decide_eq_true_eq, List.all_eq_true] at this
      exact ⟨by rw [Array.length_toList]; exact this.1, this.2⟩
noncomputable def Lv (h : Heap) : List Value → List (List Int) → Prop
  | [], ps => ps = []
  | v :: vs, ps => ∃ p r, ps = p :: r ∧ LvOne h v p ∧ Lv h vs r
theorem Lv.length {h : Heap} : ∀ {vs : List Value} {ps : List (List Int)}, Lv h vs ps → vs.length = ps.length
  | [], _, e => by rw [show _ = [] from e]; rfl
  | v :: vs, _, e => by obtain ⟨p, r, rfl, _, t⟩ := e; rw [List.length_cons, List.length_cons, t.length]
theorem Lv.get {h : Heap} : ∀ {vs : List Value} {ps : List (List Int)} {i : Nat}, Lv h vs ps → i < ps.length → LvOne h (vs.getD i .none) (ps.getD i [])
  | [], _, i, e, hi => by rw [e] at hi; simp at hi
  | v :: vs, _, 0, e, hi => by obtain ⟨p, r, rfl, a, t⟩ := e; simpa using a
  | v :: vs, _, i + 1, e, hi => by
    obtain ⟨p, r, rfl, a, t⟩ := e
    simpa using t.get (i := i) (by simpa using hi)
theorem Lv.keeps {h h' : Heap} : ∀ {vs : List Value} {ps : List (List Int)}, (∀ b o, .ref b ∈ vs → h.get? b = some o → h'.get? b = some o) → Lv h vs ps → Lv h' vs ps
  | [], _, _, e => e
  | v :: vs, _, k, e => by
    obtain ⟨p, r, rfl, ⟨t, n, ws, e1, g, c⟩, z⟩ := e
    exact ⟨p, r, rfl, ⟨t, n, ws, e1, k _ _ (by rw [← e1]; exact List.mem_cons_self) g, c⟩, z.keeps fun b o m q => k b o (List.mem_cons_of_mem _ m) q⟩
theorem Lv.ty {M : Model} {h : Heap} : ∀ {vs : List Value} {ps : List (List Int)}, Lv h vs ps → ∀ v ∈ vs, Looks M h (typeOf v) (.type "list")
  | [], _, _, v, m => nomatch m
  | v :: vs, _, e, u, m => by
    obtain ⟨p, r, rfl, ⟨t, n, ws, rfl, g, c⟩, z⟩ := e
    rcases List.mem_cons.mp m with rfl | m
    · exact (Looks.ld g).andThen .now
    · exact z.ty u m
noncomputable def sortVl (vs : List Value) (ps : List (List Int)) : List Value := (sortLx ps).map fun i => vs.getD i .none
theorem sort_lists {a : Addr} {vs : List Value} {ps : List (List Int)} {n : Nat} {P : PySem.Fin → Shared → Prop} (ho : s.heap.get? a = some (seqObj "list" vs.toArray n)) (hu : A.units < cLine) (hna : ∀ v ∈ vs, v ≠ .ref a) (hv : Lv s.heap vs ps) (hok : sortLok ps = true)
    (h : P (.done (.ret .none)) { s with heap := sortedHeap s.heap a vs (sortVl vs ps).toArray }) : wpAny (model prog w) A (Builtin.«list.sort» ⟨[.ref a], []⟩) P E s := by
  have hl := hv.length
  obtain ⟨h5, hsz⟩ := lok_le hok
  have ha : a < s.heap.objs.size := Heap.lt_size ho
  rw [list_sort_plain]
  refine wpAny_bind (listItems_at ho rfl (wpAny_bind (listUpdate_at ho rfl ?_ (by rw [List.size_toArray, sizeLine_eq]; omega) (Nat.zero_le _))))
  obtain ⟨e1, ho1⟩ : ∃ e1, (s.heap.update a (Obj.mapSeq fun _ => (#[] : Array Value))).get? a = some (seqObj "list" #[] e1) := ⟨_, get?_update_seq ho fun _ => #[]⟩
  refine wpAny_bind (seqEpoch_at ho1 rfl (wpAny_bind (wpAny_newTuple ?_ (by show vs.length ≤ _; rw [sizeLine_eq]; omega))))
  refine wpAny_bind (wpAny_newList (wpAny_holding ?_) (Nat.zero_le _))
  show wpAny (model prog w) A _ P E { s with heap := ((s.heap.update a (Obj.mapSeq fun _ => (#[] : Array Value))).push (seqObj "tuple" vs.toArray 0)).push (seqObj "list" #[] 0) }
  dsimp only
  have kp : ∀ b o, .ref b ∈ vs → s.heap.get? b = some o → (((s.heap.update a (Obj.mapSeq fun _ => (#[] : Array Value))).push (seqObj "tuple" vs.toArray 0)).push (seqObj "list" #[] 0)).get? b = some o := fun b o m g => by
    have nb : b ≠ a := fun z => hna _ m (by rw [z])
    exact Heap.get?_push_of_some _ (Heap.get?_push_of_some _ ((Heap.get?_update_other _ _ (Ne.symm nb)).trans g))
  have ho6 : (((s.heap.update a (Obj.mapSeq fun _ => (#[] : Array Value))).push (seqObj "tuple" vs.toArray 0)).push (seqObj "list" #[] 0)).get? a = some (seqObj "list" #[] e1) := Heap.get?_push_of_some _ (Heap.get?_push_of_some _ ho1)
  have hv6 := hv.keeps kp
  generalize hH : ((s.heap.update a (Obj.mapSeq fun _ => (#[] : Array Value))).push (seqObj "tuple" vs.toArray 0)).push (seqObj "list" #[] 0) = H6 at ho6 hv6 ⊢
  have hq : P (.done (.ret .none)) { s with heap := H6.update a (Obj.mapSeq fun _ => (sortVl vs ps).toArray) } := by rw [← hH]; exact h
  have lz : (sortVl vs ps).length = ps.length := by unfold sortVl; rw [List.length_map]; exact (sortLx_ok hok).1
  by_cases h2 : vs.toArray.size < 2
  · rw [if_pos h2, if_pos h2]
    refine wpAny_bind (wpAny_pure ?_)
    rw [StateT.run_pure]
    refine wpAny_bind (wpAny_pure ?_)
    dsimp only
    have out : (arrOf (SortSt.mk' general' (vs.toArray.zip vs.toArray) #[] 7 none)).map (·.2) = (sortVl vs ps).toArray := by
      show (vs.toArray.zip vs.toArray).map (·.2) = _
      rw [List.size_toArray] at h2
      unfold sortVl sortLx
      rw [if_pos (by omega)]
      cases vs with
      | nil =>
        rw [← hl]
        simp
      | cons v r =>
        cases r with
        | nil =>
          rw [← hl]
          simp
        | cons v2 r => exact absurd h2 (by simp)
    rw [out]
    refine wpAny_bind (seqEpoch_at (s := { s with heap := H6 }) ho6 rfl (wpAny_bind (listUpdate_at (s := { s with heap := H6 }) ho6 rfl ?_ (Nat.zero_le _) (by rw [List.size_toArray, lz, sizeLine_eq]; omega))))
    simp only [bne_self_eq_false, Bool.false_eq_true, if_false]
    exact wpAny_pure hq
  · rw [if_neg h2, if_neg h2]
    rw [List.size_toArray] at h2
    refine wpAny_bind (kas_kind (s := { s with heap := H6 }) (T := .type "list") (by omega) (fun v hv => hv6.ty v hv) (by decide) (by decide) ?_)
    have hcmp : ∀ (i j : Nat) (C : Bool → Shared → Prop), i < ps.length → j < ps.length → C (ltI (ps.getD i []) (ps.getD j [])) { s with heap := H6 } → kas_ask prog w A oneType' vs i j C { s with heap := H6 } := fun i j C hi hj q => by
      exact lt_list (s := { s with heap := H6 }) hu (hv6.get hi) (hv6.get hj) (hsz i j hi hj) q
    refine wpAny_bind (wpAny_mono (kat_run (Q := fun st' s' => ∃ p : Array Nat, arrOf st' = p.map (kas_item (vs.toArray.zip vs.toArray)) ∧ failedOf st' = none ∧ p = kasEv (fun i j => ltI (ps.getD i []) (ps.getD j [])) (kas_sort ps.length) ∧ s' = { s with heap := H6 }) (G := fun p s' => p = kasEv (fun i j => ltI (ps.getD i []) (ps.getD j [])) (kas_sort ps.length) ∧ s' = { s with heap := H6 })
      rfl (by omega) (by omega) (fun p' st' s' a1 a2 a3 a4 => ⟨p', a2, a3, a4.1, a4.2⟩) ?_) ?_ fun _ _ e => e)
    · rw [hl]
      exact kas_on hcmp _ (lok_on hok (by omega)) ⟨rfl, rfl⟩
    · rintro ⟨⟨⟩, st'⟩ s' ⟨p, har, hf, hp, rfl⟩
      dsimp only
      have out : (arrOf st').map (·.2) = (sortVl vs ps).toArray := by
        rw [kat_snds rfl har, hp]
        unfold sortVl sortLx
        rw [if_neg (by omega)]
      rw [out]
      refine wpAny_bind (seqEpoch_at (s := { s with heap := H6 }) ho6 rfl (wpAny_bind (listUpdate_at (s := { s with heap := H6 }) ho6 rfl ?_ (Nat.zero_le _) (by rw [List.size_toArray, lz, sizeLine_eq]; omega))))
      rw [hf]
      simp only [bne_self_eq_false, Bool.false_eq_true, if_false]
      exact wpAny_pure hq
end
end L2
set_option Elab.async false
set_option linter.all false
set_option maxRecDepth 100000
set_option maxHeartbeats 4000000
namespace L2
open PySem PySem.Spec PyProof.Rows
section
variable {prog : Program} {w : World} {A : Around} {E : Value → Shared → Prop} {R : Result → Shared → Prop} {s : Shared} {I l : Addr} {fp wr : List Addr} {n : Nat} {P : Nat → Value → Prop} {St : Nat → Heap → Prop} {kw : List (Str × Value)} {xs : Array (Int × Tok)}
end
end L2
set_option Elab.async false
set_option linter.all false
set_option maxRecDepth 100000
set_option maxHeartbeats 4000000
namespace L2
open PySem PySem.Spec PyProof.Rows
inductive D where
  | non | bl (b : Bool) | int (i : Int) | str (x : Str) | tup (ds : List D) | rol (ds : List D) | ref (a : Addr)
  | obj (i : Nat) (C : Addr) (ns : List Nat) (ds : List D) | dik (ks : List Key) (ds : List D) | dit (ks : List (List Int)) (ds : List D)
noncomputable def fnmL : Nat → Nat → List Nat
  | 0, _ => []
  | k + 1, n => if n = 0 then [] else (n % 128) :: fnmL k (n / 128)
noncomputable def fnm (n : Nat) : Str := ⟨(fnmL n n).toArray⟩
noncomputable def tH (k : List Int) : Int := reduceHash (Builtin.Tuple.tupleHashOf (k.map hashInt))
noncomputable def tabT (a : Addr) (xs : List (List Int × Addr × Value)) : Heap → Prop := fun h => ∃ o es ep, h.get? a = some o ∧ o.ExactDict ∧ o.data = .dict es ep ∧ es.toList = xs.map fun x => (⟨tH x.1, .ref x.2.1, x.2.2⟩ : DictEntry)
structure TabOk (K : PySem.W.Frag) (H : Hp) (a : Addr) (ks : List (List Int)) (xs : List (List Int × Addr × Value)) (vs : List V) : Prop where
  kx : xs.map (·.1) = ks
  nd : ks.Nodup
  sz : ks.length ≤ sizeLine
  no : (a == sysModules) = false
  vx : Vals vs (xs.map (·.2.2))
  at_ : ∀ x ∈ xs, SqT K H x.2.1 (x.1.map V.int)
noncomputable def SqM (K : PySem.W.Frag) (a : Addr) (xs : List V) : Prop := ∃ (its : List Value) (n : Nat), K.lookup a = some { cls := .type "list", data := .seq its.toArray n } ∧ its.length ≤ sizeLine ∧ Vals xs its
noncomputable def SqF (K : PySem.W.Frag) (H : Hp) (a : Addr) (xs : List V) : Prop := (∃ o, H a = some (.frz o (.lst xs))) ∨ SqM K a xs
theorem SqM.sq {K : PySem.W.Frag} {H : Hp} {a : Addr} {xs : List V} (h : SqM K a xs) : SqL K H a xs := by
  obtain ⟨its, n, e, z, r⟩ := h
  exact .inr ⟨_, its.toArray, n, e, rfl, rfl, rfl, by simpa using z, by simpa using r⟩
theorem SqF.sq {K : PySem.W.Frag} {H : Hp} {a : Addr} {xs : List V} (h : SqF K H a xs) : SqL K H a xs := by
  rcases h with h | h
  · exact .inl (.inr h)
  · exact h.sq
mutual
noncomputable def Den (K : PySem.W.Frag) (H : Hp) : D → V → Prop
  | .non, v => v = .non
  | .bl b, v => v = .bl b
  | .int i, v => v = .int i
  | .str x, v => v = .str x
  | .tup ds, v => ∃ p vs, v = .ref p ∧ SqT K H p vs ∧ DenL K H ds vs
  | .rol ds, v => ∃ p vs, v = .ref p ∧ SqF K H p vs ∧ DenL K H ds vs
  | .ref a, v => v = .ref a
  | .obj _ C ns ds, v => ∃ p vs o dx, v = .ref p ∧ H p = some (.frz o (.ins C dx ((ns.map fnm).zip vs))) ∧ ns.length = vs.length ∧ DenL K H ds vs
  | .dik ks ds, v => ∃ p vs o, v = .ref p ∧ H p = some (.frz o (.dK (ks.zip vs))) ∧ ks.length = vs.length ∧ DenL K H ds vs
  | .dit ks ds, v => ∃ p vs o xs, v = .ref p ∧ H p = some (.frz o (.ext (tabT p xs))) ∧ TabOk K H p ks xs vs ∧ DenL K H ds vs
noncomputable def DenL (K : PySem.W.Frag) (H : Hp) : List D → List V → Prop
  | [], vs => vs = []
  | d :: ds, vs => ∃ v r, vs = v :: r ∧ Den K H d v ∧ DenL K H ds r
end
structure TM (K : PySem.W.Frag) (H H' : Hp) : Prop where
  t : ∀ p xs, SqT K H p xs → SqT K H' p xs
  f : ∀ p xs, SqF K H p xs → SqF K H' p xs
  g : ∀ p o u, H p = some (.frz o u) → H' p = some (.frz o u)
theorem TM.refl {K : PySem.W.Frag} (H : Hp) : TM K H H := ⟨fun _ _ h => h, fun _ _ h => h, fun _ _ _ h => h⟩
theorem TM.trans {K : PySem.W.Frag} {H H1 H2 : Hp} (a : TM K H H1) (b : TM K H1 H2) : TM K H H2 := ⟨fun p xs h => b.t p xs (a.t p xs h), fun p xs h => b.f p xs (a.f p xs h), fun p o u h => b.g p o u (a.g p o u h)⟩
theorem TM.un {K : PySem.W.Frag} {H H' : Hp} (t : ∀ b xs, H b = some (.tup xs) → H' b = some (.tup xs)) (f : ∀ b o u, H b = some (.frz o u) → H' b = some (.frz o u)) : TM K H H' := ⟨fun q xs h => by
  rcases h with (h | ⟨ob, h⟩) | h
  · exact .inl (.inl (t _ _ h))
  · exact .inl (.inr ⟨ob, f _ _ _ h⟩)
  · exact .inr h, fun q xs h => by
  rcases h with ⟨ob, h⟩ | h
  · exact .inl ⟨ob, f _ _ _ h⟩
  · exact .inr h, f⟩
theorem TM.new {K : PySem.W.Frag} {H : Hp} {p : Addr} {o : HO} (hp : H p = none) : TM K H (upd H p o) :=
  .un (fun b xs h => by rw [upd_ne (ne_of_none h hp)]; exact h) fun b ob u h => by rw [upd_ne (ne_of_none h hp)]; exact h
theorem TM.put {K : PySem.W.Frag} {H : Hp} {p : Addr} {o u : HO} (hp : H p = some u) (h1 : ∀ xs, u ≠ .tup xs) (h2 : ∀ ob v, u ≠ .frz ob v) : TM K H (upd H p o) :=
  .un (fun b xs h => by rw [upd_ne (ne_of h hp fun z => h1 _ z.symm)]; exact h) fun b ob u h => by rw [upd_ne (ne_of h hp fun z => h2 _ _ z.symm)]; exact h
section
variable {K : PySem.W.Frag} {H H' : Hp}
mutual
theorem Den.mono (t : TM K H H') : ∀ {d : D} {v : V}, Den K H d v → Den K H' d v
  | .non, _, h => h
  | .bl _, _, h => h
  | .int _, _, h => h
  | .str _, _, h => h
  | .ref _, _, h => h
  | .tup ds, v, h => by
    obtain ⟨p, vs, e, s, l⟩ := h
    exact ⟨p, vs, e, t.t _ _ s, DenL.mono t l⟩
  | .rol ds, v, h => by
    obtain ⟨p, vs, e, s, l⟩ := h
    exact ⟨p, vs, e, t.f _ _ s, DenL.mono t l⟩
  | .obj i C ns ds, v, h => by
    obtain ⟨p, vs, o, dx, e, s, z, l⟩ := h
    exact ⟨p, vs, o, dx, e, t.g _ _ _ s, z, DenL.mono t l⟩
  | .dik ks ds, v, h => by
    obtain ⟨p, vs, o, e, s, z, l⟩ := h
    exact ⟨p, vs, o, e, t.g _ _ _ s, z, DenL.mono t l⟩
  | .dit ks ds, v, h => by
    obtain ⟨p, vs, o, xs, e, s, z, l⟩ := h
    exact ⟨p, vs, o, xs, e, t.g _ _ _ s, ⟨z.kx, z.nd, z.sz, z.no, z.vx, fun x hx => t.t _ _ (z.at_ x hx)⟩, DenL.mono t l⟩
theorem DenL.mono (t : TM K H H') : ∀ {ds : List D} {vs : List V}, DenL K H ds vs → DenL K H' ds vs
  | [], _, h => h
  | d :: ds, vs, h => by
    obtain ⟨v, r, e, a, b⟩ := h
    exact ⟨v, r, e, Den.mono t a, DenL.mono t b⟩
end
theorem DenL.length : ∀ {ds : List D} {vs : List V}, DenL K H ds vs → ds.length = vs.length
  | [], _, h => by cases h; rfl
  | d :: ds, vs, h => by
    obtain ⟨v, r, rfl, _, b⟩ := h
    rw [List.length_cons, List.length_cons, DenL.length b]
theorem DenL.get : ∀ {ds : List D} {vs : List V} {i : Nat} {d : D}, DenL K H ds vs → ds[i]? = some d → ∃ v, vs[i]? = some v ∧ Den K H d v
  | [], _, _, _, _, e => by simp at e
  | d :: ds, vs, 0, d', h, e => by
    obtain ⟨v, r, rfl, a, b⟩ := h
    simp at e; subst e
    exact ⟨v, rfl, a⟩
  | d :: ds, vs, i + 1, d', h, e => by
    obtain ⟨v, r, rfl, a, b⟩ := h
    obtain ⟨u, e1, e2⟩ := DenL.get (i := i) b (by simpa using e)
    exact ⟨u, by simpa using e1, e2⟩
theorem DenL.get' : ∀ {ds : List D} {vs : List V} {i : Nat} {v : V}, DenL K H ds vs → vs[i]? = some v → ∃ d, ds[i]? = some d ∧ Den K H d v
  | [], _, _, _, h, e => by cases h; simp at e
  | d :: ds, vs, 0, v', h, e => by
    obtain ⟨v, r, rfl, a, b⟩ := h
    simp at e; subst e
    exact ⟨d, rfl, a⟩
  | d :: ds, vs, i + 1, v', h, e => by
    obtain ⟨v, r, rfl, a, b⟩ := h
    obtain ⟨u, e1, e2⟩ := DenL.get' (i := i) b (by simpa using e)
    exact ⟨u, by simpa using e1, e2⟩
theorem DenL.append : ∀ {ds es : List D} {vs ws : List V}, DenL K H ds vs → DenL K H es ws → DenL K H (ds ++ es) (vs ++ ws)
  | [], _, _, _, h, g => by cases h; exact g
  | d :: ds, _, _, _, h, g => by
    obtain ⟨v, r, rfl, a, b⟩ := h
    exact ⟨v, r ++ _, rfl, a, DenL.append b g⟩
theorem DenL.nil : DenL K H [] [] := rfl
theorem DenL.cons {d : D} {v : V} {ds : List D} {vs : List V} (a : Den K H d v) (b : DenL K H ds vs) : DenL K H (d :: ds) (v :: vs) := ⟨v, vs, rfl, a, b⟩
theorem DenL.one {d : D} {v : V} (a : Den K H d v) : DenL K H [d] [v] := .cons a .nil
theorem DenL.take : ∀ {ds : List D} {vs : List V} (n : Nat), DenL K H ds vs → DenL K H (ds.take n) (vs.take n)
  | _, _, 0, _ => rfl
  | [], _, n + 1, h => by cases h; rfl
  | d :: ds, _, n + 1, h => by
    obtain ⟨v, r, rfl, a, b⟩ := h
    exact ⟨v, r.take n, rfl, a, DenL.take n b⟩
theorem DenL.drop : ∀ {ds : List D} {vs : List V} (n : Nat), DenL K H ds vs → DenL K H (ds.drop n) (vs.drop n)
  | _, _, 0, h => h
  | [], _, n + 1, h => by cases h; rfl
  | d :: ds, _, n + 1, h => by
    obtain ⟨v, r, rfl, a, b⟩ := h
    exact DenL.drop n b
theorem DenL.reverse : ∀ {ds : List D} {vs : List V}, DenL K H ds vs → DenL K H ds.reverse vs.reverse
  | [], _, h => by cases h; rfl
  | d :: ds, _, h => by
    obtain ⟨v, r, rfl, a, b⟩ := h
    rw [List.reverse_cons, List.reverse_cons]
    exact (DenL.reverse b).append (.one a)
theorem DenL.set {d : D} {v : V} (a : Den K H d v) : ∀ {ds : List D} {vs : List V} (i : Nat), DenL K H ds vs → DenL K H (ds.set i d) (vs.set i v)
  | [], _, _, h => by cases h; rfl
  | _ :: ds, _, 0, h => by
    obtain ⟨_, r, rfl, _, b⟩ := h
    exact ⟨v, r, rfl, a, b⟩
  | e :: ds, _, i + 1, h => by
    obtain ⟨u, r, rfl, c, b⟩ := h
    exact ⟨u, _, rfl, c, DenL.set a i b⟩
theorem DenL.of_int : ∀ {ns : List Int}, DenL K H (ns.map D.int) (ns.map V.int)
  | [] => rfl
  | n :: ns => ⟨.int n, ns.map V.int, rfl, rfl, DenL.of_int⟩
end
structure XE where
  c : Nat
  pl : Option (Nat × D)
noncomputable def XD (K : PySem.W.Frag) (H : Hp) (i : XE) (dx : Option Addr) : Prop := match i.pl with
  | none => dx = none
  | some (f, y) => ∃ p o v, dx = some p ∧ H p = some (.frz o (.xd [(fnm f, v)])) ∧ Den K H y v
theorem XD.mono {K : PySem.W.Frag} {H H' : Hp} {i : XE} {dx : Option Addr} (t : TM K H H') (h : XD K H i dx) : XD K H' i dx := by
  obtain ⟨c, pl⟩ := i
  cases pl with
  | none => exact h
  | some q =>
    obtain ⟨p, o, v, e, g, d⟩ := h
    exact ⟨p, o, v, e, t.g _ _ _ g, d.mono t⟩
inductive DO where
  | lst (ds : List D)
  | dk (ks : List Key) (ds : List D)
  | dt (ks : List (List Int)) (ds : List D)
  | ins (i : Nat) (C : Addr) (ns : List Nat) (ds : List D)
  | exc (i : XE) (cls : Value)
  | stl (φ : Heap → Prop)
noncomputable abbrev MH := Addr → Option DO
noncomputable def put (M : MH) (a : Addr) (o : DO) : MH := fun b => if b = a then some o else M b
theorem put_same {M : MH} {a : Addr} {o : DO} : put M a o a = some o := if_pos rfl
theorem put_ne {M : MH} {a b : Addr} {o : DO} (h : b ≠ a) : put M a o b = M b := if_neg h
theorem put_put {M : MH} {a : Addr} {o u : DO} : put (put M a o) a u = put M a u := by
  funext b; unfold put; split <;> rfl
noncomputable def OD (K : PySem.W.Frag) (H : Hp) (a : Addr) : DO → Prop
  | .lst ds => ∃ vs, H a = some (.lst vs) ∧ DenL K H ds vs
  | .dk ks ds => ∃ vs, H a = some (.dK (ks.zip vs)) ∧ ks.length = vs.length ∧ DenL K H ds vs
  | .dt ks ds => ∃ vs xs, H a = some (.ext (tabT a xs)) ∧ TabOk K H a ks xs vs ∧ DenL K H ds vs
  | .ins _ C ns ds => ∃ dx vs, H a = some (.ins C dx ((ns.map fnm).zip vs)) ∧ ns.length = vs.length ∧ DenL K H ds vs
  | .exc i cls => ∃ dx, H a = some (excO a cls dx) ∧ XD K H i dx
  | .stl φ => H a = some (.ext φ)
noncomputable def RelM (K : PySem.W.Frag) (M : MH) (H : Hp) : Prop := ∀ a o, M a = some o → OD K H a o
noncomputable abbrev St3 := List (Option D)
noncomputable def DenS (K : PySem.W.Frag) (H : Hp) (σ3 : St3) (σ : St) : Prop := σ3.length = σ.length ∧ ∀ (i : Nat) (d : D), σ3[i]? = some (some d) → ∃ v, σ[i]? = some (some v) ∧ Den K H d v
section
variable {K : PySem.W.Frag} {H H' : Hp} {M M' : MH}
theorem OD.tracked {a : Addr} {o : DO} (h : OD K H a o) : ∃ u, H a = some u := by
  cases o with
  | lst ds => obtain ⟨_, e, _⟩ := h; exact ⟨_, e⟩
  | dk ks ds => obtain ⟨_, e, _⟩ := h; exact ⟨_, e⟩
  | dt ks ds => obtain ⟨_, _, e, _⟩ := h; exact ⟨_, e⟩
  | ins i C ns ds => obtain ⟨_, _, e, _⟩ := h; exact ⟨_, e⟩
  | exc i cls => obtain ⟨_, e, _⟩ := h; exact ⟨_, e⟩
  | stl φ => exact ⟨_, h⟩
theorem RelM.fresh (r : RelM K M H) {p : Addr} (hp : H p = none) : M p = none := by
  cases e : M p with
  | none => rfl
  | some o =>
    obtain ⟨u, z⟩ := (r p o e).tracked
    rw [hp] at z; cases z
theorem OD.stay {a : Addr} {o : DO} (t : TM K H H') (e : H' a = H a) (h : OD K H a o) : OD K H' a o := by
  cases o with
  | lst ds => obtain ⟨vs, q, l⟩ := h; exact ⟨vs, e.trans q, l.mono t⟩
  | dk ks ds => obtain ⟨vs, q, n, l⟩ := h; exact ⟨vs, e.trans q, n, l.mono t⟩
  | dt ks ds => obtain ⟨vs, xs, q, z, l⟩ := h; exact ⟨vs, xs, e.trans q, ⟨z.kx, z.nd, z.sz, z.no, z.vx, fun x hx => t.t _ _ (z.at_ x hx)⟩, l.mono t⟩
  | ins i C ns ds => obtain ⟨dx, vs, q, n, l⟩ := h; exact ⟨dx, vs, e.trans q, n, l.mono t⟩
  | exc i cls => obtain ⟨dx, q, x⟩ := h; exact ⟨dx, e.trans q, x.mono t⟩
  | stl φ => exact e.trans h
theorem RelM.grow (r : RelM K M H) {p : Addr} {o : HO} (hp : H p = none) : RelM K M (upd H p o) := fun a u e => by
  obtain ⟨x, z⟩ := (r a u e).tracked
  exact (r a u e).stay (.new hp) (upd_ne (ne_of_none z hp))
theorem RelM.lay (r : RelM K M H) {p : Addr} {o : HO} {u : DO} (hp : H p = none) (h : OD K (upd H p o) p u) : RelM K (put M p u) (upd H p o) := fun a x e => by
  by_cases ha : a = p
  · subst ha; rw [put_same] at e; cases e; exact h
  · rw [put_ne ha] at e; exact r.grow hp a x e
theorem RelM.write (r : RelM K M H) {p : Addr} {o w : HO} {u : DO} (hp : H p = some w) (h1 : ∀ xs, w ≠ .tup xs) (h2 : ∀ ob v, w ≠ .frz ob v) (h : OD K (upd H p o) p u) : RelM K (put M p u) (upd H p o) := fun a x e => by
  by_cases ha : a = p
  · subst ha; rw [put_same] at e; cases e; exact h
  · rw [put_ne ha] at e
    exact (r a x e).stay (.put hp h1 h2) (upd_ne ha)
noncomputable def Sub (M' M : MH) : Prop := ∀ a o, M' a = some o → M a = some o
theorem Sub.put {p : Addr} {u : DO} (s : Sub M' M) (h : M' p = none) : Sub M' (put M p u) := fun a o e => by
  rw [put_ne fun z => by rw [z, h] at e; cases e]
  exact s a o e
theorem RelM.sub (r : RelM K M H) (s : Sub M' M) : RelM K M' H := fun a o e => r a o (s a o e)
theorem DenS.mono {σ3 : St3} {σ : St} (t : TM K H H') (h : DenS K H σ3 σ) : DenS K H' σ3 σ := ⟨h.1, fun i d e => let ⟨v, e1, e2⟩ := h.2 i d e; ⟨v, e1, e2.mono t⟩⟩
theorem DenS.set {σ3 : St3} {σ : St} {i : Nat} {d : D} {v : V} (h : DenS K H σ3 σ) (e : Den K H d v) : DenS K H (σ3.set i (some d)) (σ.set i (some v)) := by
  refine ⟨by rw [List.length_set, List.length_set]; exact h.1, fun j d' q => ?_⟩
  by_cases hj : i = j
  · subst hj
    rw [List.getElem?_set] at q ⊢
    rw [if_pos rfl] at q ⊢
    rw [← h.1]
    split at q
    next hl =>
      cases q
      exact ⟨v, if_pos hl, e⟩
    next => cases q
  · rw [List.getElem?_set_ne hj] at q ⊢
    exact h.2 j d' q
theorem DenS.drop {σ3 : St3} {σ : St} {i : Nat} (h : DenS K H σ3 σ) : DenS K H (σ3.set i none) (σ.set i none) := by
  refine ⟨by rw [List.length_set, List.length_set]; exact h.1, fun j d' q => ?_⟩
  by_cases hj : i = j
  · subst hj
    rw [List.getElem?_set, if_pos rfl] at q
    split at q <;> cases q
  · rw [List.getElem?_set_ne hj] at q ⊢
    exact h.2 j d' q
theorem denS_start {N : List Str} {ds : List D} {vs : List V} (h : DenL K H ds vs) : DenS K H (ds.map some ++ List.replicate (N.length - ds.length) none) (start N vs) := by
  have hl := h.length
  refine ⟨by unfold start; simp [hl], fun i d e => ?_⟩
  by_cases hi : i < ds.length
  · rw [List.getElem?_append_left (by simpa using hi), List.getElem?_map] at e
    have e' : ds[i]? = some d := by
      cases q : ds[i]? with
      | none => rw [q] at e; cases e
      | some x => rw [q] at e; cases e; rfl
    obtain ⟨v, e1, e2⟩ := h.get e'
    refine ⟨v, ?_, e2⟩
    unfold start
    rw [List.getElem?_append_left (by simpa [← hl] using hi), List.getElem?_map, e1]
    rfl
  · rw [List.getElem?_append_right (by simpa using hi), List.getElem?_replicate] at e
    split at e <;> cases e
end
noncomputable abbrev VK3 := D → MH → Prop
noncomputable abbrev TE3 := St3 → MH → VK3 → Prop
noncomputable abbrev TT3 := St3 → MH → (Bool → MH → Prop) → Prop
noncomputable abbrev TA3 := St3 → MH → (List D → MH → Prop) → Prop
structure Ends3 where
  nx : St3 → MH → Prop
  rt : VK3
  bk : St3 → MH → Prop := fun _ _ => False
  ct : St3 → MH → Prop := fun _ _ => False
noncomputable abbrev TS3 := Ends3 → St3 → MH → Prop
structure ER (K : PySem.W.Frag) (H : Hp) (D3 : Ends3) (D2 : Ends) : Prop where
  nx : ∀ σ' H' σ3' M', RelM K M' H' → DenS K H' σ3' σ' → TM K H H' → D3.nx σ3' M' → D2.nx σ' H'
  rt : ∀ v H' d M', Den K H' d v → RelM K M' H' → TM K H H' → D3.rt d M' → D2.rt v H'
  bk : ∀ σ' H' σ3' M', RelM K M' H' → DenS K H' σ3' σ' → TM K H H' → D3.bk σ3' M' → D2.bk σ' H'
  ct : ∀ σ' H' σ3' M', RelM K M' H' → DenS K H' σ3' σ' → TM K H H' → D3.ct σ3' M' → D2.ct σ' H'
theorem ER.mono {K : PySem.W.Frag} {H H1 : Hp} {D3 : Ends3} {D2 : Ends} (r : ER K H D3 D2) (t : TM K H H1) : ER K H1 D3 D2 :=
  ⟨fun a b c d h1 h2 h3 h4 => r.nx a b c d h1 h2 (t.trans h3) h4, fun a b c d h1 h2 h3 h4 => r.rt a b c d h1 h2 (t.trans h3) h4, fun a b c d h1 h2 h3 h4 => r.bk a b c d h1 h2 (t.trans h3) h4, fun a b c d h1 h2 h3 h4 => r.ct a b c d h1 h2 (t.trans h3) h4⟩
end L2
set_option Elab.async false
set_option linter.all false
set_option maxRecDepth 100000
set_option maxHeartbeats 4000000
namespace L2
open PySem PySem.Spec PyProof.Rows
section
variable {K : PySem.W.Frag} {H : Hp}
theorem den_int {i : Int} : Den K H (.int i) (.int i) := rfl
theorem den_bl {b : Bool} : Den K H (.bl b) (.bl b) := rfl
theorem den_str {x : Str} : Den K H (.str x) (.str x) := rfl
theorem den_none : Den K H .non .non := rfl
theorem den_ref {a : Addr} : Den K H (.ref a) (.ref a) := rfl
end
noncomputable abbrev R3 := D → D → MH → VK3 → Prop
noncomputable abbrev Back (K : PySem.W.Frag) (H : Hp) (Q : VK3) (Q2 : VK) : Prop := ∀ v H' d M', Den K H' d v → RelM K M' H' → TM K H H' → Q d M' → Q2 v H'
noncomputable def Op3 (X : Cx) (f : Value → Value → Sem Value) (r3 : R3) : Prop := ∃ r2, OpR X f r2 ∧ ∀ (H : Hp) (x y : D) (v u : V) (M : MH) (Q : VK3) (Q2 : VK), Den X.K H x v → Den X.K H y u → RelM X.K M H → r3 x y M Q → Back X.K H Q Q2 → r2 v u H Q2
noncomputable def Un3 (X : Cx) (f : Value → Sem Value) (r3 : D → MH → VK3 → Prop) : Prop := ∃ r2, UnR X f r2 ∧ ∀ (H : Hp) (x : D) (v : V) (M : MH) (Q : VK3) (Q2 : VK), Den X.K H x v → RelM X.K M H → r3 x M Q → Back X.K H Q Q2 → r2 v H Q2
noncomputable def Call3 (X : Cx) (f : Value) (r3 : List D → MH → VK3 → Prop) : Prop := ∃ r2, CallR X f r2 ∧ ∀ (H : Hp) (xs : List D) (vs : List V) (M : MH) (Q : VK3) (Q2 : VK), DenL X.K H xs vs → RelM X.K M H → r3 xs M Q → Back X.K H Q Q2 → r2 vs H Q2
noncomputable def rI3 (C : Int → Int → Prop) (g : Int → Int → D) : R3 := fun x y M Q => ∃ i j, x = .int i ∧ y = .int j ∧ C i j ∧ Q (g i j) M
section
variable {X : Cx} {a b c e : Expr} {ta tb tc te : TE3} {pos : Pos}
variable {tA tB' : TT3} {rest : List Expr}
variable {es : List Expr} {t : TA3}
theorem atI_den {K : PySem.W.Frag} {H : Hp} {ds : List D} {vs : List V} {i : Int} {d : D} (h : DenL K H ds vs) (e : atI ds i = some d) : ∃ v, atI vs i = some v ∧ Den K H d v := by
  unfold atI at e ⊢
  rw [← h.length]
  cases q : ixN ds.length i with
  | none => rw [q] at e; cases e
  | some j =>
    rw [q] at e
    obtain ⟨v, e1, e2⟩ := h.get (show ds[j]? = some d from e)
    exact ⟨v, e1, e2⟩
noncomputable def Is (M : MH) (x : D) (ds : List D) : Prop := x = .rol ds ∨ ∃ a, x = .ref a ∧ M a = some (.lst ds)
theorem RelM.list {K : PySem.W.Frag} {M : MH} {H : Hp} {x : D} {v : V} {ds : List D} (rm : RelM K M H) (h : Is M x ds) (dv : Den K H x v) : ∃ p vs, v = .ref p ∧ SqL K H p vs ∧ DenL K H ds vs := by
  rcases h with rfl | ⟨a, rfl, h⟩
  · obtain ⟨p, vs, e, s, l⟩ := dv
    exact ⟨p, vs, e, s.sq, l⟩
  · obtain ⟨vs, e, l⟩ := rm a _ h
    exact ⟨a, vs, dv, .of e, l⟩
noncomputable def isIB : V → D → Prop := fun v d => (∃ i, v = .int i ∧ d = .int i) ∨ (∃ b, v = .bl b ∧ d = .bl b)
theorem isIB.den {K : PySem.W.Frag} {H : Hp} {v : V} {d : D} (h : isIB v d) : Den K H d v := by
  rcases h with ⟨i, rfl, rfl⟩ | ⟨b, rfl, rfl⟩ <;> rfl
theorem op3_rI {f : Value → Value → Sem Value} {C : Int → Int → Prop} {g : Int → Int → V} {g3 : Int → Int → D} (h : OpR X f (rI C g)) (hg : ∀ i j, isIB (g i j) (g3 i j)) : Op3 X f (rI3 C g3) :=
  ⟨_, h, fun H x y v u M Q Q2 dx dy rm ⟨i, j, e1, e2, hc, q⟩ k => by
    subst e1; subst e2
    cases (show v = .int i from dx)
    cases (show u = .int j from dy)
    exact ⟨i, j, rfl, rfl, hc, k _ H _ M (hg i j).den rm (.refl _) q⟩⟩
noncomputable def rI30 (g : Int → Int → D) : R3 := fun x y M Q => ∃ i j, x = .int i ∧ y = .int j ∧ Q (g i j) M
theorem op3_rI0 {f : Value → Value → Sem Value} {g : Int → Int → V} {g3 : Int → Int → D} (h : OpR X f (rI0 g)) (hg : ∀ i j, isIB (g i j) (g3 i j)) : Op3 X f (rI30 g3) :=
  ⟨_, h, fun H x y v u M Q Q2 dx dy rm ⟨i, j, e1, e2, q⟩ k => by
    subst e1; subst e2
    cases (show v = .int i from dx)
    cases (show u = .int j from dy)
    exact ⟨i, j, rfl, rfl, k _ H _ M (hg i j).den rm (.refl _) q⟩⟩
noncomputable def big : Nat := 2 ^ 4096
theorem lt_big {n : Nat} (h : n < 10 ^ 250) : n < big := Nat.lt_of_lt_of_le h (by decide +kernel)
noncomputable def CMulB (i j : Int) : Prop := (i.natAbs < big ∧ j.natAbs < big)
theorem intBits_big {k : Int} (h : k.natAbs < big) : Builtin.Int.intBits k ≤ 2 ^ 20 := by
  unfold Builtin.Int.intBits
  by_cases h0 : k.natAbs = 0
  · have : k = 0 := by omega
    subst this
    decide
  · have h30 : k.natAbs.log2 < 4096 := (Nat.log2_lt h0).mpr h
    split <;> omega
theorem op_mulB : OpR X (binaryOp .Mult) (rI CMulB fun i j => .int (i * j)) := opI fun _ _ _ _ _ _ _ hc q => mul_int q (.of_bits (intBits_big hc.1) (intBits_big hc.2))
noncomputable def CDivB (_ j : Int) : Prop := 0 < j ∧ j.toNat < big
theorem op_fdivB : OpR X (binaryOp .FloorDiv) (rI CDivB fun i j => .int (i / j)) := opI fun i j _ _ _ _ _ hc q => by
  have h1 : (0 : Int) < j := hc.1
  have h2 : j.toNat < big := hc.2
  refine floordiv_int (by omega) (by rw [Int.fdiv_eq_ediv_of_nonneg i (by omega)]; exact q) (.inl (PyProof.noPylong_of_log2 ?_))
  have h3 : j.natAbs < 2 ^ 4096 := by
    have e : j.natAbs = j.toNat := by omega
    rw [e]; exact h2
  have h0 : j.natAbs ≠ 0 := by omega
  have := (Nat.log2_lt h0).mpr h3
  omega
theorem i_add : Op3 X (binaryOp .Add) (rI30 fun i j => .int (i + j)) := op3_rI0 op_add fun _ _ => .inl ⟨_, rfl, rfl⟩
theorem i_sub : Op3 X (binaryOp .Sub) (rI30 fun i j => .int (i - j)) := op3_rI0 op_sub fun _ _ => .inl ⟨_, rfl, rfl⟩
theorem i_mul : Op3 X (binaryOp .Mult) (rI3 CMulB fun i j => .int (i * j)) := op3_rI op_mulB fun _ _ => .inl ⟨_, rfl, rfl⟩
theorem i_fdiv : Op3 X (binaryOp .FloorDiv) (rI3 CDivB fun i j => .int (i / j)) := op3_rI op_fdivB fun _ _ => .inl ⟨_, rfl, rfl⟩
theorem i_mod : Op3 X (binaryOp .Mod) (rI3 (fun _ j => 0 < j) fun i j => .int (i % j)) := op3_rI op_mod fun _ _ => .inl ⟨_, rfl, rfl⟩
theorem i_pow : Op3 X (binaryOp .Pow) (rI3 CPow fun i j => .int (i ^ j.toNat)) := op3_rI op_pow fun _ _ => .inl ⟨_, rfl, rfl⟩
theorem i_shr : Op3 X (binaryOp .RShift) (rI3 (fun _ j => 0 ≤ j) fun i j => .int (i / 2 ^ j.toNat)) := op3_rI op_shr fun _ _ => .inl ⟨_, rfl, rfl⟩
theorem i_and : Op3 X (binaryOp .BitAnd) (rI30 fun i j => .int (Builtin.bitAnd i j)) := op3_rI0 op_and fun _ _ => .inl ⟨_, rfl, rfl⟩
theorem i_lt : Op3 X (compareOp .Lt) (rI30 fun i j => .bl (decide (i < j))) := op3_rI0 op_lt fun _ _ => .inr ⟨_, rfl, rfl⟩
theorem i_le : Op3 X (compareOp .LtE) (rI30 fun i j => .bl (decide (i ≤ j))) := op3_rI0 op_le fun _ _ => .inr ⟨_, rfl, rfl⟩
theorem i_gt : Op3 X (compareOp .Gt) (rI30 fun i j => .bl (decide (j < i))) := op3_rI0 op_gt fun _ _ => .inr ⟨_, rfl, rfl⟩
theorem i_ge : Op3 X (compareOp .GtE) (rI30 fun i j => .bl (decide (j ≤ i))) := op3_rI0 op_ge fun _ _ => .inr ⟨_, rfl, rfl⟩
noncomputable def rU3 (g : Int → Int) : D → MH → VK3 → Prop := fun x M Q => ∃ i, x = .int i ∧ Q (.int (g i)) M
theorem i_neg : Un3 X (unaryOp .USub) (rU3 fun i => -i) := ⟨_, un_neg, fun H x v M Q Q2 dx rm ⟨i, e, q⟩ k => by
  subst e
  cases (show v = .int i from dx)
  exact ⟨i, rfl, k _ H _ M den_int rm (.refl _) q⟩⟩
noncomputable def D.isN : D → Bool
  | .non => true
  | _ => false
theorem den_non {K : PySem.W.Frag} {H : Hp} {d : D} {v : V} (h : Den K H d v) : decide (v = .non) = d.isN := by
  cases d with
  | non => cases (show v = .non from h); rfl
  | bl b => cases (show v = .bl b from h); rfl
  | int i => cases (show v = .int i from h); rfl
  | str x => cases (show v = .str x from h); rfl
  | tup ds => obtain ⟨p, vs, rfl, _⟩ := h; rfl
  | rol ds => obtain ⟨p, vs, rfl, _⟩ := h; rfl
  | ref a => cases (show v = .ref a from h); rfl
  | obj i C ns ds => obtain ⟨p, vs, _, _, rfl, _⟩ := h; rfl
  | dik ks ds => obtain ⟨p, vs, _, rfl, _⟩ := h; rfl
  | dit ks ds => obtain ⟨p, vs, _, _, rfl, _⟩ := h; rfl
noncomputable def rIs3 : R3 := fun x y M Q => y = .non ∧ Q (.bl x.isN) M
noncomputable def rIsN3 : R3 := fun x y M Q => y = .non ∧ Q (.bl (!x.isN)) M
theorem i_is : Op3 X (compareOp .Is) rIs3 := ⟨_, op_isN, fun H x y v u M Q Q2 dx dy rm ⟨e, q⟩ k => by
  subst e
  refine ⟨dy, ?_⟩
  rw [den_non dx]
  exact k _ H _ M den_bl rm (.refl _) q⟩
theorem i_isnot : Op3 X (compareOp .IsNot) rIsN3 := ⟨_, op_notN, fun H x y v u M Q Q2 dx dy rm ⟨e, q⟩ k => by
  subst e
  refine ⟨dy, ?_⟩
  rw [den_non dx]
  exact k _ H _ M den_bl rm (.refl _) q⟩
variable {x : Str} {p : Pos} {id T : String} {r3 : List D → MH → VK3 → Prop}
noncomputable def rLen3 : List D → MH → VK3 → Prop := fun xs M Q => ∃ x ds, xs = [x] ∧ (Is M x ds ∨ x = .tup ds) ∧ Q (.int ds.length) M
theorem b_len : Call3 X (.builtin "len") rLen3 := ⟨_, call_len_seq, fun H xs vs M Q Q2 dl rm ⟨x, ds, e, h, q⟩ k => by
  subst e
  obtain ⟨v, r, rfl, dv, rfl⟩ := dl
  rcases h with h | rfl
  · obtain ⟨a, ys, rfl, sq, l⟩ := rm.list h dv
    exact ⟨a, ys, rfl, .inl sq, by rw [← l.length]; exact k _ H _ M den_int rm (.refl _) q⟩
  · obtain ⟨a, ys, rfl, sq, l⟩ := dv
    exact ⟨a, ys, rfl, .inr sq, by rw [← l.length]; exact k _ H _ M den_int rm (.refl _) q⟩⟩
noncomputable def rMin3 : List D → MH → VK3 → Prop := fun xs M Q => ∃ i j, xs = [.int i, .int j] ∧ Q (.int (if j < i then j else i)) M
theorem b_min (hc : X.calm = true) : Call3 X (.builtin "min") rMin3 := ⟨_, call_min2 hc, fun H xs vs M Q Q2 dl rm ⟨i, j, e, q⟩ k => by
  subst e
  obtain ⟨v, r, rfl, dv, w, r', rfl, dw, rfl⟩ := dl
  cases (show v = .int i from dv)
  cases (show w = .int j from dw)
  exact ⟨i, j, rfl, k _ H _ M den_int rm (.refl _) q⟩⟩
end
end L2
set_option Elab.async false
set_option linter.all false
set_option maxRecDepth 100000
set_option maxHeartbeats 4000000
namespace L2
open PySem PySem.Spec PyProof.Rows
noncomputable abbrev BackS (K : PySem.W.Frag) (H : Hp) (Q : St3 → MH → Prop) (Q2 : St → Hp → Prop) : Prop := ∀ σ' H' σ3' M', RelM K M' H' → DenS K H' σ3' σ' → TM K H H' → Q σ3' M' → Q2 σ' H'
section
variable {X : Cx} {st : Stmt} {rest : List Stmt} {t u : TS3} {e : Expr} {te : TE3} {pos : Pos}
structure ItOk (K : PySem.W.Frag) (H0 : Hp) (J : It) (ds : List D) (S : MH → Prop) : Prop where
  go : ∀ (i : Nat) H M, TM K H0 H → RelM K M H → S M → i < ds.length → J.go i H
  yld : ∀ (i : Nat) H M x H', TM K H0 H → RelM K M H → S M → i < ds.length → J.yld i H x H' → TM K H H' ∧ RelM K M H' ∧ ∃ d, ds[i]? = some d ∧ Den K H' d x
  stop : ∀ H M, TM K H0 H → RelM K M H → S M → J.stop ds.length H
noncomputable def rng (lo : Int) (n : Nat) : List D := (List.range n).map fun (i : Nat) => D.int (lo + i)
theorem rng_len (lo : Int) (n : Nat) : (rng lo n).length = n := by unfold rng; rw [List.length_map, List.length_range]
theorem rng_at {lo : Int} {n i : Nat} (h : i < n) : (rng lo n)[i]? = some (.int (lo + i)) := by
  unfold rng
  rw [List.getElem?_map, List.getElem?_range h]
  rfl
theorem it_rng {K : PySem.W.Frag} {H0 : Hp} {lo : Int} {n : Nat} : ItOk K H0 (Itr lo n) (rng lo n) (fun _ => True) := by
  refine ⟨fun i H M _ _ _ hi => ?_, fun i H M x H' _ rm _ hi y => ?_, fun H M _ _ _ => ?_⟩
  · rw [rng_len] at hi; exact hi
  · rw [rng_len] at hi
    obtain ⟨e, y⟩ := y
    subst e; subst y
    exact ⟨.refl _, rm, _, rng_at hi, rfl⟩
  · rw [rng_len]; exact Nat.le_refl _
end
noncomputable abbrev XK3 := Value → MH → Prop
noncomputable abbrev Sp3 := List D → MH → VK3 → XK3 → Prop
section
variable {P : Program} {w : World} {K : PySem.W.Frag} {mg : Str → Option Value} {base : Heap}
end
section
variable {X : Cx} {k : Nat} {f C : Addr} {fd : FuncData} {ps : List Str} {sp : Sp3} {E3 : XK3} {E : XK} {x m : Str} {p pos apos : Pos} {e o : Expr} {es : List Expr} {ta : TE3} {t : TA3}
end
end L2
set_option Elab.async false
set_option linter.all false
set_option maxRecDepth 100000
set_option maxHeartbeats 4000000
namespace L2
open PySem PySem.Spec PyProof.Rows
noncomputable abbrev XN := XE → MH → Prop
noncomputable def del (M : MH) (a : Addr) : MH := fun b => if b = a then none else M b
theorem del_put {M : MH} {a : Addr} {o : DO} (h : M a = none) : del (put M a o) a = M := by
  funext b
  unfold del put
  by_cases e : b = a
  · subst e; rw [if_pos rfl, h]
  · rw [if_neg e, if_neg e]
theorem del_get {M : MH} {a b : Addr} {o : DO} (h : del M a b = some o) : b ≠ a ∧ M b = some o := by
  unfold del at h
  split at h
  · cases h
  · exact ⟨by assumption, h⟩
noncomputable def keepM (M M' : MH) : MH := fun a => match M a with
  | some _ => M' a
  | none => none
theorem keepM_get {M M' : MH} {a : Addr} {o : DO} (h : keepM M M' a = some o) : M' a = some o := by
  unfold keepM at h
  split at h
  · exact h
  · cases h
noncomputable def kp (b : Bool) (M M' : MH) : MH := if b = true then keepM M M' else M'
theorem kp_get {b : Bool} {M M' : MH} {a : Addr} {o : DO} (h : kp b M M' a = some o) : M' a = some o := by
  cases b with
  | true => exact keepM_get h
  | false => exact h
inductive BI where
  | len   | min   | all   | any   | sortedL (fz : Bool)
inductive BM where
  | clear   | extend
inductive BT where
  | int | bool | str | tuple | list | dict
mutual
inductive IE where
  | var (i : Nat)
  | con (d : D)
  | bin (op : Operator) (a b : IE)
  | neg (a : IE)
  | cat (fz : Bool) (a b : IE)
  | cmp (op : CmpOp) (a b : IE)
  | chain (op op' : CmpOp) (a b c : IE)
  | and (a b : IE)
  | or (a b : IE)
  | not (a : IE)
  | lst (fz : Bool) (es : IA)
  | ix (a b : IE)
  | sl (fz : Bool) (a : IE) (lo hi : IO)
  | call (f : Nat) (es : IA)
  | bi (b : BI) (es : IA)
  | isB (e : IE) (t : BT)
  | isC (e : IE) (c : Nat)
  | comp (fz : Bool) (N : List Str) (js : List (Option Nat)) (tg : ITg) (it : II) (cond : ITO) (elt : IE)
  | glo (k : Nat)
  | bm (b : BM) (o : IE) (es : IA)
inductive IT where
  | val (e : IE) | cmp (op : CmpOp) (a b : IE) | chain (op op' : CmpOp) (a b c : IE) | chain3 (op op' op'' : CmpOp) (a b c d : IE) | and (a b : IT) | or (a b : IT) | not (a : IT)
inductive IA where
  | nil | cons (e : IE) (r : IA)
inductive IO where
  | no | yes (e : IE)
inductive ITO where
  | no | yes (e : IT)
inductive II where
  | seq (e : IE)
  | rng1 (a : IE)
inductive ITg where
  | name (i : Nat) | tup (is : List Nat)
end
mutual
inductive IS where
  | set (i : Nat) (e : IE)
  | expr (e : IE)
  | ret (e : IE)
  | ifs (c : IT) (a b : ISs)
  | for_ (tg : ITg) (it : II) (body : ISs)
  | raise (c : Nat) (es : IA)
  | try_ (body : ISs) (hs : IHs)
  | app (o e : IE)
  | del (i : Nat)
inductive ISs where
  | nil | cons (s : IS) (r : ISs)
inductive IHs where
  | nil | cons (c : Nat) (nm : Option Nat) (body : ISs) (r : IHs)
end
noncomputable def lstOf (M : MH) : D → Option (List D)
  | .rol ds => some ds
  | .ref a => match M a with
    | some (.lst ds) => some ds
    | _ => none
  | _ => none
noncomputable def seqOf (M : MH) : D → Option (List D)
  | .tup ds => some ds
  | x => lstOf M x
noncomputable def res (M : MH) (x : D) : D := match lstOf M x with
  | some ds => .rol ds
  | none => x
noncomputable def newL (fz : Bool) (ds : List D) (M : MH) (Q : VK3) : Prop := ds.length ≤ sizeLine ∧ if fz = true then Q (.rol ds) M else ∀ p, M p = none → Q (.ref p) (put M p (.lst ds))
noncomputable def plN : Nat → D → Bool
  | _, .ref _ => false
  | n, .tup ds => match n with
    | 0 => false
    | m + 1 => ds.all (plN m)
  | n, .rol ds => match n with
    | 0 => false
    | m + 1 => ds.all (plN m)
  | _, .obj _ _ _ _ => false
  | _, .dik _ _ => false
  | _, .dit _ _ => false
  | _, _ => true
noncomputable abbrev pl (x : D) : Bool := plN 8 x
noncomputable abbrev pls (ds : List D) : Bool := ds.all (plN 8)
mutual
noncomputable def eqD : D → D → Bool
  | .non, y => match y with
    | .non => true
    | _ => false
  | .bl a, y => match y with
    | .bl b => a == b
    | .int b => decide ((if a = true then (1 : Int) else 0) = b)
    | _ => false
  | .int a, y => match y with
    | .int b => decide (a = b)
    | .bl b => decide (a = if b = true then (1 : Int) else 0)
    | _ => false
  | .str a, y => match y with
    | .str b => decide (a = b)
    | _ => false
  | .tup a, y => match y with
    | .tup b => eqDs a b
    | _ => false
  | .rol a, y => match y with
    | .rol b => eqDs a b
    | _ => false
  | .ref _, _ => false
  | .obj _ _ _ _, _ => false
  | .dik _ _, _ => false
  | .dit _ _, _ => false
noncomputable def eqDs : List D → List D → Bool
  | [], y => match y with
    | [] => true
    | _ => false
  | a :: r, y => match y with
    | b :: t => eqD a b && eqDs r t
    | _ => false
end
noncomputable def rII (C : Int → Int → Prop) (g : Int → Int → D) (x y : D) (M : MH) (Q : VK3) : Prop := match x, y with
  | .int i, .int j => C i j ∧ Q (g i j) M
  | _, _ => False
noncomputable def rI2 (g : Int → Int → D) (x y : D) (M : MH) (Q : VK3) : Prop := match x, y with
  | .int i, .int j => Q (g i j) M
  | _, _ => False
noncomputable def rAddD (x y : D) (M : MH) (Q : VK3) : Prop := match x, y with
  | .int i, .int j => Q (.int (i + j)) M
  | .str a, .str b => a.length + b.length ≤ sizeLine ∧ Q (.str (a ++ b)) M
  | .tup a, .tup b => (a.isEmpty = false ∧ a.length + b.length ≤ sizeLine) ∧ Q (.tup (a ++ b)) M
  | _, _ => False
noncomputable def strRep (z : Str) (n : Int) : Str := if n < 1 then Str.empty else if (n == 1 || z.length == 0) = true then z else ⟨(List.replicate n.toNat z.cps).foldl (· ++ ·) #[]⟩
noncomputable def rMulD (x y : D) (M : MH) (Q : VK3) : Prop := match x, y with
  | .int i, .int j => CMulB i j ∧ Q (.int (i * j)) M
  | .str z, .int n => (0 ≤ n ∧ n ≤ 100000 ∧ z.length ≤ 10) ∧ Q (.str (strRep z n)) M
  | _, _ => False
noncomputable def rBin : Operator → D → D → MH → VK3 → Prop
  | .Add => rAddD
  | .Sub => rI2 fun i j => .int (i - j)
  | .Mult => rMulD
  | .FloorDiv => rII CDivB fun i j => .int (i / j)
  | .Mod => rII (fun _ j => 0 < j) fun i j => .int (i % j)
  | .Pow => rII CPow fun i j => .int (i ^ j.toNat)
  | .RShift => rII (fun _ j => 0 ≤ j) fun i j => .int (i / 2 ^ j.toNat)
  | .BitAnd => rI2 fun i j => .int (Builtin.bitAnd i j)
  | _ => fun _ _ _ _ => False
noncomputable def rNeg (x : D) (M : MH) (Q : VK3) : Prop := match x with
  | .int i => Q (.int (-i)) M
  | _ => False
noncomputable def rCat3 (fz : Bool) (x y : D) (M : MH) (Q : VK3) : Prop := match lstOf M x, lstOf M y with
  | some a, some b => newL fz (a ++ b) M Q
  | _, _ => match x, y with
    | .tup a, .tup b => (a.isEmpty = false ∧ a.length + b.length ≤ sizeLine) ∧ Q (.tup (a ++ b)) M
    | _, _ => False
noncomputable def rs (M : MH) (x : D) : D := match lstOf M x with
  | some ds => .rol (if pls ds = true then ds else ds.map (res M))
  | none => x
noncomputable def rEqD (neg : Bool) (x y : D) (M : MH) (Q : VK3) : Prop := pl (rs M x) = true ∧ pl (rs M y) = true ∧ Q (.bl (neg ^^ eqD (rs M x) (rs M y))) M
noncomputable def rIsD (neg : Bool) (x y : D) (M : MH) (Q : VK3) : Prop := match y with
  | .non => Q (.bl (neg ^^ x.isN)) M
  | .bl b => match x with
    | .bl a => Q (.bl (neg ^^ (a == b))) M
    | .non => Q (.bl neg) M
    | _ => False
  | _ => False
noncomputable def keyD : D → Option Key
  | .int i => some (.inl i)
  | .str s => some (.inr s)
  | _ => none
noncomputable def intsK : List D → Option (List Int)
  | [] => some []
  | .int i :: r => match intsK r with
    | some ns => some (i :: ns)
    | none => none
  | _ :: _ => none
noncomputable def keyT : D → Option (List Int)
  | .tup es => intsK es
  | _ => none
noncomputable def getD {κ : Type} [DecidableEq κ] : List κ → List D → κ → Option D
  | k :: ks, d :: ds, x => if k = x then some d else getD ks ds x
  | _, _, _ => none
noncomputable def asDk (M : MH) : D → Option (List Key × List D)
  | .dik ks ds => some (ks, ds)
  | .ref a => match M a with
    | some (.dk ks ds) => some (ks, ds)
    | _ => none
  | _ => none
noncomputable def asDt (M : MH) : D → Option (List (List Int) × List D)
  | .dit ks ds => some (ks, ds)
  | .ref a => match M a with
    | some (.dt ks ds) => some (ks, ds)
    | _ => none
  | _ => none
noncomputable def dGet (M : MH) (x y : D) : Option (Option D) := match asDk M x with
  | some (ks, ds) => match keyD y with
    | some k => some (getD ks ds k)
    | none => none
  | none => match asDt M x with
    | some (ks, ds) => match keyT y with
      | some k => some (getD ks ds k)
      | none => none
    | none => none
noncomputable def strIn (a b : Str) : Bool := !(Builtin.Str.occurrences b a 0 b.length 1).isEmpty
noncomputable def chrAt (z : Str) (i : Nat) : Str := ⟨#[z.cps.getD i 0]⟩
noncomputable def chars (z : Str) : List D := z.cps.toList.map fun c => .str ⟨#[c]⟩
noncomputable def rInD (neg : Bool) (x y : D) (M : MH) (Q : VK3) : Prop := match seqOf M y with
  | some ds => pl (res M x) = true ∧ pls ds = true ∧ Q (.bl (neg ^^ ds.any fun d => eqD d (res M x))) M
  | none => match dGet M y x with
    | some o => Q (.bl (neg ^^ o.isSome)) M
    | none => match x, y with
      | .str a, .str b => Q (.bl (neg ^^ strIn a b)) M
      | _, _ => False
noncomputable def rCmp : CmpOp → D → D → MH → VK3 → Prop
  | .Eq => rEqD false
  | .NotEq => rEqD true
  | .Lt => rI2 fun i j => .bl (decide (i < j))
  | .LtE => rI2 fun i j => .bl (decide (i ≤ j))
  | .Gt => rI2 fun i j => .bl (decide (j < i))
  | .GtE => rI2 fun i j => .bl (decide (j ≤ i))
  | .Is => rIsD false
  | .IsNot => rIsD true
  | .In => rInD false
  | .NotIn => rInD true
noncomputable def rIx3 (x y : D) (M : MH) (Q : VK3) : Prop := match seqOf M x with
  | some ds => match y with
    | .int i => match atI ds i with
      | some d => Q d M
      | none => False
    | _ => False
  | none => match dGet M x y with
    | some (some d) => Q d M
    | some none => False
    | none => match x, y with
      | .str z, .int i => (0 ≤ i ∧ i < z.length ∧ i < 2 ^ 63) ∧ Q (.str (chrAt z i.toNat)) M
      | _, _ => False
noncomputable def cutD (xs : List D) (lo hi : Option Int) : List D := (xs.drop (HT.sIx xs.length 0 lo)).take (HT.sIx xs.length xs.length hi - HT.sIx xs.length 0 lo)
noncomputable def whole (n : Nat) (lo hi : Option Int) : Bool := HT.sIx n 0 lo == 0 && HT.sIx n n hi == n
noncomputable def rSl3 (fz : Bool) (x : D) (lo hi : Option Int) (M : MH) (Q : VK3) : Prop := match x with
  | .tup ds => whole ds.length lo hi = false ∧ Q (.tup (cutD ds lo hi)) M
  | .str z => z.length ≤ sizeLine ∧ Q (.str (Txt.slice z lo hi)) M
  | x => match lstOf M x with
    | some ds => newL fz (cutD ds lo hi) M Q
    | none => False
noncomputable def boolsD : List D → Option (List Bool)
  | [] => some []
  | .bl i :: r => match boolsD r with
    | some ns => some (i :: ns)
    | none => none
  | _ :: _ => none
noncomputable def isLstM (x : D) (M : MH) : Bool := match x with
  | .ref a => match M a with
    | some (.lst _) => true
    | _ => false
  | _ => false
noncomputable def tyB : BM → D → MH → Bool
  | .clear, x, M => isLstM x M
  | .extend, x, M => isLstM x M
noncomputable def rBm : BM → D → List D → MH → VK3 → Prop
  | .clear, x, ys, M, Q => match x, ys with
    | .ref a, [] => match M a with
      | some (.lst _) => Q .non (put M a (.lst []))
      | _ => False
    | _, _ => False
  | .extend, x, ys, M, Q => match x, ys with
    | .ref a, [y] => match M a, lstOf M y with
      | some (.lst ds), some es => ds.length + es.length ≤ sizeLine ∧ Q .non (put M a (.lst (ds ++ es)))
      | _, _ => False
    | _, _ => False
noncomputable def listsD : List D → Option (List (List Int))
  | [] => some []
  | .rol es :: r => match intsK es, listsD r with
    | some x, some xs => some (x :: xs)
    | _, _ => none
  | _ :: _ => none
noncomputable def rBi : BI → List D → MH → VK3 → Prop
  | .len, xs, M, Q => match xs with
    | [x] => match seqOf M x with
      | some ds => Q (.int ds.length) M
      | none => match asDt M x with
        | some (ks, _) => Q (.int ks.length) M
        | none => match x with
          | .str z => z.length ≤ sizeLine ∧ Q (.int z.length) M
          | _ => False
    | _ => False
  | .min, xs, M, Q => match xs with
    | [.int i, .int j] => Q (.int (if j < i then j else i)) M
    | _ => False
  | .sortedL fz, xs, M, Q => match xs with
    | [x] => match lstOf M x with
      | some ds => match listsD ds with
        | some ls => sortLok ls = true ∧ newL fz ((sortLx ls).map fun i => ds.getD i .non) M Q
        | none => False
      | none => False
    | _ => False
  | .all, xs, M, Q => match xs with
    | [x] => match lstOf M x with
      | some ds => match boolsD ds with
        | some bs => Q (.bl (bs.all id)) M
        | none => False
      | none => False
    | _ => False
  | .any, xs, M, Q => match xs with
    | [x] => match lstOf M x with
      | some ds => match boolsD ds with
        | some bs => Q (.bl (bs.any id)) M
        | none => False
      | none => False
    | _ => False
noncomputable def isBT (t : BT) (x : D) (M : MH) (Q : VK3) : Prop := match x with
  | .non => Q (.bl false) M
  | .bl _ => Q (.bl (match t with | .int => true | .bool => true | _ => false)) M
  | .int _ => Q (.bl (match t with | .int => true | _ => false)) M
  | .str _ => Q (.bl (match t with | .str => true | _ => false)) M
  | .tup _ => Q (.bl (match t with | .tuple => true | _ => false)) M
  | .rol _ => Q (.bl (match t with | .list => true | _ => false)) M
  | .ref a => match M a with
    | some (.lst _) => Q (.bl (match t with | .list => true | _ => false)) M
    | some (.dk _ _) => Q (.bl (match t with | .dict => true | _ => false)) M
    | some (.dt _ _) => Q (.bl (match t with | .dict => true | _ => false)) M
    | _ => False
  | .dik _ _ => Q (.bl (match t with | .dict => true | _ => false)) M
  | .dit _ _ => Q (.bl (match t with | .dict => true | _ => false)) M
  | .obj _ _ _ _ => False
noncomputable def isCT (ne : Nat) (cls : Nat → Addr) (r : Nat → Bool) (x : D) (M : MH) (Q : VK3) : Prop := match x with
  | .ref a => match M a with
    | some (.exc i v) => i.c < ne ∧ v = .ref (cls i.c) ∧ Q (.bl (r i.c)) M
    | _ => False
  | _ => False
noncomputable def intsD : List D → Option (List Int)
  | [] => some []
  | .int i :: r => match intsD r with
    | some ns => some (i :: ns)
    | none => none
  | _ :: _ => none
noncomputable def mmI (mx : Bool) (a b : Int) : Int := if mx = true then (if b > a then b else a) else (if b < a then b else a)
noncomputable def rMM (mx dflt : Bool) (x : D) (M : MH) (Q : VK3) : Prop := match lstOf M x with
  | some ds => match intsD ds with
    | some [] => dflt = true ∧ Q .non M
    | some (n :: ns) => Q (.int (ns.foldl (mmI mx) n)) M
    | none => False
  | none => False
noncomputable def rRev (fz : Bool) (x : D) (M : MH) (Q : VK3) : Prop := match lstOf M x with
  | some ds => newL fz ds.reverse M Q
  | none => False
noncomputable def rDct (p : Addr) (x y : D) (M : MH) (Q : VK3) : Prop := match x with
  | .int i => M p = some (.dk [] []) ∧ Q (.ref p) (put M p (.dk [.inl i] [y]))
  | _ => False
structure WB where
  ne : Nat
  cls : Nat → Addr
  sub : Nat → Nat → Bool
  nk : Nat
  kls : Nat → Addr
  ksub : Nat → Nat → Bool
  fok : Nat → Nat → Bool
  mth : Nat → Nat → Option Nat
  ini : Nat → Option Nat
  xin : Nat → Option Nat
  glo : Nat → D
  fad : Nat → Addr
structure WC extends WB where
  call : Nat → List D → MH → VK3 → XN → Prop
noncomputable def lookN (f : Nat) : List Nat → List D → Option D
  | n :: ns, d :: ds => if n = f then some d else lookN f ns ds
  | _, _ => none
noncomputable def putN1 (f : Nat) : List Nat → List Nat
  | n :: ns => if n = f then n :: ns else n :: putN1 f ns
  | [] => [f]
noncomputable def putN2 (f : Nat) (y : D) : List Nat → List D → List D
  | n :: ns, d :: ds => if n = f then y :: ds else d :: putN2 f y ns ds
  | _, _ => [y]
noncomputable def rGet (f : Nat) (ns : List Nat) (ds : List D) (M : MH) (Q : VK3) : Prop := match lookN f ns ds with
  | some d => Q d M
  | none => False
noncomputable def rFld (B : WB) (f : Nat) (x : D) (M : MH) (Q : VK3) : Prop := match x with
  | .obj i C ns ds => (C = B.kls i ∧ i < B.nk ∧ B.fok i f = true) ∧ rGet f ns ds M Q
  | .ref a => match M a with
    | some (.ins i C ns ds) => (C = B.kls i ∧ i < B.nk ∧ B.fok i f = true) ∧ rGet f ns ds M Q
    | _ => False
  | _ => False
noncomputable def rXf (B : WB) (f : Nat) (x : D) (M : MH) (Q : VK3) : Prop := match x with
  | .ref a => match M a with
    | some (.exc i v) => (v = .ref (B.cls i.c) ∧ i.c < B.ne ∧ B.xin i.c = some f) ∧ (match i.pl with
      | some (g, y) => g = f ∧ Q y M
      | none => False)
    | _ => False
  | _ => False
noncomputable def rHas (o : Option Nat) (R : Nat → Prop) : Prop := match o with
  | some f => R f
  | none => False
noncomputable def rMth (B : WB) (m : Nat) (x : D) (M : MH) (R : Nat → Prop) : Prop := match x with
  | .obj i C ns ds => (C = B.kls i ∧ i < B.nk ∧ lookN m ns ds = none) ∧ rHas (B.mth i m) R
  | .ref a => match M a with
    | some (.ins i C ns ds) => (C = B.kls i ∧ i < B.nk ∧ lookN m ns ds = none) ∧ rHas (B.mth i m) R
    | _ => False
  | _ => False
noncomputable def isKT (B : WB) (j : Nat) (x : D) (M : MH) (Q : VK3) : Prop := match x with
  | .obj i C _ _ => (C = B.kls i ∧ i < B.nk ∧ j < B.nk) ∧ Q (.bl (B.ksub i j)) M
  | .ref a => match M a with
    | some (.ins i C _ _) => (C = B.kls i ∧ i < B.nk ∧ j < B.nk) ∧ Q (.bl (B.ksub i j)) M
    | _ => False
  | _ => False
noncomputable def frzQ (Q : VK3) : VK3 := fun x M => match x with
  | .ref a => match M a with
    | some (.lst ds) => Q (.rol ds) (del M a)
    | _ => False
  | _ => False
noncomputable def frzF : List D → MH → (List D → MH → Prop) → Prop
  | [], M, R => R [] M
  | d :: ds, M, R => match d with
    | .ref a => match M a with
      | some (.lst es) => frzF ds (del M a) fun r M' => R (.rol es :: r) M'
      | some (.dk ks es) => frzF ds (del M a) fun r M' => R (.dik ks es :: r) M'
      | some (.dt ks es) => frzF ds (del M a) fun r M' => R (.dit ks es :: r) M'
      | _ => frzF ds M fun r M' => R (.ref a :: r) M'
    | d => frzF ds M fun r M' => R (d :: r) M'
noncomputable def frzX (Q : VK3) : VK3 := fun x M => match x with
  | .ref a => match M a with
    | some (.lst ds) => Q (.rol ds) (del M a)
    | some (.dk ks ds) => Q (.dik ks ds) (del M a)
    | some (.dt ks ds) => Q (.dit ks ds) (del M a)
    | some (.ins i C ns ds) => frzF ds (del M a) fun r M' => Q (.obj i C ns r) M'
    | _ => False
  | _ => False
noncomputable def wpG : ITg → D → St3 → MH → (St3 → MH → Prop) → Prop
  | .name i, d, σ, M, Q => Q (σ.set i (some d)) M
  | .tup is, d, σ, M, Q => match d with
    | .tup ds => ds.length = is.length ∧ Q ((is.zip ds).foldl (fun σ p => σ.set p.1 (some p.2)) σ) M
    | _ => False
noncomputable def compSt3 (js : List (Option Nat)) (σ : St3) : St3 := js.map fun o => o.bind fun j => (σ[j]?).bind id
noncomputable def wpComp (g : D → St3 → MH → (St3 → MH → Prop) → Prop) (tt : St3 → MH → (Bool → MH → Prop) → Prop) (te : St3 → MH → VK3 → Prop) (S : MH → Prop) (p : Addr) (Q : VK3) : List D → List D → St3 → MH → Prop
  | [], _, _, M => S M ∧ Q (.ref p) M
  | d :: r, ys, σ, M => S M ∧ ys.length < sizeLine ∧ g d σ M fun σ2 M2 => tt σ2 M2 fun b M3 => if b = true then te σ2 M3 fun y M4 => M4 p = some (.lst ys) ∧ wpComp g tt te S p Q r (ys ++ [y]) σ2 (put M4 p (.lst (ys ++ [y]))) else wpComp g tt te S p Q r ys σ2 M3
section
variable (W : WC)
mutual
noncomputable def wpE : IE → St3 → MH → VK3 → XN → Prop
  | .var i, σ, M, Q, _ => match σ[i]? with
    | some (some d) => Q d M
    | _ => False
  | .con d, _, M, Q, _ => Q d M
  | .bin op a b, σ, M, Q, E => wpE a σ M (fun x M1 => wpE b σ M1 (fun y M2 => rBin op x y M2 Q) E) E
  | .neg a, σ, M, Q, E => wpE a σ M (fun x M1 => rNeg x M1 Q) E
  | .cat fz a b, σ, M, Q, E => wpE a σ M (fun x M1 => wpE b σ M1 (fun y M2 => rCat3 fz x y M2 Q) E) E
  | .cmp op a b, σ, M, Q, E => wpE a σ M (fun x M1 => wpE b σ M1 (fun y M2 => rCmp op x y M2 Q) E) E
  | .chain op op' a b c, σ, M, Q, E => wpE a σ M (fun x M1 => wpE b σ M1 (fun y M2 => rCmp op x y M2 fun r M3 => match r with
    | .bl k => if k = true then wpE c σ M3 (fun z M4 => rCmp op' y z M4 Q) E else Q (.bl false) M3
    | _ => False) E) E
  | .and a b, σ, M, Q, E => wpE a σ M (fun x M1 => match x with
    | .bl c => if c = true then wpE b σ M1 Q E else Q (.bl false) M1
    | _ => False) E
  | .or a b, σ, M, Q, E => wpE a σ M (fun x M1 => match x with
    | .bl c => if c = true then Q (.bl true) M1 else wpE b σ M1 Q E
    | _ => False) E
  | .not a, σ, M, Q, E => wpE a σ M (fun x M1 => match x with
    | .bl c => Q (.bl (!c)) M1
    | _ => False) E
  | .lst fz es, σ, M, Q, E => wpA es σ M (fun xs M1 => newL fz xs M1 Q) E
  | .ix a b, σ, M, Q, E => wpE a σ M (fun x M1 => wpE b σ M1 (fun y M2 => rIx3 x y M2 Q) E) E
  | .sl fz a lo hi, σ, M, Q, E => wpE a σ M (fun x M1 => wpO lo σ M1 (fun l M2 => wpO hi σ M2 (fun h M3 => rSl3 fz x l h M3 Q) E) E) E
  | .call f es, σ, M, Q, E => wpA es σ M (fun xs M1 => W.call f xs M1 Q E) E
  | .bi b es, σ, M, Q, E => wpA es σ M (fun xs M1 => rBi b xs M1 Q) E
  | .isB e t, σ, M, Q, E => wpE e σ M (fun x M1 => isBT t x M1 Q) E
  | .isC e c, σ, M, Q, E => wpE e σ M (fun x M1 => isCT W.ne W.cls (fun i => W.sub i c) x M1 Q) E
  | .comp fz _ js tg it cond elt, σ, M, Q, E => wpI it σ M (fun ds S M1 => ∀ p, M1 p = none →
      wpComp (wpG tg) (fun σ M Q => wpTO cond σ M Q (fun _ _ => False)) (fun σ M Q => wpE elt σ M Q (fun _ _ => False)) S p (if fz = true then frzQ Q else Q) ds [] (compSt3 js σ) (put M1 p (.lst []))) E
  | .glo k, _, M, Q, _ => Q (W.glo k) M
  | .bm b o es, σ, M, Q, E => wpE o σ M (fun x M1 => tyB b x M1 = true ∧ wpA es σ M1 (fun xs M2 => rBm b x xs M2 Q) E) E
noncomputable def wpT : IT → St3 → MH → (Bool → MH → Prop) → XN → Prop
  | .val e, σ, M, Q, E => wpE e σ M (fun x M1 => match x with
    | .bl k => Q k M1
    | _ => False) E
  | .cmp op a b, σ, M, Q, E => wpE a σ M (fun x M1 => wpE b σ M1 (fun y M2 => rCmp op x y M2 fun r M3 => match r with
    | .bl k => Q k M3
    | _ => False) E) E
  | .chain op op' a b c, σ, M, Q, E => wpE a σ M (fun x M1 => wpE b σ M1 (fun y M2 => rCmp op x y M2 fun r M3 => match r with
    | .bl k => if k = true then wpE c σ M3 (fun z M4 => rCmp op' y z M4 fun r M5 => match r with
      | .bl k => Q k M5
      | _ => False) E else Q false M3
    | _ => False) E) E
  | .chain3 op op' op'' a b c d, σ, M, Q, E => wpE a σ M (fun x M1 => wpE b σ M1 (fun y M2 => rCmp op x y M2 fun r M3 => match r with
    | .bl k => if k = true then wpE c σ M3 (fun z M4 => rCmp op' y z M4 fun r M5 => match r with
      | .bl k => if k = true then wpE d σ M5 (fun u M6 => rCmp op'' z u M6 fun r M7 => match r with
        | .bl k => Q k M7
        | _ => False) E else Q false M5
      | _ => False) E else Q false M3
    | _ => False) E) E
  | .and a b, σ, M, Q, E => wpT a σ M (fun c M1 => if c = true then wpT b σ M1 Q E else Q false M1) E
  | .or a b, σ, M, Q, E => wpT a σ M (fun c M1 => if c = true then Q true M1 else wpT b σ M1 Q E) E
  | .not a, σ, M, Q, E => wpT a σ M (fun c M1 => Q (!c) M1) E
noncomputable def wpA : IA → St3 → MH → (List D → MH → Prop) → XN → Prop
  | .nil, _, M, Q, _ => Q [] M
  | .cons e r, σ, M, Q, E => wpE e σ M (fun x M1 => wpA r σ M1 (fun xs M2 => Q (x :: xs) M2) E) E
noncomputable def wpO : IO → St3 → MH → (Option Int → MH → Prop) → XN → Prop
  | .no, _, M, Q, _ => Q none M
  | .yes e, σ, M, Q, E => wpE e σ M (fun x M1 => match x with
    | .int i => Q (some i) M1
    | _ => False) E
noncomputable def wpTO : ITO → St3 → MH → (Bool → MH → Prop) → XN → Prop
  | .no, _, M, Q, _ => Q true M
  | .yes e, σ, M, Q, E => wpT e σ M Q E
noncomputable def wpI : II → St3 → MH → (List D → (MH → Prop) → MH → Prop) → XN → Prop
  | .seq e, σ, M, R, E => wpE e σ M (fun x M1 => match x with
    | .tup ds => R ds (fun _ => True) M1
    | .rol ds => R ds (fun _ => True) M1
    | .ref a => match M1 a with
      | some (.lst ds) => R ds (fun M => M a = some (.lst ds)) M1
      | _ => False
    | .str z => R (chars z) (fun _ => True) M1
    | _ => False) E
  | .rng1 a, σ, M, R, E => wpE a σ M (fun x M1 => match x with
    | .int j => -(2 ^ 62) ≤ j ∧ j < 2 ^ 62 ∧ R (rng 0 j.toNat) (fun _ => True) M1
    | _ => False) E
end
noncomputable def wpFor (g : D → St3 → MH → (St3 → MH → Prop) → Prop) (tb : Ends3 → St3 → MH → Prop) (S : MH → Prop) (D : Ends3) : List L2.D → St3 → MH → Prop
  | [], σ, M => S M ∧ D.nx σ M
  | d :: r, σ, M => S M ∧ g d σ M fun σ2 M2 => tb { D with nx := wpFor g tb S D r, ct := wpFor g tb S D r, bk := D.nx } σ2 M2
noncomputable def goes3 (D : Ends3) (i : Nat) : Ends3 := ⟨fun σ M => D.nx (σ.set i none) M, D.rt, fun σ M => D.bk (σ.set i none) M, fun σ M => D.ct (σ.set i none) M⟩
mutual
noncomputable def wpS : IS → Ends3 → (St3 → XN) → St3 → MH → Prop
  | .set i e, D, E, σ, M => wpE W e σ M (fun x M1 => D.nx (σ.set i (some x)) M1) (E σ)
  | .expr e, D, E, σ, M => wpE W e σ M (fun _ M1 => D.nx σ M1) (E σ)
  | .ret e, D, E, σ, M => wpE W e σ M D.rt (E σ)
  | .ifs c a b, D, E, σ, M => wpT W c σ M (fun k M1 => if k = true then wpSs a D E σ M1 else wpSs b D E σ M1) (E σ)
  | .for_ tg it body, D, E, σ, M => wpI W it σ M (fun ds S M1 => wpFor (wpG tg) (fun D σ M => wpSs body D E σ M) S D ds σ M1) (E σ)
  | .raise c es, _, E, σ, M => wpA W es σ M (fun xs M1 => xs.length ≤ sizeLine ∧ E σ ⟨c, none⟩ M1) (E σ)
  | .try_ body hs, D, E, σ, M => wpSs body D (fun σ' i M' => wpH hs i D σ' M') σ M
  | .app o e, D, E, σ, M => wpE W o σ M (fun x M1 => match x with
    | .ref a => match M1 a with
      | some (.lst _) => wpE W e σ M1 (fun y M2 => match M2 a with
        | some (.lst ds) => ds.length < sizeLine ∧ D.nx σ (put M2 a (.lst (ds ++ [y])))
        | _ => False) (E σ)
      | _ => False
    | _ => False) (E σ)
  | .del i, D, _, σ, M => match σ[i]? with
    | some (some (.ref a)) => D.nx σ (L2.del M a)
    | _ => False
noncomputable def wpSs : ISs → Ends3 → (St3 → XN) → St3 → MH → Prop
  | .nil, D, _, σ, M => D.nx σ M
  | .cons s r, D, E, σ, M => wpS s { D with nx := fun σ' M' => wpSs r D E σ' M' } E σ M
noncomputable def wpH : IHs → XE → Ends3 → St3 → MH → Prop
  | .nil, _, _, _, _ => False
  | .cons c nm body r, i, D, σ, M => i.c < W.ne ∧ if W.sub i.c c = true then (match nm with
    | none => wpSs body D (fun _ _ _ => False) σ M
    | some j => ∀ a, M a = none → wpSs body (goes3 D j) (fun _ _ _ => False) (σ.set j (some (.ref a))) (put M a (.exc i (.ref (W.cls i.c))))) else wpH r i D σ M
end
end
end L2
set_option Elab.async false
set_option linter.all false
set_option maxRecDepth 100000
set_option maxHeartbeats 4000000
namespace L2
open PySem PySem.Spec PyProof.Rows
noncomputable def LkE (K : PySem.W.Frag) (cls : Nat → Addr) (H : Hp) (E3 : XN) (E : XK) : Prop := ∀ i M' H', TM K H H' → RelM K M' H' → E3 i M' → ∀ dx, XD K H' i dx → E (.ref (cls i.c)) dx H'
noncomputable def LkS (K : PySem.W.Frag) (cls : Nat → Addr) (H : Hp) (E3 : St3 → XN) (E2 : St → XK) : Prop := ∀ σ3 σ i M' H', TM K H H' → DenS K H' σ3 σ → RelM K M' H' → E3 σ3 i M' → ∀ dx, XD K H' i dx → E2 σ (.ref (cls i.c)) dx H'
section
variable {K : PySem.W.Frag} {cls : Nat → Addr} {H H1 : Hp}
theorem LkE.mono {E3 : XN} {E : XK} (h : LkE K cls H E3 E) (t : TM K H H1) : LkE K cls H1 E3 E := fun i M' H' t' r q => h i M' H' (t.trans t') r q
theorem LkS.mono {E3 : St3 → XN} {E2 : St → XK} (h : LkS K cls H E3 E2) (t : TM K H H1) : LkS K cls H1 E3 E2 := fun σ3 σ i M' H' t' d r q => h σ3 σ i M' H' (t.trans t') d r q
theorem LkS.at {E3 : St3 → XN} {E2 : St → XK} {σ3 : St3} {σ : St} (h : LkS K cls H E3 E2) (ds : DenS K H σ3 σ) : LkE K cls H (E3 σ3) (E2 σ) := fun i M' H' t r q => h σ3 σ i M' H' t (ds.mono t) r q
theorem LkE.no {E : XK} : LkE K cls H (fun _ _ => False) E := fun _ _ _ _ _ h => h.elim
theorem Back.mono {Q : VK3} {Q2 : VK} (h : Back K H Q Q2) (t : TM K H H1) : Back K H1 Q Q2 := fun v H' d M' a b c e => h v H' d M' a b (t.trans c) e
end
section
variable (K : PySem.W.Frag) (cls : Nat → Addr) (E2 : St → XK)
noncomputable def low (t : St3 → MH → VK3 → XN → Prop) : TE := fun σ H Q2 => ∃ σ3 M Q E3, RelM K M H ∧ DenS K H σ3 σ ∧ LkE K cls H E3 (E2 σ) ∧ t σ3 M Q E3 ∧ Back K H Q Q2
noncomputable def lowT (t : St3 → MH → (Bool → MH → Prop) → XN → Prop) : TT := fun σ H Q2 => ∃ σ3 M Q E3, RelM K M H ∧ DenS K H σ3 σ ∧ LkE K cls H E3 (E2 σ) ∧ t σ3 M Q E3 ∧ ∀ b H' M', RelM K M' H' → TM K H H' → Q b M' → Q2 b H'
noncomputable def lowA (t : St3 → MH → (List D → MH → Prop) → XN → Prop) : TA := fun σ H Q2 => ∃ σ3 M Q E3, RelM K M H ∧ DenS K H σ3 σ ∧ LkE K cls H E3 (E2 σ) ∧ t σ3 M Q E3 ∧ ∀ vs H' ds M', DenL K H' ds vs → RelM K M' H' → TM K H H' → Q ds M' → Q2 vs H'
noncomputable def lowO (t : St3 → MH → (Option Int → MH → Prop) → XN → Prop) : TO := fun σ H Q2 => ∃ σ3 M Q E3, RelM K M H ∧ DenS K H σ3 σ ∧ LkE K cls H E3 (E2 σ) ∧ t σ3 M Q E3 ∧ ∀ o H' M', RelM K M' H' → TM K H H' → Q o M' → Q2 o H'
noncomputable def lowI (t : St3 → MH → (List D → (MH → Prop) → MH → Prop) → XN → Prop) : TI := fun σ H R2 => ∃ σ3 M R E3, RelM K M H ∧ DenS K H σ3 σ ∧ LkE K cls H E3 (E2 σ) ∧ t σ3 M R E3 ∧ ∀ J H' ds S M', ItOk K H' J ds S → RelM K M' H' → TM K H H' → R ds S M' → R2 J H'
noncomputable def lowS (t : Ends3 → (St3 → XN) → St3 → MH → Prop) : TS := fun D2 σ H => ∃ σ3 M D3 E3, RelM K M H ∧ DenS K H σ3 σ ∧ LkS K cls H E3 E2 ∧ t D3 E3 σ3 M ∧ ER K H D3 D2
noncomputable def lowG (t : D → St3 → MH → (St3 → MH → Prop) → Prop) : TG := fun v σ H Q2 => ∃ d σ3 M Q, Den K H d v ∧ RelM K M H ∧ DenS K H σ3 σ ∧ t d σ3 M Q ∧ BackS K H Q Q2
end
section
variable {X : Cx} {e : Expr} {st : Stmt} {sts : List Stmt}
theorem PE.imp {t t' : TE} (h : PE X e t) (f : ∀ σ H Q, t' σ H Q → t σ H Q) : PE X e t' := fun pins s σ H Q I q => h pins s σ H Q I (f σ H Q q)
theorem PT.imp {t t' : TT} (h : PT X e t) (f : ∀ σ H Q, t' σ H Q → t σ H Q) : PT X e t' := fun pins s σ H Q I q => h pins s σ H Q I (f σ H Q q)
theorem PW.imp {t t' : TT} (h : PW X e t) (f : ∀ σ H Q, t' σ H Q → t σ H Q) : PW X e t' := fun whole pins s σ H Q I q => h whole pins s σ H Q I (f σ H Q q)
theorem PA.imp {es : List Expr} {t t' : TA} (h : PA X es t) (f : ∀ σ H Q, t' σ H Q → t σ H Q) : PA X es t' := fun pos pins s σ H Q I q => h pos pins s σ H Q I (f σ H Q q)
theorem PO.imp {o : Option Expr} {t t' : TO} (h : PO X o t) (f : ∀ σ H Q, t' σ H Q → t σ H Q) : PO X o t' := fun pins s σ H Q I q => h pins s σ H Q I (f σ H Q q)
theorem PI.imp {tg : Expr} {t t' : TI} (h : PI X tg e t) (f : ∀ σ H Q, t' σ H Q → t σ H Q) : PI X tg e t' := fun pins s σ H Q I q => h pins s σ H Q I (f σ H Q q)
theorem PS.imp {t t' : TS} (h : PS X st t) (f : ∀ D σ H, t' D σ H → t D σ H) : PS X st t' := fun pins s σ H D I q => h pins s σ H D I (f D σ H q)
theorem PSs.imp {t t' : TS} (h : PSs X sts t) (f : ∀ D σ H, t' D σ H → t D σ H) : PSs X sts t' := fun pins s σ H D I q => h pins s σ H D I (f D σ H q)
theorem PG.imp {t t' : TG} (h : PG X e t) (f : ∀ v σ H Q, t' v σ H Q → t v σ H Q) : PG X e t' := fun pins s σ H v u Q I r q => h pins s σ H v u Q I r (f v σ H Q q)
end
section
variable {X : Cx} {pins : List (Addr × Obj)} {σ : St} {H : Hp} {s : Shared}
theorem HOk.freeze {P : Program} {w : World} {h : Heap} {a : Addr} {xs : List V} (x : HOk P w H h) (e : H a = some (.lst xs)) : ∃ o, HOk P w (upd H a (.frz o (.lst xs))) h := by
  obtain ⟨o, ho⟩ := (x a _ e).isAt
  refine ⟨o, fun b u q => ?_⟩
  have own : ∀ c y, H c = some (.own y) → (upd H a (.frz o (.lst xs))) c = some (.own y) := fun c y z => by
    rw [upd_ne (ne_of z e (fun w => nomatch w))]; exact z
  have tup : ∀ c ys, H c = some (.tup ys) → (upd H a (.frz o (.lst xs))) c = some (.tup ys) := fun c ys z => by
    rw [upd_ne (ne_of z e (fun w => nomatch w))]; exact z
  by_cases hb : b = a
  · subst hb
    rw [upd_same] at q
    cases q
    exact ⟨ho, (x b _ e).stay (fun _ _ _ q => q) (fun c z => own c _ z) fun c ys z => tup c ys z⟩
  · rw [upd_ne hb] at q
    exact (x b u q).stay (fun _ _ _ q => q) (fun c z => own c _ z) fun c ys z => tup c ys z
theorem Inv.freeze {a : Addr} {xs : List V} (I : Inv X pins σ H s) (e : H a = some (.lst xs)) : ∃ o, Inv X pins σ (upd H a (.frz o (.lst xs))) s := by
  obtain ⟨o, ok⟩ := I.hok.freeze e
  have ne : ∀ b, H b = none → b ≠ a := fun b z => fun q => by rw [q, e] at z; cases z
  refine ⟨o, ⟨I.ok, I.os, I.bare, ⟨I.base.keep, I.base.slot, fun b ob q n hx => ?_, I.base.there, fun b ys q => ?_, fun b ob u q => ?_, fun b ps q => ?_⟩, I.loc, I.cell, ?_, fun x c z => ?_, fun p hp => ?_, ok, I.len⟩⟩
  · have z := I.base.free b ob q n hx
    rw [upd_ne (ne b z)]; exact z
  · have z := I.base.tups b ys q
    rw [upd_ne (ne_of z e (fun w => nomatch w))]; exact z
  · have z := I.base.frzs b ob u q
    rw [upd_ne (ne_of z e (fun w => nomatch w))]; exact z
  · obtain ⟨more, z⟩ := I.base.tbls b ps q
    exact ⟨more, by rw [upd_ne (ne_of z e (fun w => nomatch w))]; exact z⟩
  · rw [upd_ne (ne _ I.free)]; exact I.free
  · rw [upd_ne (ne _ (I.freeC x c z))]; exact I.freeC x c z
  · obtain ⟨p1, p2, p3⟩ := I.pin p hp
    exact ⟨p1, by rw [upd_ne (ne _ p2)]; exact p2, p3⟩
end
section
variable {K : PySem.W.Frag} {H : Hp} {M : MH} {a : Addr} {xs : List V} {o : Obj}
theorem TM.freeze (e : H a = some (.lst xs)) : TM K H (upd H a (.frz o (.lst xs))) :=
  .put e (fun _ => fun z => nomatch z) fun _ _ => fun z => nomatch z
theorem RelM.freeze (r : RelM K M H) (e : H a = some (.lst xs)) : RelM K (del M a) (upd H a (.frz o (.lst xs))) := fun b u q => by
  obtain ⟨ne, q⟩ := del_get q
  exact (r b u q).stay (.freeze e) (upd_ne ne)
theorem den_frozen {ds : List D} (h : DenL K H ds xs) (e : H a = some (.lst xs)) : Den K (upd H a (.frz o (.lst xs))) (.rol ds) (.ref a) := ⟨a, xs, rfl, .inl ⟨o, upd_same⟩, h.mono (.freeze e)⟩
end
theorem newL_back {X : Cx} {pins : List (Addr × Obj)} {σ : St} {H0 H : Hp} {s : Shared} {fz : Bool} {ds : List D} {vs : List V} {M : MH} {Q : VK3} {Q2 : VK} {p : Addr}
    (I : Inv X pins σ (upd H p (.lst vs)) s) (hp : H p = none) (dl : DenL X.K H ds vs) (rm : RelM X.K M H) (tm : TM X.K H0 H) (h : newL fz ds M Q) (back : Back X.K H0 Q Q2) : EP X pins σ Q2 (.ref p) s := by
  obtain ⟨_, h⟩ := h
  cases fz with
  | true =>
    rw [if_pos rfl] at h
    obtain ⟨o, I2⟩ := I.freeze upd_same
    refine ⟨.ref p, _, I2, rfl, back _ _ _ _ (den_frozen (o := o) (dl.mono (.new hp)) upd_same) ?_ (tm.trans ((TM.new hp).trans (.freeze upd_same))) h⟩
    have r2 : RelM X.K (put M p (.lst ds)) (upd H p (.lst vs)) := rm.lay hp ⟨vs, upd_same, dl.mono (.new hp)⟩
    have r3 := r2.freeze (o := o) (xs := vs) upd_same
    rw [del_put (rm.fresh hp)] at r3
    exact r3
  | false =>
    rw [if_neg Bool.false_ne_true] at h
    exact ⟨.ref p, _, I, rfl, back _ _ _ _ den_ref (rm.lay (u := .lst ds) hp ⟨vs, upd_same, dl.mono (.new hp)⟩) (tm.trans (.new hp)) (h p (rm.fresh hp))⟩
noncomputable def RdL (K : PySem.W.Frag) (H : Hp) (p : Addr) (vs : List V) : Prop := Rd H p (.lst vs) ∨ SqM K p vs
theorem RdL.sq {K : PySem.W.Frag} {H : Hp} {p : Addr} {vs : List V} (h : RdL K H p vs) : SqL K H p vs := by
  rcases h with h | h
  · exact .inl h
  · exact h.sq
theorem SqF.rd {K : PySem.W.Frag} {H : Hp} {p : Addr} {vs : List V} (h : SqF K H p vs) : RdL K H p vs := by
  rcases h with h | h
  · exact .inl (.inr h)
  · exact .inr h
theorem lstOf_rel {K : PySem.W.Frag} {M : MH} {H : Hp} {x : D} {v : V} {ds : List D} (rm : RelM K M H) (h : lstOf M x = some ds) (dv : Den K H x v) : ∃ p vs, v = .ref p ∧ RdL K H p vs ∧ DenL K H ds vs := by
  cases x with
  | rol es =>
    cases (show es = ds from Option.some.inj h)
    obtain ⟨p, vs, e, s, l⟩ := dv
    exact ⟨p, vs, e, s.rd, l⟩
  | ref a =>
    have h : (match M a with | some (.lst ds) => some ds | _ => none) = some ds := h
    split at h
    next es q =>
      cases h
      obtain ⟨vs, e, l⟩ := rm a _ q
      exact ⟨a, vs, dv, .inl (.inl e), l⟩
    next => cases h
  | _ => cases h
theorem seqOf_rel {K : PySem.W.Frag} {M : MH} {H : Hp} {x : D} {v : V} {ds : List D} (rm : RelM K M H) (h : seqOf M x = some ds) (dv : Den K H x v) : ∃ p vs, v = .ref p ∧ (SqL K H p vs ∨ SqT K H p vs) ∧ DenL K H ds vs := by
  cases x with
  | tup es =>
    cases (show es = ds from Option.some.inj h)
    obtain ⟨p, vs, e, s, l⟩ := dv
    exact ⟨p, vs, e, .inr s, l⟩
  | rol es => obtain ⟨p, vs, e, s, l⟩ := lstOf_rel rm (show lstOf M (.rol es) = some ds from h) dv; exact ⟨p, vs, e, .inl s.sq, l⟩
  | ref a => obtain ⟨p, vs, e, s, l⟩ := lstOf_rel rm (show lstOf M (.ref a) = some ds from h) dv; exact ⟨p, vs, e, .inl s.sq, l⟩
  | _ => cases h
theorem Inv.rdL {X : Cx} {pins : List (Addr × Obj)} {σ : St} {H : Hp} {s : Shared} {l : Addr} {xs : List V} (I : Inv X pins σ H s) (h : RdL X.K H l xs) : xs.length ≤ sizeLine ∧ ∃ (its : List Value) (n : Nat), Vals xs its ∧ xs.length = its.length ∧ s.heap.get? l = some { cls := .type "list", data := .seq its.toArray n } := by
  rcases h with h | ⟨its, n, e, z, r⟩
  · obtain ⟨z, its, n, r, e⟩ := h.ok I.hok
    exact ⟨z, its, n, r, r.length, e⟩
  · exact ⟨by rw [r.length]; exact z, its, n, r, r.length, I.kIn _ _ e⟩
noncomputable def frzb : HO → Bool
  | .lst _ => true
  | .dK _ => true
  | .dT _ => true
  | .ins _ _ _ => true
  | .ext _ => true
  | _ => false
theorem frzb_ne {u : HO} (h : frzb u = true) : (∀ y, HO.own y ≠ u) ∧ (∀ xs, HO.tup xs ≠ u) ∧ (∀ o v, HO.frz o v ≠ u) ∧ ∀ ps, HO.tbl ps ≠ u := by
  cases u <;> first
    | (cases h; done)
    | exact ⟨fun _ z => (by cases z), fun _ z => (by cases z), fun _ _ z => (by cases z), fun _ z => (by cases z)⟩
section
variable {X : Cx} {pins : List (Addr × Obj)} {σ : St} {H : Hp} {s : Shared}
theorem HOk.frzU {P : Program} {w : World} {h : Heap} {a : Addr} {u : HO} (x : HOk P w H h) (e : H a = some u) (hu : frzb u = true) : ∃ o, HOk P w (upd H a (.frz o u)) h := by
  obtain ⟨n1, n2, _, _⟩ := frzb_ne hu
  obtain ⟨o, ho⟩ := (x a _ e).isAt
  refine ⟨o, fun b v q => ?_⟩
  have own : ∀ c y, H c = some (.own y) → (upd H a (.frz o u)) c = some (.own y) := fun c y z => by
    rw [upd_ne (ne_of z e (n1 y))]; exact z
  have tup : ∀ c ys, H c = some (.tup ys) → (upd H a (.frz o u)) c = some (.tup ys) := fun c ys z => by
    rw [upd_ne (ne_of z e (n2 ys))]; exact z
  by_cases hb : b = a
  · subst hb
    rw [upd_same] at q
    cases q
    exact ⟨ho, (x b _ e).stay (fun _ _ _ q => q) (fun c z => own c _ z) fun c ys z => tup c ys z⟩
  · rw [upd_ne hb] at q
    exact (x b v q).stay (fun _ _ _ q => q) (fun c z => own c _ z) fun c ys z => tup c ys z
theorem Inv.frzU {a : Addr} {u : HO} (I : Inv X pins σ H s) (e : H a = some u) (hu : frzb u = true) : ∃ o, Inv X pins σ (upd H a (.frz o u)) s := by
  obtain ⟨n1, n2, n3, n4⟩ := frzb_ne hu
  obtain ⟨o, ok⟩ := I.hok.frzU e hu
  have ne : ∀ b, H b = none → b ≠ a := fun b z => fun q => by rw [q, e] at z; cases z
  refine ⟨o, ⟨I.ok, I.os, I.bare, ⟨I.base.keep, I.base.slot, fun b ob q n hx => ?_, I.base.there, fun b ys q => ?_, fun b ob u q => ?_, fun b ps q => ?_⟩, I.loc, I.cell, ?_, fun x c z => ?_, fun p hp => ?_, ok, I.len⟩⟩
  · have z := I.base.free b ob q n hx
    rw [upd_ne (ne b z)]; exact z
  · have z := I.base.tups b ys q
    rw [upd_ne (ne_of z e (n2 _))]; exact z
  · have z := I.base.frzs b ob u q
    rw [upd_ne (ne_of z e (n3 _ _))]; exact z
  · obtain ⟨more, z⟩ := I.base.tbls b ps q
    exact ⟨more, by rw [upd_ne (ne_of z e (n4 _))]; exact z⟩
  · rw [upd_ne (ne _ I.free)]; exact I.free
  · rw [upd_ne (ne _ (I.freeC x c z))]; exact I.freeC x c z
  · obtain ⟨p1, p2, p3⟩ := I.pin p hp
    exact ⟨p1, by rw [upd_ne (ne _ p2)]; exact p2, p3⟩
end
section
variable {K : PySem.W.Frag} {H : Hp} {M : MH} {a : Addr} {u : HO} {o : Obj}
theorem TM.frzU (e : H a = some u) (hu : frzb u = true) : TM K H (upd H a (.frz o u)) := by
  obtain ⟨_, n2, n3, _⟩ := frzb_ne hu
  exact .put e (fun xs z => n2 xs z.symm) fun ob v z => n3 ob v z.symm
theorem RelM.frzU (r : RelM K M H) (e : H a = some u) (hu : frzb u = true) : RelM K (del M a) (upd H a (.frz o u)) := fun b v q => by
  obtain ⟨ne, q⟩ := del_get q
  exact (r b v q).stay (.frzU e hu) (upd_ne ne)
end
noncomputable def fzD : DO → D
  | .lst ds => .rol ds
  | .dk ks ds => .dik ks ds
  | .dt ks ds => .dit ks ds
  | .ins i C ns ds => .obj i C ns ds
  | .exc _ _ => .non
  | .stl _ => .non
theorem frz_step {X : Cx} {pins : List (Addr × Obj)} {σ : St} {H : Hp} {s : Shared} {M : MH} {a : Addr} {o : DO} (I : Inv X pins σ H s) (rm : RelM X.K M H) (e : M a = some o) (ho : (∀ i c, o ≠ .exc i c) ∧ ∀ φ, o ≠ .stl φ) :
    ∃ H', Inv X pins σ H' s ∧ TM X.K H H' ∧ RelM X.K (del M a) H' ∧ Den X.K H' (fzD o) (.ref a) := by
  cases o with
  | lst ds =>
    obtain ⟨vs, e1, dl⟩ := rm a _ e
    obtain ⟨ob, I2⟩ := I.frzU e1 rfl
    exact ⟨_, I2, .frzU e1 rfl, rm.frzU e1 rfl, a, vs, rfl, .inl ⟨ob, upd_same⟩, dl.mono (.frzU e1 rfl)⟩
  | dk ks ds =>
    obtain ⟨vs, e1, hl, dl⟩ := rm a _ e
    obtain ⟨ob, I2⟩ := I.frzU e1 rfl
    exact ⟨_, I2, .frzU e1 rfl, rm.frzU e1 rfl, a, vs, ob, rfl, upd_same, hl, dl.mono (.frzU e1 rfl)⟩
  | dt ks ds =>
    obtain ⟨vs, xs, e1, z, dl⟩ := rm a _ e
    obtain ⟨ob, I2⟩ := I.frzU e1 rfl
    have t : TM X.K H (upd H a (.frz ob (.ext (tabT a xs)))) := .frzU e1 rfl
    exact ⟨_, I2, t, rm.frzU e1 rfl, a, vs, ob, xs, rfl, upd_same, ⟨z.kx, z.nd, z.sz, z.no, z.vx, fun x hx => t.t _ _ (z.at_ x hx)⟩, dl.mono t⟩
  | ins i C ns ds =>
    obtain ⟨dx, vs, e1, hl, dl⟩ := rm a _ e
    obtain ⟨ob, I2⟩ := I.frzU e1 rfl
    exact ⟨_, I2, .frzU e1 rfl, rm.frzU e1 rfl, a, vs, ob, dx, rfl, upd_same, hl, dl.mono (.frzU e1 rfl)⟩
  | exc i c => exact absurd rfl (ho.1 i c)
  | stl φ => exact absurd rfl (ho.2 φ)
theorem frz_fields {X : Cx} {pins : List (Addr × Obj)} {σ : St} {s : Shared} : ∀ {ds : List D} {vs : List V} {H : Hp} {M : MH} {R : List D → MH → Prop}, Inv X pins σ H s → RelM X.K M H → DenL X.K H ds vs → frzF ds M R →
    ∃ H' M' r, Inv X pins σ H' s ∧ TM X.K H H' ∧ RelM X.K M' H' ∧ DenL X.K H' r vs ∧ R r M'
  | [], vs, H, M, R, I, rm, dl, h => ⟨H, M, [], I, .refl _, rm, dl, h⟩
  | d :: ds, _, H, M, R, I, rm, dl, h => by
    obtain ⟨v, r, rfl, dv, dl⟩ := dl
    have keep : ∀ (d : D), Den X.K H d v → frzF ds M (fun r M' => R (d :: r) M') → ∃ H' M' r', Inv X pins σ H' s ∧ TM X.K H H' ∧ RelM X.K M' H' ∧ DenL X.K H' r' (v :: r) ∧ R r' M' := fun d dv h => by
      obtain ⟨H', M', r', I', t, rm', dl', q⟩ := frz_fields I rm dl h
      exact ⟨H', M', d :: r', I', t, rm', .cons (dv.mono t) dl', q⟩
    have fz : ∀ (a : Addr) (o : DO), v = .ref a → M a = some o → ((∀ i c, o ≠ .exc i c) ∧ ∀ φ, o ≠ .stl φ) → frzF ds (del M a) (fun r M' => R (fzD o :: r) M') → ∃ H' M' r', Inv X pins σ H' s ∧ TM X.K H H' ∧ RelM X.K M' H' ∧ DenL X.K H' r' (v :: r) ∧ R r' M' := fun a o e eM ne h => by
      subst e
      obtain ⟨H1, I1, t1, rm1, d1⟩ := frz_step I rm eM ne
      obtain ⟨H', M', r', I', t, rm', dl', q⟩ := frz_fields I1 rm1 (dl.mono t1) h
      exact ⟨H', M', _ :: r', I', t1.trans t, rm', .cons (d1.mono t) dl', q⟩
    cases d with
    | ref a =>
      simp only [frzF] at h
      have e : v = .ref a := dv
      split at h
      · rename_i es q; exact fz a (.lst es) e q ⟨(fun _ _ z => nomatch z), (fun _ z => nomatch z)⟩ h
      · rename_i ks es q; exact fz a (.dk ks es) e q ⟨(fun _ _ z => nomatch z), (fun _ z => nomatch z)⟩ h
      · rename_i ks es q; exact fz a (.dt ks es) e q ⟨(fun _ _ z => nomatch z), (fun _ z => nomatch z)⟩ h
      · exact keep _ dv h
    | _ => exact keep _ dv (by simpa only [frzF] using h)
theorem frz_any {X : Cx} {pins : List (Addr × Obj)} {σ : St} {s : Shared} {H : Hp} {M : MH} {Q : VK3} {x : D} {v : V} (I : Inv X pins σ H s) (rm : RelM X.K M H) (dx : Den X.K H x v) (h : frzX Q x M) :
    ∃ H' M' d, Inv X pins σ H' s ∧ TM X.K H H' ∧ RelM X.K M' H' ∧ Den X.K H' d v ∧ Q d M' := by
  unfold frzX at h
  split at h
  · rename_i a
    cases (show v = .ref a from dx)
    split at h
    · rename_i es q
      obtain ⟨H1, I1, t1, rm1, d1⟩ := frz_step (o := .lst es) I rm q ⟨(fun _ _ z => nomatch z), (fun _ z => nomatch z)⟩
      exact ⟨H1, _, _, I1, t1, rm1, d1, h⟩
    · rename_i ks es q
      obtain ⟨H1, I1, t1, rm1, d1⟩ := frz_step (o := .dk ks es) I rm q ⟨(fun _ _ z => nomatch z), (fun _ z => nomatch z)⟩
      exact ⟨H1, _, _, I1, t1, rm1, d1, h⟩
    · rename_i ks es q
      obtain ⟨H1, I1, t1, rm1, d1⟩ := frz_step (o := .dt ks es) I rm q ⟨(fun _ _ z => nomatch z), (fun _ z => nomatch z)⟩
      exact ⟨H1, _, _, I1, t1, rm1, d1, h⟩
    · rename_i i C ns es q
      obtain ⟨H1, I1, t1, rm1, d1⟩ := frz_step (o := .ins i C ns es) I rm q ⟨(fun _ _ z => nomatch z), (fun _ z => nomatch z)⟩
      obtain ⟨a', vs, ob, dx', e', he, hl, dl⟩ := d1
      cases e'
      obtain ⟨H2, M2, r, I2, t2, rm2, dl2, q2⟩ := frz_fields I1 rm1 dl h
      refine ⟨H2, M2, .obj i C ns r, I2, t1.trans t2, rm2, ?_, q2⟩
      exact ⟨a, vs, ob, dx', rfl, t2.g _ _ _ he, hl, dl2⟩
    · exact h.elim
  · exact h.elim
end L2
set_option Elab.async false
set_option linter.all false
set_option maxRecDepth 100000
set_option maxHeartbeats 4000000
namespace L2
open PySem PySem.Spec PyProof.Rows
section
variable {X : Cx} {pins : List (Addr × Obj)} {σ : St} {H : Hp} {s : Shared}
theorem eqDs_len : ∀ {xs ys : List D}, eqDs xs ys = true → xs.length = ys.length
  | [], [], _ => rfl
  | [], _ :: _, h => by simp [eqDs] at h
  | _ :: _, [], h => by simp [eqDs] at h
  | x :: xs, y :: ys, h => by
    simp only [eqDs, Bool.and_eq_true] at h
    rw [List.length_cons, List.length_cons, eqDs_len h.2]
theorem eqDs_range : ∀ {xs ys : List D}, xs.length = ys.length → eqDs xs ys = (List.range xs.length).all fun j => eqD (xs.getD j .non) (ys.getD j .non)
  | [], [], _ => by simp [eqDs]
  | [], _ :: _, h => by simp at h
  | _ :: _, [], h => by simp at h
  | x :: xs, y :: ys, h => by
    have ih := eqDs_range (xs := xs) (ys := ys) (by simpa using h)
    simp only [eqDs, List.length_cons, List.range_succ_eq_map, List.all_cons, List.all_map, ih]
    rfl
theorem eqDs_min {xs ys : List D} : eqDs xs ys = ((List.range (min xs.length ys.length)).all (fun j => eqD (xs.getD j .non) (ys.getD j .non)) && (xs.length == ys.length)) := by
  by_cases h : xs.length = ys.length
  · rw [eqDs_range h, h, Nat.min_self, beq_self_eq_true, Bool.and_true]
  · have e1 : (xs.length == ys.length) = false := beq_eq_false_iff_ne.mpr h
    rw [e1, Bool.and_false]
    cases q : eqDs xs ys with
    | false => rfl
    | true => exact absurd (eqDs_len q) h
theorem den_inj {K : PySem.W.Frag} (I : Inv X pins σ H s) (hK : K = X.K) : ∀ (n : Nat) {x y : D} {v : V}, plN n x = true → plN n y = true → Den K H x v → Den K H y v → x = y := by
  subst hK
  have lists : ∀ (n : Nat), (∀ {x y : D} {v : V}, plN n x = true → plN n y = true → Den X.K H x v → Den X.K H y v → x = y) → ∀ {xs ys : List D} {vs : List V}, xs.all (plN n) = true → ys.all (plN n) = true → DenL X.K H xs vs → DenL X.K H ys vs → xs = ys := by
    intro n ih xs
    induction xs with
    | nil =>
      intro ys vs _ _ h1 h2
      cases (show vs = [] from h1)
      cases ys with
      | nil => rfl
      | cons y ys => obtain ⟨_, _, e, _⟩ := h2; cases e
    | cons x xs iht =>
      intro ys vs p1 p2 h1 h2
      obtain ⟨v, r, rfl, d1, l1⟩ := h1
      cases ys with
      | nil => cases (show v :: r = [] from h2)
      | cons y ys =>
        obtain ⟨v', r', e, d2, l2⟩ := h2
        cases e
        simp only [List.all_cons, Bool.and_eq_true] at p1 p2
        rw [ih p1.1 p2.1 d1 d2, iht p1.2 p2.2 l1 l2]
  have clash : ∀ {p : Addr} {vs ws : List V}, SqT X.K H p vs → SqF X.K H p ws → False := fun {p vs ws} h1 h2 => by
    obtain ⟨its, _, t1, _⟩ := I.tuple h1
    obtain ⟨z, its2, n2, _, _, e2⟩ := I.rdL h2.rd
    obtain ⟨o, e1, c1, _⟩ := (show s.heap.IsTuple p its.toArray from t1)
    rw [e2] at e1; cases e1
    injection c1 with z; exact absurd z (by decide)
  intro n
  induction n with
  | zero =>
    intro x y v p1 p2 d1 d2
    cases x with
    | non =>
      cases (show v = .non from d1)
      cases y with
      | non => rfl
      | bl b => cases (show V.non = .bl b from d2)
      | int b => cases (show V.non = .int b from d2)
      | str b => cases (show V.non = .str b from d2)
      | tup es => cases p2
      | rol es => cases p2
      | ref a => cases p2
      | obj _ _ _ _ => cases p2
      | dik _ _ => cases p2
      | dit _ _ => cases p2
    | bl a =>
      cases (show v = .bl a from d1)
      cases y with
      | non => cases (show V.bl a = .non from d2)
      | bl b => cases (show V.bl a = .bl b from d2); rfl
      | int b => cases (show V.bl a = .int b from d2)
      | str b => cases (show V.bl a = .str b from d2)
      | tup es => cases p2
      | rol es => cases p2
      | ref a => cases p2
      | obj _ _ _ _ => cases p2
      | dik _ _ => cases p2
      | dit _ _ => cases p2
    | int a =>
      cases (show v = .int a from d1)
      cases y with
      | non => cases (show V.int a = .non from d2)
      | bl b => cases (show V.int a = .bl b from d2)
      | int b => cases (show V.int a = .int b from d2); rfl
      | str b => cases (show V.int a = .str b from d2)
      | tup es => cases p2
      | rol es => cases p2
      | ref a => cases p2
      | obj _ _ _ _ => cases p2
      | dik _ _ => cases p2
      | dit _ _ => cases p2
    | str a =>
      cases (show v = .str a from d1)
      cases y with
      | non => cases (show V.str a = .non from d2)
      | bl b => cases (show V.str a = .bl b from d2)
      | int b => cases (show V.str a = .int b from d2)
      | str b => cases (show V.str a = .str b from d2); rfl
      | tup es => cases p2
      | rol es => cases p2
      | ref a => cases p2
      | obj _ _ _ _ => cases p2
      | dik _ _ => cases p2
      | dit _ _ => cases p2
    | tup es => cases p1
    | rol es => cases p1
    | ref a => cases p1
    | obj _ _ _ _ => cases p1
    | dik _ _ => cases p1
    | dit _ _ => cases p1
  | succ n ih =>
    intro x y v p1 p2 d1 d2
    cases x with
    | non =>
      cases (show v = .non from d1)
      cases y with
      | non => rfl
      | bl b => cases (show V.non = .bl b from d2)
      | int b => cases (show V.non = .int b from d2)
      | str b => cases (show V.non = .str b from d2)
      | tup es => obtain ⟨p, vs, e, _⟩ := d2; cases e
      | rol es => obtain ⟨p, vs, e, _⟩ := d2; cases e
      | ref a => cases p2
      | obj _ _ _ _ => cases p2
      | dik _ _ => cases p2
      | dit _ _ => cases p2
    | bl a =>
      cases (show v = .bl a from d1)
      cases y with
      | non => cases (show V.bl a = .non from d2)
      | bl b => cases (show V.bl a = .bl b from d2); rfl
      | int b => cases (show V.bl a = .int b from d2)
      | str b => cases (show V.bl a = .str b from d2)
      | tup es => obtain ⟨p, vs, e, _⟩ := d2; cases e
      | rol es => obtain ⟨p, vs, e, _⟩ := d2; cases e
      | ref a => cases p2
      | obj _ _ _ _ => cases p2
      | dik _ _ => cases p2
      | dit _ _ => cases p2
    | int a =>
      cases (show v = .int a from d1)
      cases y with
      | non => cases (show V.int a = .non from d2)
      | bl b => cases (show V.int a = .bl b from d2)
      | int b => cases (show V.int a = .int b from d2); rfl
      | str b => cases (show V.int a = .str b from d2)
      | tup es => obtain ⟨p, vs, e, _⟩ := d2; cases e
      | rol es => obtain ⟨p, vs, e, _⟩ := d2; cases e
      | ref a => cases p2
      | obj _ _ _ _ => cases p2
      | dik _ _ => cases p2
      | dit _ _ => cases p2
    | str a =>
      cases (show v = .str a from d1)
      cases y with
      | non => cases (show V.str a = .non from d2)
      | bl b => cases (show V.str a = .bl b from d2)
      | int b => cases (show V.str a = .int b from d2)
      | str b => cases (show V.str a = .str b from d2); rfl
      | tup es => obtain ⟨p, vs, e, _⟩ := d2; cases e
      | rol es => obtain ⟨p, vs, e, _⟩ := d2; cases e
      | ref a => cases p2
      | obj _ _ _ _ => cases p2
      | dik _ _ => cases p2
      | dit _ _ => cases p2
    | tup ds =>
      obtain ⟨p, vs, rfl, q1, l1⟩ := d1
      cases y with
      | tup es =>
        obtain ⟨p', vs', e, q2, l2⟩ := d2
        cases e
        have e : vs = vs' := by
          obtain ⟨its, r1, t1, _⟩ := I.tuple q1
          obtain ⟨its2, r2, t2, _⟩ := I.tuple q2
          obtain ⟨o1, e1, c1, n1, f1⟩ := (show s.heap.IsTuple p its.toArray from t1)
          obtain ⟨o2, e2, c2, n2, f2⟩ := (show s.heap.IsTuple p its2.toArray from t2)
          rw [e1] at e2; cases e2
          rw [f1] at f2
          have : its = its2 := by injection f2 with z; simpa using z
          subst this
          exact r1.inj r2
        subst e
        rw [lists n ih (by simpa [plN] using p1) (by simpa [plN] using p2) l1 l2]
      | rol es => obtain ⟨p', vs', e, q2, l2⟩ := d2; cases e; exact (clash q1 q2).elim
      | non => cases (show V.ref p = .non from d2)
      | bl b => cases (show V.ref p = .bl b from d2)
      | int b => cases (show V.ref p = .int b from d2)
      | str b => cases (show V.ref p = .str b from d2)
      | ref a => cases p2
      | obj _ _ _ _ => cases p2
      | dik _ _ => cases p2
      | dit _ _ => cases p2
    | rol ds =>
      obtain ⟨p, vs, rfl, q1, l1⟩ := d1
      cases y with
      | rol es =>
        obtain ⟨p', vs', e, q2, l2⟩ := d2
        cases e
        have e : vs = vs' := by
          obtain ⟨_, its, n1, r1, _, e1⟩ := I.rdL q1.rd
          obtain ⟨_, its2, n2, r2, _, e2⟩ := I.rdL q2.rd
          rw [e1] at e2
          have : its = its2 := by
            have z := Option.some.inj e2
            injection z with z1 z2 z3 z4
            injection z3 with z5 z6
            simpa using z5
          subst this
          exact r1.inj r2
        subst e
        rw [lists n ih (by simpa [plN] using p1) (by simpa [plN] using p2) l1 l2]
      | tup es => obtain ⟨p', vs', e, q2, l2⟩ := d2; cases e; exact (clash q2 q1).elim
      | non => cases (show V.ref p = .non from d2)
      | bl b => cases (show V.ref p = .bl b from d2)
      | int b => cases (show V.ref p = .int b from d2)
      | str b => cases (show V.ref p = .str b from d2)
      | ref a => cases p2
      | obj _ _ _ _ => cases p2
      | dik _ _ => cases p2
      | dit _ _ => cases p2
    | ref a => cases p1
    | obj _ _ _ _ => cases p1
    | dik _ _ => cases p1
    | dit _ _ => cases p1
theorem eqD_refl : ∀ (n : Nat) {x : D}, plN n x = true → eqD x x = true := by
  have lists : ∀ (n : Nat), (∀ {x : D}, plN n x = true → eqD x x = true) → ∀ {xs : List D}, xs.all (plN n) = true → eqDs xs xs = true := by
    intro n ih xs
    induction xs with
    | nil => intro _; rfl
    | cons x xs iht =>
      intro h
      simp only [List.all_cons, Bool.and_eq_true] at h
      simp only [eqDs, Bool.and_eq_true]
      exact ⟨ih h.1, iht h.2⟩
  intro n
  induction n with
  | zero =>
    intro x h
    cases x with
    | tup es => cases h
    | rol es => cases h
    | ref a => cases h
    | obj _ _ _ _ => cases h
    | dik _ _ => cases h
    | dit _ _ => cases h
    | _ => simp [eqD]
  | succ n ih =>
    intro x h
    cases x with
    | tup es => simp only [eqD]; exact lists n ih (by simpa [plN] using h)
    | rol es => simp only [eqD]; exact lists n ih (by simpa [plN] using h)
    | ref a => cases h
    | obj _ _ _ _ => cases h
    | dik _ _ => cases h
    | dit _ _ => cases h
    | _ => simp [eqD]
theorem eqD_same {K : PySem.W.Frag} (I : Inv X pins σ H s) (hK : K = X.K) (n : Nat) {x y : D} {v : V} (p1 : plN n x = true) (p2 : plN n y = true) (d1 : Den K H x v) (d2 : Den K H y v) : eqD x y = true := by
  rw [den_inj I hK n p1 p2 d1 d2]; exact eqD_refl n p2
theorem eqD_bb (a b : Bool) : eqD (.bl a) (.bl b) = (a == b) := by simp [eqD]
theorem eqD_bi (a : Bool) (b : Int) : eqD (.bl a) (.int b) = ((if a then 1 else 0) == b) := by simp [eqD]; rfl
theorem eqD_ib (a : Int) (b : Bool) : eqD (.int a) (.bl b) = (a == (if b then 1 else 0)) := by simp [eqD]; rfl
theorem eqD_ii (a b : Int) : eqD (.int a) (.int b) = (a == b) := by simp [eqD]; rfl
theorem eqD_ss (a b : Str) : eqD (.str a) (.str b) = (a == b) := by simp [eqD]; rfl
noncomputable abbrev Eq3 (A : Around) (s : Shared) (v u : Value) (k : Bool) : Prop := SeqAt.RcAt A s v u k ∧ SeqAt.RcNeAt A s v u (!k) ∧ SeqAt.EqAt A s v u k
inductive Seen (s : Shared) : D → Value → Prop where
  | non : Seen s .non .none
  | bl (b : Bool) : Seen s (.bl b) (.bool b)
  | int (i : Int) (t : Tok) : Seen s (.int i) (.int i t)
  | str (x : Str) (t : Tok) : Seen s (.str x) (.str x t)
  | tup {ds : List D} {p : Addr} {its : List Value} (h : s.heap.IsTuple p its.toArray) : Seen s (.tup ds) (.ref p)
  | rol {ds : List D} {p : Addr} {its : List Value} (h : s.heap.IsList p its.toArray) : Seen s (.rol ds) (.ref p)
theorem seen_of {X : Cx} {pins : List (Addr × Obj)} {σ : St} {H : Hp} {s : Shared} (I : Inv X pins σ H s) {n : Nat} {x : D} {v : V} {v2 : Value} (p : plN n x = true) (d : Den X.K H x v) (r : RelV v v2) : Seen s x v2 := by
  cases x with
  | non => cases (show v = .non from d); cases r; exact .non
  | bl b => cases (show v = .bl b from d); cases r; exact .bl b
  | int i => cases (show v = .int i from d); obtain ⟨t, rfl⟩ := r; exact .int i t
  | str i => cases (show v = .str i from d); obtain ⟨t, rfl⟩ := r; exact .str i t
  | tup ds =>
    obtain ⟨q, vs, rfl, sq, _⟩ := d
    cases r
    obtain ⟨its, _, t, _⟩ := I.tuple sq
    exact .tup (its := its) t
  | rol ds =>
    obtain ⟨q, vs, rfl, sq, _⟩ := d
    cases r
    obtain ⟨its, _, t, _⟩ := I.list sq.sq
    exact .rol (its := its) t.isList
  | ref a => simp [plN] at p
  | obj _ _ _ _ => simp [plN] at p
  | dik _ _ => simp [plN] at p
  | dit _ _ => simp [plN] at p
theorem eq3_of {A : Around} {s : Shared} {x y : D} {v u : Value} (hx : Seen s x v) (hy : Seen s y u) (hu : A.units < cLine) (seq : ∀ ds es, (x = .tup ds ∧ y = .tup es) ∨ (x = .rol ds ∧ y = .rol es) → Eq3 A s v u (eqD x y)) : Eq3 A s v u (eqD x y) := by
  cases hx with
  | non =>
    cases hy with
    | non => exact ⟨.none_none, .none_none, .same _⟩
    | bl b => rw [show eqD (.non) (.bl b) = false by simp [eqD]]; exact ⟨.none_bool b, .none_bool b, .none_bool b⟩
    | int b tb => rw [show eqD (.non) (.int b) = false by simp [eqD]]; exact ⟨.none_int b tb, .none_int b tb, .none_int b tb⟩
    | str b tb => rw [show eqD (.non) (.str b) = false by simp [eqD]]; exact ⟨.none_str b tb, .none_str b tb, .none_str b tb⟩
    | @tup es p2 its2 h2 => rw [show eqD (.non) (.tup es) = false by simp [eqD]]; exact ⟨.none_tuple h2 hu, .none_tuple h2 hu, .none_tuple h2 hu⟩
    | @rol es p2 its2 h2 => rw [show eqD (.non) (.rol es) = false by simp [eqD]]; exact ⟨.none_list h2 hu, .none_list h2 hu, .none_list h2 hu⟩
  | bl a =>
    cases hy with
    | non => rw [show eqD (.bl a) (.non) = false by simp [eqD]]; exact ⟨.bool_none a, .bool_none a, .bool_none a⟩
    | bl b => rw [eqD_bb]; exact ⟨.bool_bool a b, .bool_bool a b, .bool_bool a b⟩
    | int b tb => rw [eqD_bi]; exact ⟨.bool_int a b tb, .bool_int a b tb, .bool_int a b tb⟩
    | str b tb => rw [show eqD (.bl a) (.str b) = false by simp [eqD]]; exact ⟨.bool_str a b tb, .bool_str a b tb, .bool_str a b tb⟩
    | @tup es p2 its2 h2 => rw [show eqD (.bl a) (.tup es) = false by simp [eqD]]; exact ⟨.bool_tuple a h2 hu, .bool_tuple a h2 hu, .bool_tuple a h2 hu⟩
    | @rol es p2 its2 h2 => rw [show eqD (.bl a) (.rol es) = false by simp [eqD]]; exact ⟨.bool_list a h2 hu, .bool_list a h2 hu, .bool_list a h2 hu⟩
  | int a ta =>
    cases hy with
    | non => rw [show eqD (.int a) (.non) = false by simp [eqD]]; exact ⟨.int_none a ta, .int_none a ta, .int_none a ta⟩
    | bl b => rw [eqD_ib]; exact ⟨.int_bool a ta b, .int_bool a ta b, .int_bool a ta b⟩
    | int b tb => rw [eqD_ii]; exact ⟨.int_int a ta b tb, .int_int a ta b tb, .int_int a ta b tb⟩
    | str b tb => rw [show eqD (.int a) (.str b) = false by simp [eqD]]; exact ⟨.int_str a ta b tb, .int_str a ta b tb, .int_str a ta b tb⟩
    | @tup es p2 its2 h2 => rw [show eqD (.int a) (.tup es) = false by simp [eqD]]; exact ⟨.int_tuple a ta h2 hu, .int_tuple a ta h2 hu, .int_tuple a ta h2 hu⟩
    | @rol es p2 its2 h2 => rw [show eqD (.int a) (.rol es) = false by simp [eqD]]; exact ⟨.int_list a ta h2 hu, .int_list a ta h2 hu, .int_list a ta h2 hu⟩
  | str a ta =>
    cases hy with
    | non => rw [show eqD (.str a) (.non) = false by simp [eqD]]; exact ⟨.str_none a ta, .str_none a ta, .str_none a ta⟩
    | bl b => rw [show eqD (.str a) (.bl b) = false by simp [eqD]]; exact ⟨.str_bool a ta b, .str_bool a ta b, .str_bool a ta b⟩
    | int b tb => rw [show eqD (.str a) (.int b) = false by simp [eqD]]; exact ⟨.str_int a ta b tb, .str_int a ta b tb, .str_int a ta b tb⟩
    | str b tb => rw [eqD_ss]; exact ⟨.str_str a ta b tb, .str_str a ta b tb, .str_str a ta b tb⟩
    | @tup es p2 its2 h2 => rw [show eqD (.str a) (.tup es) = false by simp [eqD]]; exact ⟨.str_tuple a ta h2 hu, .str_tuple a ta h2 hu, .str_tuple a ta h2 hu⟩
    | @rol es p2 its2 h2 => rw [show eqD (.str a) (.rol es) = false by simp [eqD]]; exact ⟨.str_list a ta h2 hu, .str_list a ta h2 hu, .str_list a ta h2 hu⟩
  | @tup ds p its h =>
    cases hy with
    | non => rw [show eqD (.tup ds) (.non) = false by simp [eqD]]; exact ⟨.tuple_none h hu, .tuple_none h hu, .tuple_none h hu⟩
    | bl b => rw [show eqD (.tup ds) (.bl b) = false by simp [eqD]]; exact ⟨.tuple_bool b h hu, .tuple_bool b h hu, .tuple_bool b h hu⟩
    | int b tb => rw [show eqD (.tup ds) (.int b) = false by simp [eqD]]; exact ⟨.tuple_int b tb h hu, .tuple_int b tb h hu, .tuple_int b tb h hu⟩
    | str b tb => rw [show eqD (.tup ds) (.str b) = false by simp [eqD]]; exact ⟨.tuple_str b tb h hu, .tuple_str b tb h hu, .tuple_str b tb h hu⟩
    | @tup es p2 its2 h2 => exact seq ds es (.inl ⟨rfl, rfl⟩)
    | @rol es p2 its2 h2 => rw [show eqD (.tup ds) (.rol es) = false by simp [eqD]]; exact ⟨.tuple_list h h2 hu, .tuple_list h h2 hu, .tuple_list h h2 hu⟩
  | @rol ds p its h =>
    cases hy with
    | non => rw [show eqD (.rol ds) (.non) = false by simp [eqD]]; exact ⟨.list_none h hu, .list_none h hu, .list_none h hu⟩
    | bl b => rw [show eqD (.rol ds) (.bl b) = false by simp [eqD]]; exact ⟨.list_bool b h hu, .list_bool b h hu, .list_bool b h hu⟩
    | int b tb => rw [show eqD (.rol ds) (.int b) = false by simp [eqD]]; exact ⟨.list_int b tb h hu, .list_int b tb h hu, .list_int b tb h hu⟩
    | str b tb => rw [show eqD (.rol ds) (.str b) = false by simp [eqD]]; exact ⟨.list_str b tb h hu, .list_str b tb h hu, .list_str b tb h hu⟩
    | @tup es p2 its2 h2 => rw [show eqD (.rol ds) (.tup es) = false by simp [eqD]]; exact ⟨.list_tuple h h2 hu, .list_tuple h h2 hu, .list_tuple h h2 hu⟩
    | @rol es p2 its2 h2 => exact seq ds es (.inr ⟨rfl, rfl⟩)
theorem rc_D {K : PySem.W.Frag} (I : Inv X pins σ H s) (hK : K = X.K) : ∀ (n : Nat) {A : Around} {x y : D} {v u : V} {v2 u2 : Value}, plN n x = true → plN n y = true → Den K H x v → Den K H y u → RelV v v2 → RelV u u2 → A.units + n < cLine →
    SeqAt.RcAt A s v2 u2 (eqD x y) ∧ SeqAt.RcNeAt A s v2 u2 (!eqD x y) ∧ SeqAt.EqAt A s v2 u2 (eqD x y) := by
  subst hK
  have items : ∀ (n : Nat), (∀ {A : Around} {x y : D} {v u : V} {v2 u2 : Value}, plN n x = true → plN n y = true → Den X.K H x v → Den X.K H y u → RelV v v2 → RelV u u2 → A.units + n < cLine →
      SeqAt.RcAt A s v2 u2 (eqD x y) ∧ SeqAt.RcNeAt A s v2 u2 (!eqD x y) ∧ SeqAt.EqAt A s v2 u2 (eqD x y)) → ∀ {A : Around} {xs ys : List D} {vs us : List V} {its its2 : List Value}, xs.all (plN n) = true → ys.all (plN n) = true → DenL X.K H xs vs → DenL X.K H ys us → Vals vs its → Vals us its2 → A.units + (n + 1) < cLine →
      ∀ j (h1 : j < its.toArray.size) (h2 : j < its2.toArray.size), SeqAt.EqAt A.in1 s its.toArray[j] its2.toArray[j] (eqD (xs.getD j .non) (ys.getD j .non)) := by
    intro n ih A xs ys vs us its its2 p1 p2 l1 l2 r1 r2 hu j h1 h2
    have h1 : j < its.length := by simpa using h1
    have h2 : j < its2.length := by simpa using h2
    have hx : j < xs.length := by rw [l1.length, r1.length]; exact h1
    have hy : j < ys.length := by rw [l2.length, r2.length]; exact h2
    obtain ⟨v, e1, d1⟩ := l1.get (i := j) (d := xs[j]) (by simp [hx])
    obtain ⟨u, e2, d2⟩ := l2.get (i := j) (d := ys[j]) (by simp [hy])
    obtain ⟨v2, e3, rv⟩ := r1.get e1
    obtain ⟨u2, e4, ru⟩ := r2.get e2
    have f1 : its.toArray[j] = v2 := by
      have := e3
      rw [List.getElem?_eq_getElem h1] at this
      simpa using this
    have f2 : its2.toArray[j] = u2 := by
      have := e4
      rw [List.getElem?_eq_getElem h2] at this
      simpa using this
    rw [f1, f2]
    have g1 : xs.getD j .non = xs[j] := by simp [List.getD, hx]
    have g2 : ys.getD j .non = ys[j] := by simp [List.getD, hy]
    rw [g1, g2]
    exact (ih (List.all_eq_true.mp p1 _ (List.getElem_mem hx)) (List.all_eq_true.mp p2 _ (List.getElem_mem hy)) d1 d2 rv ru (by show A.units + 1 + n < cLine; omega)).2.2
  intro n
  induction n with
  | zero =>
    intro A x y v u v2 u2 p1 p2 d1 d2 r1 r2 hu
    refine eq3_of (seen_of I p1 d1 r1) (seen_of I p2 d2 r2) (by omega) fun ds es z => ?_
    rcases z with ⟨rfl, rfl⟩ | ⟨rfl, rfl⟩ <;> cases p1
  | succ n ih =>
    intro A x y v u v2 u2 p1 p2 d1 d2 r1 r2 hu
    refine eq3_of (seen_of I p1 d1 r1) (seen_of I p2 d2 r2) (by omega) fun ds es z => ?_
    rcases z with ⟨rfl, rfl⟩ | ⟨rfl, rfl⟩
    · obtain ⟨p, vs, rfl, q1, l1⟩ := id d1
      obtain ⟨p', us, rfl, q2, l2⟩ := id d2
      cases r1; cases r2
      obtain ⟨its, v1, t1, _⟩ := I.tuple q1
      obtain ⟨its2, v2, t2, _⟩ := I.tuple q2
      have he := items n ih (A := A) (by simpa [plN] using p1) (by simpa [plN] using p2) l1 l2 v1 v2 hu
      have ee : eqD (.tup ds) (.tup es) = ((List.range (min its.toArray.size its2.toArray.size)).all (fun j => eqD (ds.getD j .non) (es.getD j .non)) && its.toArray.size == its2.toArray.size) := by
        simp only [eqD]
        rw [eqDs_min, l1.length, v1.length, l2.length, v2.length]
        rfl
      have rc := SeqAt.RcAt.tuples (A := A) t1 t2 (by omega) he
      rw [← ee] at rc
      have rn := SeqAt.RcNeAt.tuples (A := A) t1 t2 (by omega) he
      rw [← ee] at rn
      refine ⟨rc, rn, ?_⟩
      by_cases hp : p = p'
      · subst hp
        rw [eqD_same I rfl (n + 1) p1 p2 d1 d2]
        exact .same _
      · exact .of_refs hp rc
    · obtain ⟨p, vs, rfl, q1, l1⟩ := id d1
      obtain ⟨p', us, rfl, q2, l2⟩ := id d2
      cases r1; cases r2
      obtain ⟨its, v1, t1, _⟩ := I.list q1.sq
      obtain ⟨its2, v2, t2, _⟩ := I.list q2.sq
      have he := items n ih (A := A) (by simpa [plN] using p1) (by simpa [plN] using p2) l1 l2 v1 v2 hu
      have rcn : SeqAt.RcAt A s (.ref p) (.ref p') (eqD (.rol ds) (.rol es)) ∧ SeqAt.RcNeAt A s (.ref p) (.ref p') (!eqD (.rol ds) (.rol es)) := by
        by_cases hl : its.toArray.size = its2.toArray.size
        · have ee : eqD (.rol ds) (.rol es) = (List.range its.toArray.size).all fun j => eqD (ds.getD j .non) (es.getD j .non) := by
            have e1 : ds.length = es.length := by rw [l1.length, v1.length, l2.length, v2.length]; simpa using hl
            simp only [eqD]
            rw [eqDs_range e1, l1.length, v1.length]
            rfl
          rw [ee]
          exact ⟨.lists t1.isList t2.isList hl (by omega) he, .lists t1.isList t2.isList hl (by omega) he⟩
        · have ee : eqD (.rol ds) (.rol es) = false := by
            simp only [eqD]
            cases q : eqDs ds es with
            | false => rfl
            | true =>
              have := eqDs_len q
              rw [l1.length, v1.length, l2.length, v2.length] at this
              exact absurd (by simpa using this) hl
          rw [ee]
          exact ⟨.lists_lengths t1.isList t2.isList (by simpa using hl) (by omega), .lists_lengths t1.isList t2.isList (by simpa using hl) (by omega)⟩
      refine ⟨rcn.1, rcn.2, ?_⟩
      by_cases hp : p = p'
      · subst hp
        rw [eqD_same I rfl (n + 1) p1 p2 d1 d2]
        exact .same _
      · exact .of_refs hp rcn.1
end
end L2
set_option Elab.async false
set_option linter.all false
set_option maxRecDepth 100000
set_option maxHeartbeats 4000000
namespace L2
open PySem PySem.Spec PyProof.Rows
noncomputable def VO (X : Cx) (f : Value → Value → Sem Value) (r : D → D → MH → VK3 → Prop) : Prop :=
  ∀ (pins : List (Addr × Obj)) (s : Shared) (σ : St) (H : Hp) (x y : D) (v u : V) (v2 u2 : Value) (M : MH) (Q : VK3) (Q2 : VK), Inv X pins σ H s → RelV v v2 → RelV u u2 → Den X.K H x v → Den X.K H y u → RelM X.K M H → r x y M Q → Back X.K H Q Q2 →
    wpAny (model X.prog X.w) X.A (f v2 u2) (EP X pins σ Q2) X.xe s
noncomputable def VU (X : Cx) (f : Value → Sem Value) (r : D → MH → VK3 → Prop) : Prop :=
  ∀ (pins : List (Addr × Obj)) (s : Shared) (σ : St) (H : Hp) (x : D) (v : V) (v2 : Value) (M : MH) (Q : VK3) (Q2 : VK), Inv X pins σ H s → RelV v v2 → Den X.K H x v → RelM X.K M H → r x M Q → Back X.K H Q Q2 →
    wpAny (model X.prog X.w) X.A (f v2) (EP X pins σ Q2) X.xe s
noncomputable def VC (X : Cx) (f : Value) (r : List D → MH → VK3 → Prop) : Prop :=
  ∀ (pins : List (Addr × Obj)) (s : Shared) (σ : St) (H : Hp) (xs : List D) (vs : List V) (us : List Value) (M : MH) (Q : VK3) (Q2 : VK), Inv X pins σ H s → Vals vs us → DenL X.K H xs vs → RelM X.K M H → r xs M Q → Back X.K H Q Q2 →
    wpAny (model X.prog X.w) X.A (call f us) (EP X pins σ Q2) X.xe s
section
variable {X : Cx}
theorem VO.of3 {f : Value → Value → Sem Value} {r : D → D → MH → VK3 → Prop} (h : Op3 X f r) : VO X f r := by
  obtain ⟨r2, h2, hl⟩ := h
  exact fun pins s σ H x y v u v2 u2 M Q Q2 I rv ru dx dy rm q back => h2 pins s σ H v u v2 u2 Q2 I rv ru (hl H x y v u M Q Q2 dx dy rm q back)
theorem VU.of3 {f : Value → Sem Value} {r : D → MH → VK3 → Prop} (h : Un3 X f r) : VU X f r := by
  obtain ⟨r2, h2, hl⟩ := h
  exact fun pins s σ H x v v2 M Q Q2 I rv dx rm q back => h2 pins s σ H v v2 Q2 I rv (hl H x v M Q Q2 dx rm q back)
theorem VC.of3 {f : Value} {r : List D → MH → VK3 → Prop} (h : Call3 X f r) : VC X f r := by
  obtain ⟨r2, h2, hl⟩ := h
  exact fun pins s σ H xs vs us M Q Q2 I rv dx rm q back => h2 pins s σ H vs us Q2 I rv (hl H xs vs M Q Q2 dx rm q back)
theorem VO.imp {f : Value → Value → Sem Value} {r r' : D → D → MH → VK3 → Prop} (h : VO X f r) (g : ∀ x y M Q, r' x y M Q → r x y M Q) : VO X f r' :=
  fun pins s σ H x y v u v2 u2 M Q Q2 I rv ru dx dy rm q back => h pins s σ H x y v u v2 u2 M Q Q2 I rv ru dx dy rm (g x y M Q q) back
theorem VU.imp {f : Value → Sem Value} {r r' : D → MH → VK3 → Prop} (h : VU X f r) (g : ∀ x M Q, r' x M Q → r x M Q) : VU X f r' :=
  fun pins s σ H x v v2 M Q Q2 I rv dx rm q back => h pins s σ H x v v2 M Q Q2 I rv dx rm (g x M Q q) back
theorem VC.imp {f : Value} {r r' : List D → MH → VK3 → Prop} (h : VC X f r) (g : ∀ x M Q, r' x M Q → r x M Q) : VC X f r' :=
  fun pins s σ H x v v2 M Q Q2 I rv dx rm q back => h pins s σ H x v v2 M Q Q2 I rv dx rm (g x M Q q) back
theorem rI2_to {g : Int → Int → D} {x y : D} {M : MH} {Q : VK3} (h : rI2 g x y M Q) : rI30 g x y M Q := by
  unfold rI2 at h
  split at h
  · exact ⟨_, _, rfl, rfl, h⟩
  · exact h.elim
theorem rII_to {C : Int → Int → Prop} {g : Int → Int → D} {x y : D} {M : MH} {Q : VK3} (h : rII C g x y M Q) : rI3 C g x y M Q := by
  unfold rII at h
  split at h
  · exact ⟨_, _, rfl, rfl, h⟩
  · exact h.elim
theorem tup_add {pins : List (Addr × Obj)} {s : Shared} {σ : St} {H : Hp} {a b : List D} {v u : V} {v2 u2 : Value} {M : MH} {Q : VK3} {Q2 : VK} (I : Inv X pins σ H s) (rv : RelV v v2) (ru : RelV u u2) (dx : Den X.K H (.tup a) v) (dy : Den X.K H (.tup b) u) (rm : RelM X.K M H)
    (q : (a.isEmpty = false ∧ a.length + b.length ≤ sizeLine) ∧ Q (.tup (a ++ b)) M) (back : Back X.K H Q Q2) : wpAny (model X.prog X.w) X.A (binaryOp .Add v2 u2) (EP X pins σ Q2) X.xe s := by
  obtain ⟨p1, vs, rfl, sq1, dl1⟩ := dx
  obtain ⟨p2, us, rfl, sq2, dl2⟩ := dy
  obtain ⟨⟨h1, h2⟩, q⟩ := q
  refine op_catT pins s σ H _ _ v2 u2 Q2 I rv ru ⟨p1, p2, vs, us, rfl, rfl, sq1, sq2, fun z => ?_, by rw [← dl1.length, ← dl2.length]; exact h2, fun z => ?_, fun _ p hp => ?_⟩
  · have := dl1.length
    rw [z] at this
    cases a with
    | nil => cases h1
    | cons _ _ => cases this
  · have hb : b = [] := List.length_eq_zero_iff.mp (by rw [dl2.length, z]; rfl)
    subst hb
    rw [List.append_nil] at q
    exact back _ _ (.tup a) _ ⟨p1, vs, rfl, sq1, dl1⟩ rm (.refl _) q
  · exact back _ _ (.tup (a ++ b)) _ ⟨p, _, rfl, .of upd_same, (dl1.append dl2).mono (.new hp)⟩ (rm.grow hp) (.new hp) q
theorem rep_size {α : Type} (a : Array α) : ∀ (k : Nat) (b : Array α), ((List.replicate k a).foldl (· ++ ·) b).size = b.size + k * a.size
  | 0, b => by simp
  | k + 1, b => by
    rw [List.replicate_succ, List.foldl_cons, rep_size a k, Array.size_append, Nat.succ_mul]
    omega
theorem mul_text {prog : Program} {w : World} {A : Around} {E : Value → Shared → Prop} {s : Shared} {z : Str} {n : Int} {t u : Tok} {Q : Value → Shared → Prop} (n0 : 0 ≤ n) (n1 : n ≤ 100000) (hz : z.length ≤ 10)
    (h : ∀ t' tk, Q (.str (strRep z n) t') { s with toks := tk }) : wpAny (model prog w) A (binaryOp .Mult (.str z t) (.int n u)) Q E s := by
  have e1 : decide (n < -(2 ^ 63 : Int)) = false := decide_eq_false (by omega)
  have e2 : decide (n ≥ 2 ^ 63) = false := decide_eq_false (by omega)
  refine PySem.P.mul_str (by rw [e1, e2]; rfl) (fun h1 h2 => ?_) (fun h1 h2 => ?_) ?_
  · have : (2 ^ 63 - 1) / n ≥ 10 := by
      rw [ge_iff_le, Int.le_ediv_iff_mul_le (by omega)]
      omega
    omega
  · have hl : z.length * n.toNat ≤ 10 * 100000 := Nat.mul_le_mul hz (by omega)
    unfold Builtin.Str.tooLong
    exact decide_eq_false (by rw [sizeLine_eq]; omega)
  · unfold strRep at h
    split
    · rename_i hn
      rw [if_pos hn] at h
      exact ⟨by decide, h _ _⟩
    · rename_i hn
      rw [if_neg hn] at h
      split
      · rename_i hb
        rw [if_pos hb] at h
        exact h _ _
      · rename_i hb
        rw [if_neg hb] at h
        refine ⟨?_, h _ _⟩
        show ((List.replicate n.toNat z.cps).foldl (· ++ ·) #[]).size ≤ sizeLine
        rw [rep_size]
        have hl : n.toNat * z.cps.size ≤ 100000 * 10 := Nat.mul_le_mul (by omega) hz
        rw [sizeLine_eq]
        simp
        omega
theorem vo_bin (op : Operator) : VO X (binaryOp op) (rBin op) := by
  cases op with
  | Add =>
    intro pins s σ H x y v u v2 u2 M Q Q2 I rv ru dx dy rm q back
    have q' : rAddD x y M Q := q
    clear q
    unfold rAddD at q'
    split at q'
    · exact VO.of3 i_add pins s σ H _ _ v u v2 u2 M Q Q2 I rv ru dx dy rm ⟨_, _, rfl, rfl, q'⟩ back
    · rename_i a b
      cases (show v = .str a from dx)
      cases (show u = .str b from dy)
      exact op_add_str pins s σ H _ _ v2 u2 Q2 I rv ru ⟨a, b, rfl, rfl, q'.1, back _ _ _ _ den_str rm (.refl _) q'.2⟩
    · exact tup_add I rv ru dx dy rm q' back
    · exact q'.elim
  | Sub => exact (VO.of3 i_sub).imp fun _ _ _ _ h => rI2_to h
  | Mult =>
    intro pins s σ H x y v u v2 u2 M Q Q2 I rv ru dx dy rm q back
    have q' : rMulD x y M Q := q
    clear q
    unfold rMulD at q'
    split at q'
    · exact VO.of3 i_mul pins s σ H _ _ v u v2 u2 M Q Q2 I rv ru dx dy rm ⟨_, _, rfl, rfl, q'⟩ back
    · rename_i z n
      cases (show v = .str z from dx)
      cases (show u = .int n from dy)
      obtain ⟨t, rfl⟩ := rv
      obtain ⟨t', rfl⟩ := ru
      obtain ⟨⟨n0, n1, hz⟩, q'⟩ := q'
      exact mul_text n0 n1 hz fun t2 tk => ⟨.str (strRep z n), H, I.tok _, ⟨_, rfl⟩, back _ _ _ _ den_str rm (.refl _) q'⟩
    · exact q'.elim
  | FloorDiv => exact (VO.of3 i_fdiv).imp fun _ _ _ _ h => rII_to h
  | Mod => exact (VO.of3 i_mod).imp fun _ _ _ _ h => rII_to h
  | Pow => exact (VO.of3 i_pow).imp fun _ _ _ _ h => rII_to h
  | RShift => exact (VO.of3 i_shr).imp fun _ _ _ _ h => rII_to h
  | BitAnd => exact (VO.of3 i_and).imp fun _ _ _ _ h => rI2_to h
  | _ => exact fun pins s σ H x y v u v2 u2 M Q Q2 I rv ru dx dy rm q back => False.elim q
theorem vu_neg : VU X (unaryOp .USub) rNeg := (VU.of3 i_neg).imp fun x M Q h => by
  unfold rNeg at h
  split at h
  · exact ⟨_, rfl, h⟩
  · exact h.elim
theorem vo_cat (fz : Bool) : VO X (binaryOp .Add) (rCat3 fz) := by
  intro pins s σ H x y v u v2 u2 M Q Q2 I rv ru dx dy rm q back
  unfold rCat3 at q
  split at q
  next a b ea eb =>
    obtain ⟨l, xs, rfl, hH, dl⟩ := lstOf_rel rm ea dx
    obtain ⟨b', zs, rfl, hB, dl2⟩ := lstOf_rel rm eb dy
    cases rv
    cases ru
    obtain ⟨z, its, n, r, hl, e⟩ := I.rdL hH
    obtain ⟨z2, its2, n2, r2, hl2, e2⟩ := I.rdL hB
    have hlen : xs.length + zs.length ≤ sizeLine := by
      have := q.1
      rw [List.length_append, dl.length, dl2.length] at this
      exact this
    refine PySem.P.add_list e e2 ?_ (by rw [List.size_toArray, List.size_toArray]; omega)
    have ea : its.toArray ++ its2.toArray = (its ++ its2).toArray := by simp
    rw [ea]
    exact newL_back (I.lnew (t' := s.toks) (r.append r2) (by rw [List.length_append]; omega)) I.fresh (dl.append dl2) rm (.refl _) q back
  next =>
    split at q
    · exact tup_add I rv ru dx dy rm q back
    · exact q.elim
theorem res_den {K : PySem.W.Frag} {M : MH} {H : Hp} {x : D} {v : V} (rm : RelM K M H) (dx : Den K H x v) (hp : pl (res M x) = true) :
    (∃ a ds, x = .ref a ∧ M a = some (.lst ds) ∧ res M x = .rol ds) ∨ (res M x = x) := by
  cases x with
  | ref a =>
    cases e : M a with
    | none =>
      have : res M (.ref a) = .ref a := by simp [res, lstOf, e]
      rw [this] at hp; simp [plN] at hp
    | some o =>
      cases o with
      | lst ds => exact .inl ⟨a, ds, rfl, e, by simp [res, lstOf, e]⟩
      | _ =>
        have : res M (.ref a) = .ref a := by simp [res, lstOf, e]
        rw [this] at hp; simp [plN] at hp
  | rol ds => exact .inr rfl
  | _ => exact .inr rfl
theorem look_den {pins : List (Addr × Obj)} {σ : St} {H : Hp} {s : Shared} {M : MH} {x : D} {v : V} (I : Inv X pins σ H s) (rm : RelM X.K M H) (dx : Den X.K H x v) (hp : pl (res M x) = true) :
    ∃ H', Inv X pins σ H' s ∧ TM X.K H H' ∧ Den X.K H' (res M x) v := by
  rcases res_den rm dx hp with ⟨a, ds, rfl, q, e⟩ | e
  · obtain ⟨vs, e1, l⟩ := rm a _ q
    obtain ⟨o, I2⟩ := I.freeze e1
    refine ⟨_, I2, .freeze e1, ?_⟩
    rw [e]
    cases (show v = .ref a from dx)
    exact den_frozen l e1
  · rw [e]; exact ⟨H, I, .refl _, dx⟩
noncomputable def RelZ (K : PySem.W.Frag) (M : MH) (H : Hp) : Prop := ∀ a ds, M a = some (.lst ds) → ∃ vs, (H a = some (.lst vs) ∨ ∃ o, H a = some (.frz o (.lst vs))) ∧ DenL K H ds vs
theorem RelM.z {K : PySem.W.Frag} {M : MH} {H : Hp} (rm : RelM K M H) : RelZ K M H := fun a ds q => by
  obtain ⟨vs, e, l⟩ := rm a _ q
  exact ⟨vs, .inl e, l⟩
theorem frz1 {pins : List (Addr × Obj)} {σ : St} {H : Hp} {s : Shared} {M : MH} {a : Addr} {ds : List D} (I : Inv X pins σ H s) (rz : RelZ X.K M H) (q : M a = some (.lst ds)) :
    ∃ H', Inv X pins σ H' s ∧ TM X.K H H' ∧ RelZ X.K M H' ∧ ∃ vs, SqF X.K H' a vs ∧ DenL X.K H' ds vs ∧ DenL X.K H ds vs := by
  obtain ⟨vs, e | ⟨o, e⟩, l⟩ := rz a ds q
  · obtain ⟨o, I2⟩ := I.freeze e
    have t : TM X.K H (upd H a (.frz o (.lst vs))) := .freeze e
    refine ⟨_, I2, t, fun b es qb => ?_, vs, .inl ⟨o, upd_same⟩, l.mono t, l⟩
    obtain ⟨us, e2, l2⟩ := rz b es qb
    by_cases hb : b = a
    · subst hb
      rw [q] at qb; cases qb
      exact ⟨vs, .inr ⟨o, upd_same⟩, l.mono t⟩
    · refine ⟨us, ?_, l2.mono t⟩
      rw [upd_ne hb]
      exact e2
  · exact ⟨H, I, .refl _, rz, vs, .inl ⟨o, e⟩, l, l⟩
theorem lookZ {pins : List (Addr × Obj)} {σ : St} {H : Hp} {s : Shared} {M : MH} {x : D} {v : V} (I : Inv X pins σ H s) (rz : RelZ X.K M H) (dx : Den X.K H x v) :
    ∃ H', Inv X pins σ H' s ∧ TM X.K H H' ∧ RelZ X.K M H' ∧ Den X.K H' (res M x) v := by
  cases x with
  | ref a =>
    cases e : M a with
    | none =>
      have : res M (.ref a) = .ref a := by simp [res, lstOf, e]
      rw [this]; exact ⟨H, I, .refl _, rz, dx⟩
    | some o =>
      cases o with
      | lst ds =>
        obtain ⟨H', I2, t, rz2, vs, sq, l, _⟩ := frz1 I rz e
        have : res M (.ref a) = .rol ds := by simp [res, lstOf, e]
        rw [this]
        exact ⟨H', I2, t, rz2, a, vs, dx, sq, l⟩
      | _ =>
        have : res M (.ref a) = .ref a := by simp [res, lstOf, e]
        rw [this]; exact ⟨H, I, .refl _, rz, dx⟩
  | rol ds => exact ⟨H, I, .refl _, rz, dx⟩
  | _ => exact ⟨H, I, .refl _, rz, dx⟩
theorem lookL {pins : List (Addr × Obj)} {σ : St} {s : Shared} {M : MH} : ∀ {ds : List D} {vs : List V} {H : Hp}, Inv X pins σ H s → RelZ X.K M H → DenL X.K H ds vs →
    ∃ H', Inv X pins σ H' s ∧ TM X.K H H' ∧ RelZ X.K M H' ∧ DenL X.K H' (ds.map (res M)) vs
  | [], vs, H, I, rz, dl => ⟨H, I, .refl _, rz, dl⟩
  | d :: ds, vs, H, I, rz, dl => by
    obtain ⟨v, r, rfl, dv, dr⟩ := dl
    obtain ⟨H1, I1, t1, rz1, d1⟩ := lookZ I rz dv
    obtain ⟨H2, I2, t2, rz2, d2⟩ := lookL I1 rz1 (dr.mono t1)
    exact ⟨H2, I2, t1.trans t2, rz2, v, r, rfl, d1.mono t2, d2⟩
theorem lookR {pins : List (Addr × Obj)} {σ : St} {H : Hp} {s : Shared} {M : MH} {x : D} {v : V} (I : Inv X pins σ H s) (rz : RelZ X.K M H) (dx : Den X.K H x v) :
    ∃ H', Inv X pins σ H' s ∧ TM X.K H H' ∧ RelZ X.K M H' ∧ Den X.K H' (rs M x) v := by
  cases x with
  | ref a =>
    cases e : M a with
    | none =>
      have : rs M (.ref a) = .ref a := by simp [rs, lstOf, e]
      rw [this]; exact ⟨H, I, .refl _, rz, dx⟩
    | some o =>
      cases o with
      | lst ds =>
        have : rs M (.ref a) = .rol (if pls ds = true then ds else ds.map (res M)) := by simp [rs, lstOf, e]
        rw [this]
        obtain ⟨H', I2, t, rz2, vs, sq, l, _⟩ := frz1 I rz e
        split
        · exact ⟨H', I2, t, rz2, a, vs, dx, sq, l⟩
        · obtain ⟨H3, I3, t3, rz3, l3⟩ := lookL I2 rz2 l
          exact ⟨H3, I3, t.trans t3, rz3, a, vs, dx, t3.f _ _ sq, l3⟩
      | _ =>
        have : rs M (.ref a) = .ref a := by simp [rs, lstOf, e]
        rw [this]; exact ⟨H, I, .refl _, rz, dx⟩
  | rol ds =>
    have : rs M (.rol ds) = .rol (if pls ds = true then ds else ds.map (res M)) := by simp [rs, lstOf]
    rw [this]
    split
    · exact ⟨H, I, .refl _, rz, dx⟩
    · obtain ⟨p, vs, e, sq, l⟩ := dx
      obtain ⟨H3, I3, t3, rz3, l3⟩ := lookL I rz l
      exact ⟨H3, I3, t3, rz3, p, vs, e, t3.f _ _ sq, l3⟩
  | _ => exact ⟨H, I, .refl _, rz, dx⟩
theorem look2 {pins : List (Addr × Obj)} {σ : St} {H : Hp} {s : Shared} {M : MH} {x y : D} {v u : V} (I : Inv X pins σ H s) (rm : RelM X.K M H) (dx : Den X.K H x v) (dy : Den X.K H y u) :
    ∃ H', Inv X pins σ H' s ∧ Den X.K H' (rs M x) v ∧ Den X.K H' (rs M y) u := by
  obtain ⟨H1, I1, t1, rz1, d1⟩ := lookR I rm.z dx
  obtain ⟨H2, I2, t2, rz2, d2⟩ := lookR I1 rz1 (dy.mono t1)
  exact ⟨H2, I2, d1.mono t2, d2⟩
theorem vo_eq (hu : X.A.units + 64 < cLine) (neg : Bool) : VO X (compareOp (if neg = true then .NotEq else .Eq)) (rEqD neg) := by
  intro pins s σ H x y v u v2 u2 M Q Q2 I rv ru dx dy rm q back
  obtain ⟨h1, h2, q⟩ := q
  obtain ⟨H', I', d1, d2⟩ := look2 I rm dx dy
  obtain ⟨rc, rn, _⟩ := rc_D I' rfl 8 (A := X.A) h1 h2 d1 d2 rv ru (by omega)
  have fin := back _ _ _ _ (den_bl (K := X.K) (H := H)) rm (.refl _) q
  cases neg with
  | true =>
    refine rn _ _ _ _ ⟨.bl _, H, I, rfl, ?_⟩
    rw [Bool.true_xor] at fin; exact fin
  | false =>
    refine rc _ _ _ _ ⟨.bl _, H, I, rfl, ?_⟩
    rw [Bool.false_xor] at fin; exact fin
end
end L2
set_option Elab.async false
set_option linter.all false
set_option maxRecDepth 100000
set_option maxHeartbeats 4000000
namespace L2
open PySem PySem.Spec PyProof.Rows
section
variable {K : PySem.W.Frag} {H : Hp} {M : MH}
theorem getD_val {κ : Type} [DecidableEq κ] : ∀ {ks : List κ} {ds : List D} {vs : List V} {k : κ}, DenL K H ds vs → ks.length = vs.length →
    (∀ d, getD ks ds k = some d → ∃ v, valV (ks.zip vs) k = some v ∧ Den K H d v) ∧ (getD ks ds k = none → valV (ks.zip vs) k = none)
  | [], _, vs, k, _, _ => ⟨fun d e => by simp [getD] at e, fun _ => by simp [valV]⟩
  | q :: ks, [], vs, k, dl, hl => by cases (show vs = [] from dl); cases hl
  | q :: ks, d0 :: ds, _, k, dl, hl => by
    obtain ⟨v, r, rfl, dv, dl⟩ := dl
    have ih := getD_val (ks := ks) (k := k) dl (by simpa using hl)
    by_cases z : q = k
    · refine ⟨fun d e => ?_, fun e => ?_⟩
      · simp only [getD, if_pos z] at e
        cases e
        exact ⟨v, valV_pos (p := (q, v)) z, dv⟩
      · simp only [getD, if_pos z] at e; cases e
    · refine ⟨fun d e => ?_, fun e => ?_⟩
      · simp only [getD, if_neg z] at e
        obtain ⟨w, h1, h2⟩ := ih.1 d e
        exact ⟨w, (valV_neg (p := (q, v)) z).trans h1, h2⟩
      · simp only [getD, if_neg z] at e
        exact (valV_neg (p := (q, v)) z).trans (ih.2 e)
theorem keyD_rel {y : D} {u : V} {k : Key} (h : keyD y = some k) (d : Den K H y u) : u = kV k := by
  cases y with
  | int i => cases (show some (Sum.inl i) = some k from h); exact d
  | str x => cases (show some (Sum.inr x) = some k from h); exact d
  | _ => cases h
theorem intsK_rel : ∀ {es : List D} {vs : List V} {k : List Int}, intsK es = some k → DenL K H es vs → vs = k.map V.int
  | [], vs, k, h, dl => by cases (show some [] = some k from h); exact dl
  | d :: es, _, k, h, dl => by
    obtain ⟨v, r, rfl, dv, dl⟩ := dl
    cases d with
    | int i =>
      simp only [intsK] at h
      split at h
      · rename_i ns q
        cases h
        rw [intsK_rel q dl]
        cases (show v = .int i from dv)
        rfl
      · cases h
    | _ => cases h
theorem keyT_rel {y : D} {u : V} {k : List Int} (h : keyT y = some k) (d : Den K H y u) : ∃ b, u = .ref b ∧ SqT K H b (k.map V.int) := by
  cases y with
  | tup es =>
    obtain ⟨b, vs, e, sq, dl⟩ := d
    refine ⟨b, e, ?_⟩
    rw [← intsK_rel h dl]; exact sq
  | _ => cases h
theorem asDk_rel {x : D} {v : V} {ks : List Key} {ds : List D} (h : asDk M x = some (ks, ds)) (rm : RelM K M H) (d : Den K H x v) : ∃ p vs, v = .ref p ∧ Rd H p (.dK (ks.zip vs)) ∧ ks.length = vs.length ∧ DenL K H ds vs := by
  cases x with
  | dik ks' ds' =>
    cases h
    obtain ⟨p, vs, o, rfl, e, hl, dl⟩ := d
    exact ⟨p, vs, rfl, .inr ⟨o, e⟩, hl, dl⟩
  | ref a =>
    simp only [asDk] at h
    split at h
    · rename_i q
      cases h
      obtain ⟨vs, e, hl, dl⟩ := rm a _ q
      exact ⟨a, vs, d, .inl e, hl, dl⟩
    · cases h
  | _ => cases h
theorem asDt_rel {x : D} {v : V} {ks : List (List Int)} {ds : List D} (h : asDt M x = some (ks, ds)) (rm : RelM K M H) (d : Den K H x v) : ∃ p vs xs, v = .ref p ∧ Rd H p (.ext (tabT p xs)) ∧ TabOk K H p ks xs vs ∧ DenL K H ds vs := by
  cases x with
  | dit ks' ds' =>
    cases h
    obtain ⟨p, vs, o, xs, rfl, e, z, dl⟩ := d
    exact ⟨p, vs, xs, rfl, .inr ⟨o, e⟩, z, dl⟩
  | ref a =>
    simp only [asDt] at h
    split at h
    · rename_i q
      cases h
      obtain ⟨vs, xs, e, z, dl⟩ := rm a _ q
      exact ⟨a, vs, xs, d, .inl e, z, dl⟩
    · cases h
  | _ => cases h
theorem TabOk.len {a : Addr} {ks : List (List Int)} {xs : List (List Int × Addr × Value)} {vs : List V} (z : TabOk K H a ks xs vs) : ks.length = vs.length := by
  rw [← z.kx, List.length_map, z.vx.length, List.length_map]
theorem val_atKey : ∀ {xs : List (List Int × Addr × Value)} {vs : List V} (k : List Int), Vals vs (xs.map (·.2.2)) → RelO (valV ((xs.map (·.1)).zip vs) k) ((atKey xs k).map (·.2))
  | [], vs, k, r => by cases r; exact True.intro
  | x :: xs, vs, k, r => by
    rw [List.map_cons] at r
    cases r with
    | @cons v _ vs _ h t =>
      have ih := val_atKey k t
      by_cases e : x.1 = k
      · have b : atKey (x :: xs) k = some x.2 := by simp [atKey, List.find?_cons, e]
        rw [List.map_cons, List.zip_cons_cons, valV_pos (p := (x.1, v)) e, b]; exact h
      · have b : atKey (x :: xs) k = atKey xs k := by simp [atKey, List.find?_cons, e]
        rw [List.map_cons, List.zip_cons_cons, valV_neg (p := (x.1, v)) e, b]; exact ih
end
inductive DRd (X : Cx) (H : Hp) (a : Addr) (u : V) : Option V → Prop where
  | k {kvs : List (Key × V)} {k : Key} (e : Rd H a (.dK kvs)) (hu : u = kV k) : DRd X H a u (valV kvs k)
  | t {ks : List (List Int)} {xs : List (List Int × Addr × Value)} {vs : List V} {k : List Int} {b : Addr} (e : Rd H a (.ext (tabT a xs))) (z : TabOk X.K H a ks xs vs) (hu : u = .ref b) (sq : SqT X.K H b (k.map V.int)) : DRd X H a u (valV (ks.zip vs) k)
noncomputable def OptDen (K : PySem.W.Frag) (H : Hp) : Option D → Option V → Prop
  | some d, some v => Den K H d v
  | none, none => True
  | _, _ => False
theorem dget_rel {X : Cx} {H : Hp} {M : MH} {x y : D} {v u : V} {o : Option D} (h : dGet M x y = some o) (rm : RelM X.K M H) (dx : Den X.K H x v) (dy : Den X.K H y u) : ∃ a ov, v = .ref a ∧ DRd X H a u ov ∧ OptDen X.K H o ov := by
  unfold dGet at h
  split at h
  · rename_i ks ds e
    split at h
    · rename_i k ek
      cases h
      obtain ⟨p, vs, rfl, rd, hl, dl⟩ := asDk_rel e rm dx
      refine ⟨p, _, rfl, .k rd (keyD_rel ek dy), ?_⟩
      have g := getD_val (k := k) dl hl
      cases q : getD ks ds k with
      | none => rw [g.2 q]; exact True.intro
      | some d => obtain ⟨w, h1, h2⟩ := g.1 d q; rw [h1]; exact h2
    · cases h
  · split at h
    · rename_i ks ds e
      split at h
      · rename_i k ek
        cases h
        obtain ⟨p, vs, xs, rfl, rd, z, dl⟩ := asDt_rel e rm dx
        obtain ⟨b, hb, sq⟩ := keyT_rel ek dy
        refine ⟨p, _, rfl, .t rd z hb sq, ?_⟩
        have g := getD_val (k := k) dl z.len
        cases q : getD ks ds k with
        | none => rw [g.2 q]; exact True.intro
        | some d => obtain ⟨w, h1, h2⟩ := g.1 d q; rw [h1]; exact h2
      · cases h
    · cases h
section
variable {X : Cx} {pins : List (Addr × Obj)} {σ : St} {H : Hp} {s : Shared} {a : Addr} {y v : V} {u r : Value} {o : Option V} {A : Around} {E : Value → Shared → Prop}
theorem ints_items {P : Program} {w : World} : ∀ {ks : List Int} {us : List Value}, Vals (ks.map V.int) us → ItemsAre (intKind P w) ks us
  | [], _, r => by rw [List.map_nil] at r; cases r; exact .nil
  | k :: ks, _, r => by
    rw [List.map_cons] at r
    cases r with
    | cons h t =>
      obtain ⟨tk, rfl⟩ := h
      exact .cons (by show Value.isInt k (.int k tk) = true; simp [Value.isInt]) (ints_items t)
theorem key_sq {b : Addr} {k : List Int} (I : Inv X pins σ H s) (sq : SqT X.K H b (k.map V.int)) : (tupleKind (intKind X.prog X.w)).is s.heap k b := by
  obtain ⟨its, r, ⟨o, e, c, n, d⟩, _⟩ := I.tuple sq
  exact ⟨o, its.toArray, n, e, c, d, by simpa using ints_items r⟩
theorem tab_dict {ks : List (List Int)} {xs : List (List Int × Addr × Value)} {vs : List V} (I : Inv X pins σ H s) (e : Rd H a (.ext (tabT a xs))) (z : TabOk X.K H a ks xs vs) : s.heap.DictOfH (tupleKind (intKind X.prog X.w)) a xs := by
  obtain ⟨⟨ob, es, ep, h1, h2, h3, h4⟩, _⟩ := (show ObjOk X.prog X.w H s.heap a (.ext (tabT a xs)) from e.ok I.hok)
  exact ⟨ob, es, ep, h1, h2, h3, h4, fun x hx => key_sq I (z.at_ x hx), by rw [z.kx]; exact z.nd⟩
theorem DRd.isDict (I : Inv X pins σ H s) (g : DRd X H a y o) : s.TypeIs (.ref a) "dict" := by
  cases g with
  | k e _ => obtain ⟨_, _, vs, _, dd⟩ := dk_rd I.hok e; exact dd.typeIs
  | t e z _ _ => exact (tab_dict I e z).typeIs
theorem e_getItem {Q : Value → Shared → Prop} (hu : A.units + 1 < cLine) (I : Inv X pins σ H s) (g : DRd X H a y o) (ho : o = some v) (ry : RelV y u) (h : ∀ w' s', Inv X pins σ H s' → RelV v w' → Q w' s') :
    wpAny (model X.prog X.w) A (getItem (.ref a) u) Q E s := by
  cases g with
  | k e hk => exact d_getItem hu I (.inl ⟨_, _, e, hk, ho.symm⟩) ry h
  | @t ks xs vs k b e z hb sq =>
    subst hb
    cases (show u = Value.ref b from ry)
    have dd := tab_dict I e z
    have rel := val_atKey (vs := vs) k z.vx
    rw [z.kx] at rel
    obtain ⟨w', hw, rw'⟩ := RelO.some_of (v := v) (o := (atKey xs k).map (·.2)) (by rw [← ho]; exact rel)
    obtain ⟨p, hp, hp2⟩ := Option.map_eq_some_iff.mp hw
    refine wpAny_getItem_heap (tupleKind_room_in1 hu) (key_sq I sq) dd hp ?_
    rw [hp2]
    exact h w' _ (I.tok _) rw'
theorem e_in {Q : Value → Shared → Prop} (neg : Bool) (hu : A.units + 1 < cLine) (I : Inv X pins σ H s) (g : DRd X H a y o) (ry : RelV y u) (h : ∀ s', Inv X pins σ H s' → Q (.bool (neg ^^ o.isSome)) s') :
    wpAny (model X.prog X.w) A (compareOp (if neg = true then .NotIn else .In) u (.ref a)) Q E s := by
  cases g with
  | k e hk =>
    cases neg with
    | true => exact d_notIn hu I (.inl ⟨_, _, e, hk, rfl⟩) ry fun s' I' => by have := h s' I'; rw [Bool.true_xor] at this; exact this
    | false => exact d_in hu I (.inl ⟨_, _, e, hk, rfl⟩) ry fun s' I' => by have := h s' I'; rw [Bool.false_xor] at this; exact this
  | @t ks xs vs k b e z hb sq =>
    subst hb
    cases (show u = Value.ref b from ry)
    have dd := tab_dict I e z
    have rel := val_atKey (vs := vs) k z.vx
    rw [z.kx] at rel
    have q := rel.isSome_eq
    rw [Option.isSome_map] at q
    rw [q] at h
    cases neg with
    | true =>
      refine wpAny_notIn_heap (tupleKind_room_in1 hu) (key_sq I sq) z.no dd ?_
      have := h _ (I.tok (s.toks + (tupleKind (intKind X.prog X.w)).draws k))
      rw [Bool.true_xor] at this; exact this
    | false =>
      refine wpAny_in_heap (tupleKind_room_in1 hu) (key_sq I sq) z.no dd ?_
      have := h _ (I.tok (s.toks + (tupleKind (intKind X.prog X.w)).draws k))
      rw [Bool.false_xor] at this; exact this
end
section
variable {K : PySem.W.Frag} {H : Hp}
end
section
variable {X : Cx} {pins : List (Addr × Obj)} {σ : St} {H : Hp} {s : Shared} {a : Addr} {u r : Value} {A : Around} {E : Value → Shared → Prop} {M : MH} {ks : List Key} {ds : List D}
end
end L2
set_option Elab.async false
set_option linter.all false
set_option maxRecDepth 100000
set_option maxHeartbeats 4000000
namespace L2
open PySem PySem.Spec PyProof.Rows PySem.W
section
variable {prog : Program} {w : World} {A : Around} {E : Value → Shared → Prop} {s : Shared} {d it r : Addr} {ob : Obj} {es : Array DictEntry} {ep i : Nat} {e : DictEntry}
theorem dlen_meet (hn : (d == sysModules) = false) : MeetsIn prog w (Builtin.«dict.__len__» ⟨[.ref d], []⟩) (fun _ R s => ∃ ob es ep, s.heap.get? d = some ob ∧ ob.data = .dict es ep ∧ R (.ok (.ret (.int es.size s.toks))) { s with toks := s.toks + 1 }) :=
  .of_wp fun A R s ⟨ob, es, ep, ho, hd, q⟩ => by
    show wpAny _ _ (dictSize d >>= _) _ _ s
    unfold dictSize
    refine wpAny_bind (wpAny_bind (wpAny_dictEntries ho hd (wpAny_pure ?_)))
    show wpAny _ _ (Builtin.Dict.pendingCount d >>= _) _ _ s
    exact wpAny_bind (wpAny_pendingCount_other hn (wpAny_ret_mkInt q))
theorem dlen {Q : Value → Shared → Prop} (hn : (d == sysModules) = false) (ho : s.heap.get? d = some ob) (hx : ob.ExactDict) (hd : ob.data = .dict es ep) (hz : (es.size : Int) < 2 ^ 63) (q : Q (.int es.size (s.toks + 1)) { s with toks := s.toks + 1 + 1 }) :
    wpAny (model prog w) A (call (.builtin "len") [.ref d]) Q E s := by
  have hT : s.TypeIs (.ref d) "dict" := ⟨_, ho, hx.1⟩
  refine Calls.call_function_entry kind_len plain_len entry_len (args_len1 _) ?_
  unfold Builtin.«len»
  refine wpAny_bind (m := oneArg "len" _) (wpAny_pure ?_)
  refine wpAny_bind (m := callSpecial? (.ref d) (Str.ofString "__len__")) (wpAny_callSpecial?_slot (name := Str.ofString "__len__") hT F.slot_dict_len
    (call_meetsIn F.slot_dict_len hT F.entry_dict_len (F.args_dict_len_1 _) (dlen_meet hn) ⟨ob, es, ep, ho, hd, ?_⟩))
  show wpAny _ _ _ _ _ { s with toks := s.toks + 1 }
  refine wpAny_bind (wpAny_holding (wpAny_pure ?_))
  refine wpAny_bind (wpAny_letGo ?_)
  show wpAny _ _ (if ((es.size : Nat) : Int) < 0 then _ else _) _ _ _
  rw [if_neg (by omega)]
  show wpAny _ _ (if ((es.size : Nat) : Int) ≥ 2 ^ 63 then _ else _) _ _ _
  rw [if_neg (by omega)]
  exact wpAny_bind (wpAny_mkInt (wpAny_pure ⟨_, rfl, q⟩))
end
end L2
set_option Elab.async false
set_option linter.all false
set_option maxRecDepth 100000
set_option maxHeartbeats 4000000
namespace L2
open PySem PySem.Spec PyProof.Rows
section
variable {X : Cx}
theorem vo_is (neg : Bool) : VO X (compareOp (if neg = true then .IsNot else .Is)) (rIsD neg) := by
  intro pins s σ H x y v u v2 u2 M Q Q2 I rv ru dx dy rm q back
  unfold rIsD at q
  split at q
  · cases (show u = .non from dy)
    cases neg with
    | true => exact VO.of3 i_isnot pins s σ H x .non v .non v2 u2 M Q Q2 I rv ru dx dy rm ⟨rfl, by rw [Bool.true_xor] at q; exact q⟩ back
    | false => exact VO.of3 i_is pins s σ H x .non v .non v2 u2 M Q Q2 I rv ru dx dy rm ⟨rfl, by rw [Bool.false_xor] at q; exact q⟩ back
  · rename_i b
    cases (show u = .bl b from dy)
    cases ru
    have fin : ∀ k, Q (.bl k) M → EP X pins σ Q2 (.bool k) s := fun k q => ⟨.bl k, H, I, rfl, back _ _ _ _ den_bl rm (.refl _) q⟩
    split at q
    · rename_i a
      cases (show v = .bl a from dx)
      cases rv
      have e : ((Value.bool a == Value.bool b) : Bool) = (a == b) := by cases a <;> cases b <;> rfl
      cases neg with
      | true => exact wpAny_isNot_plain rfl (by rw [e]; rw [Bool.true_xor] at q; exact fin _ q)
      | false => exact wpAny_is_plain rfl (by rw [e]; rw [Bool.false_xor] at q; exact fin _ q)
    · cases (show v = .non from dx)
      cases rv
      cases neg with
      | true => exact wpAny_isNot_other rfl (fun z => nomatch z) (fin _ q)
      | false => exact wpAny_is_other rfl (fun z => nomatch z) (fin _ q)
    · exact q.elim
  · exact q.elim
theorem any_of {β : Type} {R : D → β → Prop} {e : β → Bool} {f : D → Bool} : ∀ {ds : List D} {us : List β}, Paired R ds us → (∀ d u, d ∈ ds → R d u → e u = f d) → us.any e = ds.any f
  | _, _, .nil, _ => rfl
  | d :: ds, u :: us, .cons r t, h => by
    rw [List.any_cons, List.any_cons, h d u List.mem_cons_self r, any_of t fun d u hd => h d u (List.mem_cons_of_mem _ hd)]
theorem paired_dv {K : PySem.W.Frag} {H : Hp} : ∀ {ds : List D} {vs : List V} {us : List Value}, DenL K H ds vs → Vals vs us → Paired (fun d u => ∃ v, Den K H d v ∧ RelV v u) ds us
  | [], _, _, h, r => by cases (show _ = [] from h); cases r; exact .nil
  | d :: ds, _, _, h, r => by
    obtain ⟨v, r', rfl, dv, dl⟩ := h
    cases r with
    | cons r1 r2 => exact .cons ⟨v, dv, r1⟩ (paired_dv dl r2)
theorem Paired.mem_right {α β : Type} {R : α → β → Prop} : ∀ {l : List α} {m : List β}, Paired R l m → ∀ b ∈ m, ∃ a ∈ l, R a b
  | _, _, .nil, b, hb => by cases hb
  | a :: l, c :: m, .cons r t, b, hb => by
    rcases List.mem_cons.mp hb with rfl | hb
    · exact ⟨a, List.mem_cons_self, r⟩
    · obtain ⟨a', h1, h2⟩ := Paired.mem_right t b hb
      exact ⟨a', List.mem_cons_of_mem _ h1, h2⟩
theorem vo_in (hu : X.A.units + 64 < cLine) (neg : Bool) : VO X (compareOp (if neg = true then .NotIn else .In)) (rInD neg) := by
  intro pins s σ H x y v u v2 u2 M Q Q2 I rv ru dx dy rm q back
  unfold rInD at q
  split at q
  · rename_i ds eds
    obtain ⟨p1, p2, q⟩ := q
    obtain ⟨p, vs, rfl, hq, dl⟩ := seqOf_rel rm eds dy
    cases ru
    obtain ⟨H', I', t', d1⟩ := look_den I rm dx p1
    have dl' := dl.mono t'
    have fin : EP X pins σ Q2 (.bool (neg ^^ ds.any fun d => eqD d (res M x))) s := ⟨.bl _, H, I, rfl, back _ _ _ _ den_bl rm (.refl _) q⟩
    classical
    have key : ∀ {its : List Value}, Vals vs its → ∃ e : Value → Bool, its.any e = (ds.any fun d => eqD d (res M x)) ∧ ∀ w ∈ its, SeqAt.EqAt X.A.in1 s w v2 (e w) := fun {its} r => by
      have pd := paired_dv dl' r
      let e : Value → Bool := fun w => if h : ∃ d ∈ ds, ∃ v, Den X.K H' d v ∧ RelV v w then eqD h.choose (res M x) else false
      have he : ∀ d w, d ∈ ds → (∃ v, Den X.K H' d v ∧ RelV v w) → e w = eqD d (res M x) := fun d w hd ⟨v', dv, rw'⟩ => by
        have h : ∃ d ∈ ds, ∃ v, Den X.K H' d v ∧ RelV v w := ⟨d, hd, v', dv, rw'⟩
        obtain ⟨hm, v'', dv2, rw2⟩ := h.choose_spec
        have : v'' = v' := rw2.inj rw'
        subst this
        have e1 : h.choose = d := den_inj I' rfl 8 (List.all_eq_true.mp p2 _ hm) (List.all_eq_true.mp p2 _ hd) dv2 dv
        show (if h : ∃ d ∈ ds, ∃ v, Den X.K H' d v ∧ RelV v w then eqD h.choose (res M x) else false) = _
        rw [dif_pos h, e1]
      refine ⟨e, any_of pd he, fun w hw => ?_⟩
      obtain ⟨d, hd, v', dv, rw'⟩ := Paired.mem_right pd w hw
      rw [he d w hd ⟨v', dv, rw'⟩]
      exact (rc_D I' rfl 8 (A := X.A.in1) (List.all_eq_true.mp p2 _ hd) p1 dv d1 rw' rv (by show X.A.units + 1 + 8 < cLine; omega)).2.2
    rcases hq with hq | hq
    · obtain ⟨its, r, pl', hz⟩ := I.list hq
      obtain ⟨e, e1, e2⟩ := key r
      have ea : its.toArray.any e = ds.any fun d => eqD d (res M x) := by rw [← e1]; simp
      cases neg with
      | true => exact SeqAt.notIn_listAt e pl'.isList (fun w hw => e2 w (by simpa using hw)) (by rw [ea]; rw [Bool.true_xor] at fin; exact fin)
      | false => exact SeqAt.in_listAt e pl'.isList (fun w hw => e2 w (by simpa using hw)) (by rw [ea]; rw [Bool.false_xor] at fin; exact fin)
    · obtain ⟨its, r, pl', hz⟩ := I.tuple hq
      obtain ⟨e, e1, e2⟩ := key r
      have ea : its.toArray.any e = ds.any fun d => eqD d (res M x) := by rw [← e1]; simp
      cases neg with
      | true => exact SeqAt.notIn_tupleAt e pl' (fun w hw => e2 w (by simpa using hw)) (by rw [ea]; rw [Bool.true_xor] at fin; exact fin)
      | false => exact SeqAt.in_tupleAt e pl' (fun w hw => e2 w (by simpa using hw)) (by rw [ea]; rw [Bool.false_xor] at fin; exact fin)
  · split at q
    · rename_i o e
      obtain ⟨a, ov, rfl, g, od⟩ := dget_rel (X := X) e rm dy dx
      cases ru
      refine e_in neg (by omega) I g rv fun s' I' => ⟨.bl (neg ^^ ov.isSome), H, I', rfl, back _ _ (.bl _) _ den_bl rm (.refl _) ?_⟩
      have : o.isSome = ov.isSome := by
        cases o <;> cases ov <;> first | rfl | exact od.elim
      rw [← this]; exact q
    · split at q
      · rename_i i j _ _
        cases (show v = .str i from dx)
        cases (show u = .str j from dy)
        cases neg with
        | false => exact op_in_str pins s σ H _ _ v2 u2 Q2 I rv ru ⟨i, j, rfl, rfl, back _ _ (.bl _) _ den_bl rm (.refl _) (by rw [Bool.false_xor] at q; exact q)⟩
        | true => exact op_notin_str pins s σ H _ _ v2 u2 Q2 I rv ru ⟨i, j, rfl, rfl, back _ _ (.bl _) _ den_bl rm (.refl _) (by rw [Bool.true_xor] at q; exact q)⟩
      · exact q.elim
theorem vo_cmp (hu : X.A.units + 64 < cLine) (op : CmpOp) : VO X (compareOp op) (rCmp op) := by
  cases op with
  | Eq => exact vo_eq hu false
  | NotEq => exact vo_eq hu true
  | Lt => exact (VO.of3 i_lt).imp fun _ _ _ _ h => rI2_to h
  | LtE => exact (VO.of3 i_le).imp fun _ _ _ _ h => rI2_to h
  | Gt => exact (VO.of3 i_gt).imp fun _ _ _ _ h => rI2_to h
  | GtE => exact (VO.of3 i_ge).imp fun _ _ _ _ h => rI2_to h
  | Is => exact vo_is false
  | IsNot => exact vo_is true
  | In => exact vo_in hu false
  | NotIn => exact vo_in hu true
theorem denL1 {K : PySem.W.Frag} {H : Hp} {d : D} {vs : List V} (h : DenL K H [d] vs) : ∃ v, vs = [v] ∧ Den K H d v := by
  obtain ⟨v, r, rfl, dv, rfl⟩ := h; exact ⟨v, rfl, dv⟩
noncomputable def rLen0 (xs : List D) (M : MH) (Q : VK3) : Prop := match xs with
    | [x] => match seqOf M x with
      | some ds => Q (.int ds.length) M
      | none => False
    | _ => False
theorem vc_len0 : VC X (.builtin "len") rLen0 := (VC.of3 b_len).imp fun xs M Q h => by
  simp only [rLen0] at h
  split at h
  · rename_i x
    split at h
    · rename_i ds e
      refine ⟨x, ds, rfl, ?_, h⟩
      cases x with
      | tup es => exact .inr (by rw [show es = ds from Option.some.inj e])
      | rol es => exact .inl (.inl (by rw [show es = ds from Option.some.inj e]))
      | ref a =>
        cases q : M a with
        | none => simp [seqOf, lstOf, q] at e
        | some o =>
          cases o with
          | lst es => exact .inl (.inr ⟨a, rfl, by rw [q]; simp [seqOf, lstOf, q] at e; rw [e]⟩)
          | _ => simp [seqOf, lstOf, q] at e
      | _ => cases e
    · exact h.elim
  · exact h.elim
theorem tab_obj {pins : List (Addr × Obj)} {σ : St} {H : Hp} {s : Shared} {p : Addr} {ks : List (List Int)} {xs : List (List Int × Addr × Value)} {vs : List V} (I : Inv X pins σ H s) (e : Rd H p (.ext (tabT p xs))) (z : TabOk X.K H p ks xs vs) :
    ∃ ob es ep, s.heap.get? p = some ob ∧ ob.ExactDict ∧ ob.data = .dict es ep ∧ es.toList = (xs.map fun x => (⟨tH x.1, .ref x.2.1, x.2.2⟩ : DictEntry)) ∧ es.size = ks.length := by
  obtain ⟨⟨ob, es, ep, h1, h2, h3, h4⟩, _⟩ := (show ObjOk X.prog X.w H s.heap p (.ext (tabT p xs)) from e.ok I.hok)
  refine ⟨ob, es, ep, h1, h2, h3, h4, ?_⟩
  have := congrArg List.length h4
  have l3 : xs.length = ks.length := by rw [← z.kx]; simp
  simp at this
  omega
theorem vc_len : VC X (.builtin "len") (rBi .len) := by
  intro pins s σ H xs vs us M Q Q2 I rs dl rm q back
  by_cases h : rLen0 xs M Q
  · exact vc_len0 pins s σ H xs vs us M Q Q2 I rs dl rm h back
  · simp only [rBi] at q
    split at q
    · rename_i x
      split at q
      · rename_i ds e
        exact absurd (by simp only [rLen0, e]; exact q) h
      · split at q
        · rename_i ks ds e
          obtain ⟨v, rfl, dv⟩ := denL1 dl
          obtain ⟨p, ws, ts, rfl, rd, z, _⟩ := asDt_rel e rm dv
          obtain ⟨ob, es, ep, h1, h2, h3, h4, h5⟩ := tab_obj I rd z
          obtain ⟨u, rfl, rx⟩ := vals1 rs
          cases rx
          refine dlen z.no h1 h2 h3 (by have := z.sz; have := sizeLine_eq; omega) ⟨.int es.size, H, I.tok _, ⟨_, rfl⟩, ?_⟩
          rw [h5]
          exact back _ _ _ _ den_int rm (.refl _) q
        · split at q
          · rename_i z _ _
            obtain ⟨v, rfl, dv⟩ := denL1 dl
            cases (show v = .str z from dv)
            exact call_len_str pins s σ H _ us Q2 I rs ⟨z, rfl, q.1, back _ _ _ _ den_int rm (.refl _) q.2⟩
          · exact q.elim
    · exact q.elim
theorem vc_min (hc : X.calm = true) : VC X (.builtin "min") (rBi .min) := (VC.of3 (b_min hc)).imp fun xs M Q h => by
  simp only [rBi] at h
  split at h
  · exact ⟨_, _, rfl, h⟩
  · exact h.elim
end
end L2
set_option Elab.async false
set_option linter.all false
set_option maxRecDepth 100000
set_option maxHeartbeats 4000000
namespace L2
open PySem PySem.Spec PyProof.Rows PySem.W
theorem vals_pick {vs : List V} {us : List Value} (r : Vals vs us) : ∀ (is : List Nat), (∀ i ∈ is, i < vs.length) → Vals (is.map fun i => vs.getD i .non) (is.map fun i => us.getD i .none)
  | [], _ => .nil
  | i :: is, h => by
    refine .cons ?_ (vals_pick r is fun j hj => h j (List.mem_cons_of_mem _ hj))
    have hi := h i List.mem_cons_self
    have e : vs[i]? = some (vs.getD i .non) := by simp [hi]
    obtain ⟨u, hu, ru⟩ := r.get e
    have : us.getD i .none = u := by rw [List.getD_eq_getElem?_getD, hu]; rfl
    show RelV (vs.getD i .non) (us.getD i .none)
    rw [this]; exact ru
theorem den_pick {K : PySem.W.Frag} {H : Hp} {ds : List D} {vs : List V} (dl : DenL K H ds vs) : ∀ (is : List Nat), (∀ i ∈ is, i < ds.length) → DenL K H (is.map fun i => ds.getD i .non) (is.map fun i => vs.getD i .non)
  | [], _ => rfl
  | i :: is, h => by
    refine .cons ?_ (den_pick dl is fun j hj => h j (List.mem_cons_of_mem _ hj))
    have hi := h i List.mem_cons_self
    have e : ds[i]? = some (ds.getD i .non) := by simp [hi]
    obtain ⟨v, hv, dv⟩ := dl.get e
    have : vs.getD i .non = v := by rw [List.getD_eq_getElem?_getD, hv]; rfl
    show Den K H (ds.getD i .non) (vs.getD i .non)
    rw [this]; exact dv
theorem ints_of {K : PySem.W.Frag} {H : Hp} : ∀ {es : List D} {ns : List Int} {vs : List V} {us : List Value}, intsK es = some ns → DenL K H es vs → Vals vs us → IntsAre us ns
  | [], ns, vs, us, h, dl, r => by
    cases (show [] = ns from Option.some.inj h)
    cases (show vs = [] from dl)
    cases r
    exact .nil
  | d :: es, ns, vs, us, h, dl, r => by
    obtain ⟨v, ws, rfl, dv, dl⟩ := dl
    cases d with
    | int i =>
      cases q : intsK es with
      | none => simp [intsK, q] at h
      | some ms =>
        simp [intsK, q] at h
        subst h
        cases (show v = .int i from dv)
        cases r with
        | cons h1 h2 =>
          obtain ⟨t, rfl⟩ := h1
          exact .cons _ _ (ints_of q dl h2)
    | _ => simp [intsK] at h
theorem lv_of {X : Cx} {pins : List (Addr × Obj)} {σ : St} {H : Hp} {s : Shared} (I : Inv X pins σ H s) : ∀ {ds : List D} {vs : List V} {us : List Value} {ps : List (List Int)}, listsD ds = some ps → DenL X.K H ds vs → Vals vs us → Lv s.heap us ps ∧ ds.length = ps.length
  | [], vs, us, ps, h, dl, r => by
    cases (show [] = ps from Option.some.inj h)
    cases (show vs = [] from dl)
    cases r
    exact ⟨rfl, rfl⟩
  | d :: ds, vs, us, ps, h, dl, r => by
    obtain ⟨v, ws, rfl, dv, dl⟩ := dl
    cases d with
    | rol es =>
      cases q : intsK es with
      | none => simp [listsD, q] at h
      | some ns =>
        cases q2 : listsD ds with
        | none => simp [listsD, q, q2] at h
        | some ls =>
          simp [listsD, q, q2] at h
          subst h
          cases r with
          | cons rv r =>
            obtain ⟨p1, p2⟩ := lv_of I q2 dl r
            obtain ⟨t, xs, rfl, sq, dw⟩ := dv
            cases rv
            obtain ⟨_, its, n, ri, _, g⟩ := I.rdL sq.rd
            exact ⟨⟨ns, ls, rfl, ⟨t, n, its, rfl, g, ints_of q dw ri⟩, p1⟩, by rw [List.length_cons, List.length_cons, p2]⟩
    | _ => simp [listsD] at h
theorem Lv.at {h : Heap} : ∀ {vs : List Value} {ps : List (List Int)}, Lv h vs ps → ∀ v ∈ vs, ∃ t o, v = .ref t ∧ h.get? t = some o
  | [], _, _, v, m => nomatch m
  | v :: vs, _, e, u, m => by
    obtain ⟨p, r, rfl, ⟨t, n, ws, rfl, g, c⟩, z⟩ := e
    rcases List.mem_cons.mp m with rfl | m
    · exact ⟨t, _, rfl, g⟩
    · exact z.at u m
theorem sortedL_ok {prog : Program} {w : World} {A : Around} {E : Value → Shared → Prop} {s : Shared} {l : Addr} {vs : List Value} {ps : List (List Int)} {Q : Value → Shared → Prop} (hl : s.heap.IsList l vs.toArray) (hu : A.units + 8 < cLine) (hv : Lv s.heap vs ps) (hok : sortLok ps = true)
    (h : ∀ h' a c, s.heap.objs.size ≤ a → (∀ b o, s.heap.get? b = some o → h'.get? b = some o) → h'.get? a = some (seqObj "list" (sortVl vs ps).toArray c) → Q (.ref a) { s with heap := h' }) : wpAny (model prog w) A (call (.builtin "sorted") [.ref l]) Q E s := by
  have hz := hv.length
  have h5 := (lok_le hok).1
  refine Calls.call_function_entry kind_sorted plain_sorted entry_sorted (args_sorted1 _) ?_
  unfold Builtin.«sorted»
  refine wpAny_bind (m := checkCount "sorted" 1 1 _) (wpAny_pure (wpAny_bind (collect_list hl (wpAny_bind (wpAny_newList ?_ (by rw [sizeLine_eq]; omega))) (by rw [sizeLine_eq]; omega))))
  have sz : ((s.heap.push (seqObj "list" #[] 0)).update s.heap.objs.size (Obj.mapSeq (· ++ vs.toArray))).objs.size = s.heap.objs.size + 1 := by rw [Heap.size_update, size_push']
  have k1 : ∀ b o, s.heap.get? b = some o → ((s.heap.push (seqObj "list" #[] 0)).update s.heap.objs.size (Obj.mapSeq (· ++ vs.toArray))).get? b = some o := fun b o q =>
    (Heap.get?_update_ne _ _ _ _ (Nat.ne_of_lt (Heap.lt_size q))).trans (Heap.get?_push_of_some _ q)
  generalize (s.heap.push (seqObj "list" #[] 0)).update s.heap.objs.size (Obj.mapSeq (· ++ vs.toArray)) = H1 at sz k1 ⊢
  have k2 : ∀ b o, s.heap.get? b = some o → (H1.push (seqObj "list" vs.toArray 0)).get? b = some o := fun b o q => Heap.get?_push_of_some _ (k1 b o q)
  have ho : (H1.push (seqObj "list" vs.toArray 0)).get? H1.objs.size = some (seqObj "list" vs.toArray 0) := Heap.get?_push_size _ rfl
  show wpAny _ _ _ _ _ { s with heap := H1.push (seqObj "list" vs.toArray 0) }
  refine wpAny_bind (wpAny_holding (wpAny_call_entry slot_list_sort ⟨_, ho, rfl⟩ entry_list_sort ?_ (args_list_sort _)))
  refine sort_lists (s := { s with heap := H1.push (seqObj "list" vs.toArray 0) }) ho (by show A.in1.in1.units < cLine; simp only [Around.in1]; omega) (fun v m => ?_) (hv.keeps fun b o _ g => k2 b o g) hok ?_
  · obtain ⟨t, o, e1, g⟩ := hv.at v m
    subst e1
    intro z
    injection z with z
    have := Heap.lt_size g
    rw [z, sz] at this
    exact Nat.lt_irrefl _ (Nat.lt_trans (Nat.lt_succ_self _) this)
  refine ⟨_, rfl, wpAny_pure ⟨_, rfl, ?_⟩⟩
  have nb : ∀ b o, s.heap.get? b = some o → b ≠ H1.objs.size := fun b o g => by rw [sz]; exact Nat.ne_of_lt (Nat.lt_succ_of_lt (Heap.lt_size g))
  obtain ⟨c, g⟩ : ∃ c, (sortedHeap (H1.push (seqObj "list" vs.toArray 0)) H1.objs.size vs (sortVl vs ps).toArray).get? H1.objs.size = some (seqObj "list" (sortVl vs ps).toArray c) := by
    obtain ⟨e1, g1⟩ : ∃ e1, ((H1.push (seqObj "list" vs.toArray 0)).update H1.objs.size (Obj.mapSeq fun _ => (#[] : Array Value))).get? H1.objs.size = some (seqObj "list" #[] e1) := ⟨_, get?_update_seq ho fun _ => #[]⟩
    exact ⟨_, get?_update_seq (Heap.get?_push_of_some _ (Heap.get?_push_of_some _ g1)) fun _ => (sortVl vs ps).toArray⟩
  refine h _ _ c (by rw [sz]; omega) (fun b o q => ?_) g
  unfold sortedHeap
  rw [Heap.get?_update_other _ _ (Ne.symm (nb b o q))]
  exact Heap.get?_push_of_some _ (Heap.get?_push_of_some _ ((Heap.get?_update_other _ _ (Ne.symm (nb b o q))).trans (k2 b o q)))
theorem vc_sortedL {X : Cx} (hu : X.A.units + 64 < cLine) (fz : Bool) : VC X (.builtin "sorted") (rBi (.sortedL fz)) := by
  intro pins s σ H xs vs us M Q Q2 I r dl rm q back
  simp only [rBi] at q
  split at q
  · rename_i x
    split at q
    · rename_i ds e
      split at q
      · rename_i ps hp
        obtain ⟨hok, q⟩ := q
        obtain ⟨v, rfl, dv⟩ := denL1 dl
        obtain ⟨p, ws, rfl, hq, dl2⟩ := lstOf_rel rm e dv
        obtain ⟨u, rfl, ru⟩ := vals1 r
        cases ru
        obtain ⟨_, its, n, ri, _, g⟩ := I.rdL hq
        obtain ⟨pv, lz⟩ := lv_of I hp dl2 ri
        have so := sortLx_ok hok
        refine sortedL_ok (vs := its) ⟨_, g, rfl, _, rfl⟩ (by omega) pv hok fun h' a c ha k g' => ?_
        have hn : H a = none := I.hok.fresh ha
        have li : ∀ i ∈ sortLx ps, i < ds.length := fun i hi => by rw [lz]; exact so.2 i hi
        have vr := vals_pick ri (sortLx ps) (fun i hi => by rw [← dl2.length]; exact li i hi)
        have I1 : Inv X pins σ (upd H a (.lst ((sortLx ps).map fun i => ws.getD i .non))) { s with heap := h', toks := s.toks } := I.laid (o := .lst ((sortLx ps).map fun i => ws.getD i .non)) k ha ⟨by have h5 := (lok_le hok).1; rw [List.length_map, so.1, sizeLine_eq]; omega, _, _, vr, g'⟩
        exact newL_back I1 hn (den_pick dl2 (sortLx ps) li) rm (.refl _) q back
      · exact q.elim
    · exact q.elim
  · exact q.elim
end L2
set_option Elab.async false
set_option linter.all false
set_option maxRecDepth 100000
set_option maxHeartbeats 4000000
namespace L2
open PySem PySem.Spec PyProof.Rows
theorem ex9 {α β γ δ : Sort _} {P1 P2 P3 P4 P5 : α → β → γ → δ → Prop} {R : Prop} (h : ∃ a b c d, P1 a b c d ∧ P2 a b c d ∧ P3 a b c d ∧ P4 a b c d ∧ P5 a b c d) (k : ∀ a b c d, P1 a b c d → P2 a b c d → P3 a b c d → P4 a b c d → P5 a b c d → R) : R :=
  h.elim fun a h => h.elim fun b h => h.elim fun c h => h.elim fun d h => k a b c d h.1 h.2.1 h.2.2.1 h.2.2.2.1 h.2.2.2.2
noncomputable def lowR (K : PySem.W.Frag) (r : D → D → MH → VK3 → Prop) : R2 := fun v u H Q2 => ∃ x y M Q, Den K H x v ∧ Den K H y u ∧ RelM K M H ∧ r x y M Q ∧ Back K H Q Q2
noncomputable def lowU (K : PySem.W.Frag) (r : D → MH → VK3 → Prop) : V → Hp → VK → Prop := fun v H Q2 => ∃ x M Q, Den K H x v ∧ RelM K M H ∧ r x M Q ∧ Back K H Q Q2
noncomputable def lowC (K : PySem.W.Frag) (r : List D → MH → VK3 → Prop) : List V → Hp → VK → Prop := fun vs H Q2 => ∃ xs M Q, DenL K H xs vs ∧ RelM K M H ∧ r xs M Q ∧ Back K H Q Q2
section
variable {X : Cx}
theorem VO.op {f : Value → Value → Sem Value} {r : D → D → MH → VK3 → Prop} (h : VO X f r) : OpR X f (lowR X.K r) := fun pins s σ H v u v2 u2 Q2 I rv ru ⟨x, y, M, Q, dx, dy, rm, q, back⟩ => h pins s σ H x y v u v2 u2 M Q Q2 I rv ru dx dy rm q back
theorem VU.op {f : Value → Sem Value} {r : D → MH → VK3 → Prop} (h : VU X f r) : UnR X f (lowU X.K r) := fun pins s σ H v v2 Q2 I rv ⟨x, M, Q, dx, rm, q, back⟩ => h pins s σ H x v v2 M Q Q2 I rv dx rm q back
theorem VC.op {f : Value} {r : List D → MH → VK3 → Prop} (h : VC X f r) : CallR X f (lowC X.K r) := fun pins s σ H vs us Q2 I rv ⟨xs, M, Q, dx, rm, q, back⟩ => h pins s σ H xs vs us M Q Q2 I rv dx rm q back
end
section
variable {K : PySem.W.Frag} {cls : Nat → Addr} {E2 : St → XK} {σ : St} {H : Hp} {σ3 : St3} {M : MH} {E3 : XN}
theorem low2 {ta tb : St3 → MH → VK3 → XN → Prop} {R3 : D → D → MH → Prop} {R2 : V → V → Hp → Prop} (rm : RelM K M H) (ds : DenS K H σ3 σ) (lk : LkE K cls H E3 (E2 σ))
    (h : ta σ3 M (fun x M1 => tb σ3 M1 (fun y M2 => R3 x y M2) E3) E3) (k : ∀ v u H' x y M', Den K H' x v → Den K H' y u → RelM K M' H' → TM K H H' → R3 x y M' → R2 v u H') :
    low K cls E2 ta σ H fun v H1 => low K cls E2 tb σ H1 fun u H2 => R2 v u H2 :=
  ⟨σ3, M, _, E3, rm, ds, lk, h, fun v H1 x M1 dv rm1 t1 h1 => ⟨σ3, M1, _, E3, rm1, ds.mono t1, lk.mono t1, h1, fun u H2 y M2 du rm2 t2 h2 => k v u H2 x y M2 (dv.mono t2) du rm2 (t1.trans t2) h2⟩⟩
theorem low1 {ta : St3 → MH → VK3 → XN → Prop} {R3 : VK3} {R2 : VK} (rm : RelM K M H) (ds : DenS K H σ3 σ) (lk : LkE K cls H E3 (E2 σ)) (h : ta σ3 M R3 E3) (k : ∀ v H' x M', Den K H' x v → RelM K M' H' → TM K H H' → R3 x M' → R2 v H') :
    low K cls E2 ta σ H R2 := ⟨σ3, M, R3, E3, rm, ds, lk, h, k⟩
end
section
variable {X : Cx} {cls : Nat → Addr} {E2 : St → XK} {a b c e : Expr} {ta tb tc te : St3 → MH → VK3 → XN → Prop} {pos : Pos}
theorem x_var {i : Nat} {x : Str} (hN : X.N[i]? = some x) (hv : Vis X.env.scope x) (hd : (x == ("__debug__" : Str)) = false) (hcd : (x == ("__classdict__" : Str)) = false) :
    PE X (.Name x pos) (low X.K cls E2 fun σ M Q _ => match σ[i]? with | some (some d) => Q d M | _ => False) :=
  (pe_var hN hv hd hcd).imp fun σ H Q2 hl_ => ex9 hl_ fun σ3 M Q E3 rm ds lk h back => by
    try dsimp only at h
    split at h
    · rename_i d e
      obtain ⟨v, e1, e2⟩ := ds.2 i d e
      exact ⟨v, e1, back _ _ _ _ e2 rm (.refl _) h⟩
    · exact h.elim
theorem x_con {v : V} {d : D} (h : PE X e (tC v)) (hd : ∀ H, Den X.K H d v) : PE X e (low X.K cls E2 fun _ M Q _ => Q d M) :=
  h.imp fun σ H Q2 hl_ => ex9 hl_ fun σ3 M Q E3 rm ds lk h back => back _ _ _ _ (hd H) rm (.refl _) h
theorem x_op {op : Operator} {r : D → D → MH → VK3 → Prop} (ho : VO X (binaryOp op) r) (ha : PE X a (low X.K cls E2 ta)) (hb : PE X b (low X.K cls E2 tb)) :
    PE X (.BinOp a op b pos) (low X.K cls E2 fun σ M Q E => ta σ M (fun x M1 => tb σ M1 (fun y M2 => r x y M2 Q) E) E) :=
  (pe_op ho.op ha hb).imp fun σ H Q2 hl_ => ex9 hl_ fun σ3 M Q E3 rm ds lk h back => low2 rm ds lk h fun v u H' x y M' dx dy rm' t q => ⟨x, y, M', Q, dx, dy, rm', q, back.mono t⟩
theorem x_un {op : UnaryOp} {r : D → MH → VK3 → Prop} (ho : VU X (unaryOp op) r) (ha : PE X a (low X.K cls E2 ta)) :
    PE X (.UnaryOp op a pos) (low X.K cls E2 fun σ M Q E => ta σ M (fun x M1 => r x M1 Q) E) :=
  (pe_un ho.op ha).imp fun σ H Q2 hl_ => ex9 hl_ fun σ3 M Q E3 rm ds lk h back => low1 rm ds lk h fun v H' x M' dx rm' t q => ⟨x, M', Q, dx, rm', q, back.mono t⟩
theorem x_cmp {op : CmpOp} {r : D → D → MH → VK3 → Prop} (ho : VO X (compareOp op) r) (ha : PE X a (low X.K cls E2 ta)) (hb : PE X b (low X.K cls E2 tb)) (hm : behindInMarks op b = false) :
    PE X (.Compare a [op] [b] pos) (low X.K cls E2 fun σ M Q E => ta σ M (fun x M1 => tb σ M1 (fun y M2 => r x y M2 Q) E) E) :=
  (pe_cmpR ho.op ha hb hm).imp fun σ H Q2 hl_ => ex9 hl_ fun σ3 M Q E3 rm ds lk h back => low2 rm ds lk h fun v u H' x y M' dx dy rm' t q => ⟨x, y, M', Q, dx, dy, rm', q, back.mono t⟩
noncomputable abbrev boolQ (Q : Bool → MH → Prop) : VK3 := fun r M => match r with
  | .bl k => Q k M
  | _ => False
theorem back_bool {K : PySem.W.Frag} {H : Hp} {Q : Bool → MH → Prop} {Q2 : Bool → Hp → Prop} (k : ∀ b H' M', RelM K M' H' → TM K H H' → Q b M' → Q2 b H') : Back K H (boolQ Q) fun x H1 => ∃ k, x = .bl k ∧ Q2 k H1 := fun v H' d M' dv rm t q => by
  unfold boolQ at q
  split at q
  · exact ⟨_, dv, k _ _ _ rm t q⟩
  · exact q.elim
theorem y_cmp {op : CmpOp} {r : D → D → MH → VK3 → Prop} (ho : VO X (compareOp op) r) (ha : PE X a (low X.K cls E2 ta)) (hb : PE X b (low X.K cls E2 tb)) (hm : behindInMarks op b = false) :
    PT X (.Compare a [op] [b] pos) (lowT X.K cls E2 fun σ M Q E => ta σ M (fun x M1 => tb σ M1 (fun y M2 => r x y M2 (boolQ Q)) E) E) :=
  (pt_cmpR ho.op ha hb hm).imp fun σ H Q2 hl_ => ex9 hl_ fun σ3 M Q E3 rm ds lk h back => low2 rm ds lk h fun v u H' x y M' dx dy rm' t q => ⟨x, y, M', _, dx, dy, rm', q, (back_bool back).mono t⟩
theorem y_val (ha : PE X a (low X.K cls E2 ta)) (he : ∀ whole, isTrue a X.env whole = (do let v ← whole; standAt a.pos; holding [v] (truthy v))) : PT X a (lowT X.K cls E2 fun σ M Q E => ta σ M (boolQ Q) E) :=
  (pt_val ha he).imp fun σ H Q2 hl_ => ex9 hl_ fun σ3 M Q E3 rm ds lk h back => low1 rm ds lk h fun v H' x M' dx rm' t q => back_bool back v H' x M' dx rm' t q
variable {tA tB : St3 → MH → (Bool → MH → Prop) → XN → Prop} {rest : List Expr}
theorem lowT1 {K : PySem.W.Frag} {σ : St} {H : Hp} {σ3 : St3} {M : MH} {E3 : XN} {R3 : Bool → MH → Prop} {R2 : Bool → Hp → Prop} (rm : RelM K M H) (ds : DenS K H σ3 σ) (lk : LkE K cls H E3 (E2 σ)) (h : tA σ3 M R3 E3) (k : ∀ b H' M', RelM K M' H' → TM K H H' → R3 b M' → R2 b H') :
    lowT K cls E2 tA σ H R2 := ⟨σ3, M, R3, E3, rm, ds, lk, h, k⟩
theorem w_and1' (ha : PT X a (lowT X.K cls E2 tA)) : PW X (.BoolOp .And [a] pos) (lowT X.K cls E2 tA) := pw_and1 ha
theorem w_or1' (ha : PT X a (lowT X.K cls E2 tA)) : PW X (.BoolOp .Or [a] pos) (lowT X.K cls E2 tA) := pw_or1 ha
theorem z_and (ha : PT X a (lowT X.K cls E2 tA)) (hb : PW X (.BoolOp .And (b :: rest) pos) (lowT X.K cls E2 tB)) :
    PW X (.BoolOp .And (a :: b :: rest) pos) (lowT X.K cls E2 fun σ M Q E => tA σ M (fun c M1 => if c = true then tB σ M1 Q E else Q false M1) E) :=
  (pw_and ha hb).imp fun σ H Q2 hl_ => ex9 hl_ fun σ3 M Q E3 rm ds lk h back => lowT1 rm ds lk h fun c H' M' rm' t q => by
    cases c with
    | true => rw [if_pos rfl] at q ⊢; exact lowT1 rm' (ds.mono t) (lk.mono t) q fun b H2 M2 r2 t2 q2 => back b H2 M2 r2 (t.trans t2) q2
    | false => rw [if_neg Bool.false_ne_true] at q ⊢; exact back _ _ _ rm' t q
theorem z_or (ha : PT X a (lowT X.K cls E2 tA)) (hb : PW X (.BoolOp .Or (b :: rest) pos) (lowT X.K cls E2 tB)) :
    PW X (.BoolOp .Or (a :: b :: rest) pos) (lowT X.K cls E2 fun σ M Q E => tA σ M (fun c M1 => if c = true then Q true M1 else tB σ M1 Q E) E) :=
  (pw_or ha hb).imp fun σ H Q2 hl_ => ex9 hl_ fun σ3 M Q E3 rm ds lk h back => lowT1 rm ds lk h fun c H' M' rm' t q => by
    cases c with
    | true => rw [if_pos rfl] at q ⊢; exact back _ _ _ rm' t q
    | false => rw [if_neg Bool.false_ne_true] at q ⊢; exact lowT1 rm' (ds.mono t) (lk.mono t) q fun b H2 M2 r2 t2 q2 => back b H2 M2 r2 (t.trans t2) q2
theorem y_not (ha : PT X a (lowT X.K cls E2 tA)) : PT X (.UnaryOp .Not a pos) (lowT X.K cls E2 fun σ M Q E => tA σ M (fun c M1 => Q (!c) M1) E) :=
  (pt_not ha).imp fun σ H Q2 hl_ => ex9 hl_ fun σ3 M Q E3 rm ds lk h back => lowT1 rm ds lk h fun c H' M' rm' t q => back _ _ _ rm' t q
theorem x_and (ha : PE X a (low X.K cls E2 ta)) (hb : PE X (.BoolOp .And (b :: rest) pos) (low X.K cls E2 tb)) :
    PE X (.BoolOp .And (a :: b :: rest) pos) (low X.K cls E2 fun σ M Q E => ta σ M (fun x M1 => match x with | .bl c => if c = true then tb σ M1 Q E else Q (.bl false) M1 | _ => False) E) :=
  (pe_and ha hb).imp fun σ H Q2 hl_ => ex9 hl_ fun σ3 M Q E3 rm ds lk h back => low1 rm ds lk h fun v H' x M' dx rm' t q => by
    split at q
    · rename_i c
      cases (show v = .bl c from dx)
      refine ⟨c, rfl, ?_⟩
      cases c with
      | true => rw [if_pos rfl] at q ⊢; exact low1 rm' (ds.mono t) (lk.mono t) q fun v2 H2 x2 M2 d2 r2 t2 q2 => back v2 H2 x2 M2 d2 r2 (t.trans t2) q2
      | false => rw [if_neg Bool.false_ne_true] at q ⊢; exact back _ _ _ _ den_bl rm' t q
    · exact q.elim
theorem x_or (ha : PE X a (low X.K cls E2 ta)) (hb : PE X (.BoolOp .Or (b :: rest) pos) (low X.K cls E2 tb)) :
    PE X (.BoolOp .Or (a :: b :: rest) pos) (low X.K cls E2 fun σ M Q E => ta σ M (fun x M1 => match x with | .bl c => if c = true then Q (.bl true) M1 else tb σ M1 Q E | _ => False) E) :=
  (pe_or ha hb).imp fun σ H Q2 hl_ => ex9 hl_ fun σ3 M Q E3 rm ds lk h back => low1 rm ds lk h fun v H' x M' dx rm' t q => by
    split at q
    · rename_i c
      cases (show v = .bl c from dx)
      refine ⟨c, rfl, ?_⟩
      cases c with
      | true => rw [if_pos rfl] at q ⊢; exact back _ _ _ _ den_bl rm' t q
      | false => rw [if_neg Bool.false_ne_true] at q ⊢; exact low1 rm' (ds.mono t) (lk.mono t) q fun v2 H2 x2 M2 d2 r2 t2 q2 => back v2 H2 x2 M2 d2 r2 (t.trans t2) q2
    · exact q.elim
theorem x_not (ha : PE X a (low X.K cls E2 ta)) : PE X (.UnaryOp .Not a pos) (low X.K cls E2 fun σ M Q E => ta σ M (fun x M1 => match x with | .bl c => Q (.bl (!c)) M1 | _ => False) E) :=
  (pe_not ha).imp fun σ H Q2 hl_ => ex9 hl_ fun σ3 M Q E3 rm ds lk h back => low1 rm ds lk h fun v H' x M' dx rm' t q => by
    split at q
    · rename_i c
      cases (show v = .bl c from dx)
      exact ⟨c, rfl, back _ _ _ _ den_bl rm' t q⟩
    · exact q.elim
theorem x_chain {op op' : CmpOp} {r r' : D → D → MH → VK3 → Prop} (ho : VO X (compareOp op) r) (ho' : VO X (compareOp op') r') (ha : PE X a (low X.K cls E2 ta)) (hb : PE X b (low X.K cls E2 tb)) (hc : PE X c (low X.K cls E2 tc)) (hm : lastMarks [op, op'] [b, c] = false) :
    PE X (.Compare a [op, op'] [b, c] pos) (low X.K cls E2 fun σ M Q E => ta σ M (fun x M1 => tb σ M1 (fun y M2 => r x y M2 fun z M3 => match z with
      | .bl k => if k = true then tc σ M3 (fun z M4 => r' y z M4 Q) E else Q (.bl false) M3
      | _ => False) E) E) :=
  (pe_chain ho.op ho'.op ha hb hc hm).imp fun σ H Q2 hl_ => ex9 hl_ fun σ3 M Q E3 rm ds lk h back => low2 rm ds lk h fun v u H' x y M' dx dy rm' t q => ⟨x, y, M', _, dx, dy, rm', q, fun w H1 z M1 dz rm1 t1 q1 => by
    split at q1
    · rename_i k
      refine ⟨k, dz, ?_⟩
      cases k with
      | true => rw [if_pos rfl] at q1 ⊢; exact low1 rm1 ((ds.mono t).mono t1) ((lk.mono t).mono t1) q1 fun v2 H2 x2 M2 d2 r2 t2 q2 => ⟨y, x2, M2, Q, (dy.mono t1).mono t2, d2, r2, q2, (back.mono t).mono (t1.trans t2)⟩
      | false => rw [if_neg Bool.false_ne_true] at q1 ⊢; exact back _ _ _ _ den_bl rm1 (t.trans t1) q1
    · exact q1.elim⟩
theorem y_chain {op op' : CmpOp} {r r' : D → D → MH → VK3 → Prop} (ho : VO X (compareOp op) r) (ho' : VO X (compareOp op') r') (ha : PE X a (low X.K cls E2 ta)) (hb : PE X b (low X.K cls E2 tb)) (hc : PE X c (low X.K cls E2 tc)) (hm : lastMarks [op, op'] [b, c] = false) :
    PT X (.Compare a [op, op'] [b, c] pos) (lowT X.K cls E2 fun σ M Q E => ta σ M (fun x M1 => tb σ M1 (fun y M2 => r x y M2 fun z M3 => match z with
      | .bl k => if k = true then tc σ M3 (fun z M4 => r' y z M4 (boolQ Q)) E else Q false M3
      | _ => False) E) E) :=
  (pt_chain ho.op ho'.op ha hb hc hm).imp fun σ H Q2 hl_ => ex9 hl_ fun σ3 M Q E3 rm ds lk h back => low2 rm ds lk h fun v u H' x y M' dx dy rm' t q => ⟨x, y, M', _, dx, dy, rm', q, fun w H1 z M1 dz rm1 t1 q1 => by
    split at q1
    · rename_i k
      refine ⟨k, dz, ?_⟩
      cases k with
      | true => rw [if_pos rfl] at q1 ⊢; exact low1 rm1 ((ds.mono t).mono t1) ((lk.mono t).mono t1) q1 fun v2 H2 x2 M2 d2 r2 t2 q2 => ⟨y, x2, M2, _, (dy.mono t1).mono t2, d2, r2, q2, ((back_bool back).mono t).mono (t1.trans t2)⟩
      | false => rw [if_neg Bool.false_ne_true] at q1 ⊢; exact ⟨false, rfl, back _ _ _ rm1 (t.trans t1) q1⟩
    · exact q1.elim⟩
noncomputable def tChain3 (r r' r'' : R2) (ta tb tc td : TE) : TE := fun σ H Q => ta σ H fun x H1 => tb σ H1 fun y H2 => r x y H2 fun z H3 => ∃ k, z = .bl k ∧
  (if k = true then tc σ H3 (fun w H4 => r' y w H4 fun z2 H5 => ∃ k2, z2 = .bl k2 ∧ (if k2 = true then td σ H5 fun u H6 => r'' w u H6 Q else Q (.bl false) H5)) else Q (.bl false) H3)
theorem pt_chain3 {a b c d : Expr} {ta tb tc td : TE} {op op' op'' : CmpOp} {r r' r'' : R2} (ho : OpR X (compareOp op) r) (ho' : OpR X (compareOp op') r') (ho'' : OpR X (compareOp op'') r'') (ha : PE X a ta) (hb : PE X b tb) (hc : PE X c tc) (hd : PE X d td)
    (hm : lastMarks [op, op', op''] [b, c, d] = false) : PT X (.Compare a [op, op', op''] [b, c, d] pos) (tTest (tChain3 r r' r'' ta tb tc td)) := by
  intro pins s σ H Q I h
  refine isTrue_chain (thn (ha pins s σ H _ I h) fun v s1 ⟨x, H1, I1, r1, q1⟩ => test_link (thn (hb pins s1 σ H1 _ I1 q1) fun u s2 ⟨y, H2, I2, r2, q2⟩ =>
    thn (ho pins s2 σ H2 x y v u _ I2 r1 r2 q2) fun d s3 ⟨z, H3, I3, r3, k, e, q3⟩ => ?_)) hm
  subst e
  cases r3
  refine wpAny_truthy_bool ?_
  cases k with
  | false =>
    obtain ⟨k', e', q'⟩ := q3
    cases e'
    exact ite_ff ⟨H3, I3, q'⟩
  | true =>
    refine ite_tt (test_link (thn (hc pins s3 σ H3 _ I3 q3) fun w' s4 ⟨z', H4, I4, r4, q4⟩ => thn (ho' pins s4 σ H4 y z' u w' _ I4 r2 r4 q4) fun d' s5 ⟨z2, H5, I5, r5, k2, e2, q5⟩ => ?_))
    subst e2
    cases r5
    refine wpAny_truthy_bool ?_
    cases k2 with
    | false =>
      obtain ⟨k', e', q'⟩ := q5
      cases e'
      exact ite_ff ⟨H5, I5, q'⟩
    | true =>
      refine ite_tt (test_last (thn (hd pins s5 σ H5 _ I5 q5) fun w2 s6 ⟨z3, H6, I6, r6, q6⟩ => thn (ho'' pins s6 σ H6 z' z3 w' w2 _ I6 r4 r6 q6) fun d2 s7 ⟨z4, H7, I7, r7, k3, e3, q7⟩ => ?_))
      subst e3
      cases r7
      exact wpAny_truthy_bool ⟨H7, I7, q7⟩
theorem y_chain3 {d : Expr} {td : St3 → MH → VK3 → XN → Prop} {op op' op'' : CmpOp} {r r' r'' : D → D → MH → VK3 → Prop} (ho : VO X (compareOp op) r) (ho' : VO X (compareOp op') r') (ho'' : VO X (compareOp op'') r'') (ha : PE X a (low X.K cls E2 ta)) (hb : PE X b (low X.K cls E2 tb)) (hc : PE X c (low X.K cls E2 tc)) (hd : PE X d (low X.K cls E2 td)) (hm : lastMarks [op, op', op''] [b, c, d] = false) :
    PT X (.Compare a [op, op', op''] [b, c, d] pos) (lowT X.K cls E2 fun σ M Q E => ta σ M (fun x M1 => tb σ M1 (fun y M2 => r x y M2 fun z M3 => match z with
      | .bl k => if k = true then tc σ M3 (fun z M4 => r' y z M4 fun o M5 => match o with
        | .bl k => if k = true then td σ M5 (fun u M6 => r'' z u M6 (boolQ Q)) E else Q false M5
        | _ => False) E else Q false M3
      | _ => False) E) E) :=
  (pt_chain3 ho.op ho'.op ho''.op ha hb hc hd hm).imp fun σ H Q2 hl_ => ex9 hl_ fun σ3 M Q E3 rm ds lk h back => low2 rm ds lk h fun v u H' x y M' dx dy rm' t q => ⟨x, y, M', _, dx, dy, rm', q, fun w H1 z M1 dz rm1 t1 q1 => by
    split at q1
    · rename_i k
      refine ⟨k, dz, ?_⟩
      cases k with
      | true =>
        rw [if_pos rfl] at q1 ⊢
        refine low1 rm1 ((ds.mono t).mono t1) ((lk.mono t).mono t1) q1 fun v2 H2 x2 M2 d2 r2 t2 q2 => ⟨y, x2, M2, _, (dy.mono t1).mono t2, d2, r2, q2, fun w3 H3 z3 M3 dz3 rm3 t3 q3 => ?_⟩
        split at q3
        · rename_i k
          refine ⟨k, dz3, ?_⟩
          cases k with
          | true =>
            rw [if_pos rfl] at q3 ⊢
            exact low1 rm3 ((((ds.mono t).mono t1).mono t2).mono t3) ((((lk.mono t).mono t1).mono t2).mono t3) q3 fun v4 H4 x4 M4 d4 r4 t4 q4 => ⟨x2, x4, M4, _, (d2.mono t3).mono t4, d4, r4, q4, (((back_bool back).mono t).mono (t1.trans t2)).mono (t3.trans t4)⟩
          | false => rw [if_neg Bool.false_ne_true] at q3 ⊢; exact ⟨false, rfl, back _ _ _ rm3 (((t.trans t1).trans t2).trans t3) q3⟩
        · exact q3.elim
      | false => rw [if_neg Bool.false_ne_true] at q1 ⊢; exact ⟨false, rfl, back _ _ _ rm1 (t.trans t1) q1⟩
    · exact q1.elim⟩
variable {es : List Expr} {tr : St3 → MH → (List D → MH → Prop) → XN → Prop}
theorem lowA1 {K : PySem.W.Frag} {σ : St} {H : Hp} {σ3 : St3} {M : MH} {E3 : XN} {R3 : List D → MH → Prop} {R2 : List V → Hp → Prop} (rm : RelM K M H) (ds : DenS K H σ3 σ) (lk : LkE K cls H E3 (E2 σ)) (h : tr σ3 M R3 E3) (k : ∀ vs H' xs M', DenL K H' xs vs → RelM K M' H' → TM K H H' → R3 xs M' → R2 vs H') :
    lowA K cls E2 tr σ H R2 := ⟨σ3, M, R3, E3, rm, ds, lk, h, k⟩
theorem u_nil : PA X [] (lowA X.K cls E2 fun _ M Q _ => Q [] M) := pa_nil.imp fun σ H Q2 hl_ => ex9 hl_ fun σ3 M Q E3 rm ds lk h back => back _ _ _ _ .nil rm (.refl _) h
theorem u_cons (ha : PE X e (low X.K cls E2 te)) (hr : PA X es (lowA X.K cls E2 tr)) (hs : starEach (e :: es) X.env = (false, eval e X.env) :: starEach es X.env) :
    PA X (e :: es) (lowA X.K cls E2 fun σ M Q E => te σ M (fun x M1 => tr σ M1 (fun xs M2 => Q (x :: xs) M2) E) E) :=
  (pa_cons ha hr hs).imp fun σ H Q2 hl_ => ex9 hl_ fun σ3 M Q E3 rm ds lk h back => low1 rm ds lk h fun v H1 x M1 dx rm1 t1 q1 => lowA1 rm1 (ds.mono t1) (lk.mono t1) q1 fun vs H2 xs M2 dl rm2 t2 q2 => back _ _ _ _ (.cons (dx.mono t2) dl) rm2 (t1.trans t2) q2
theorem x_new {t2 : TE} (h : PE X e t2) {t : St3 → MH → VK3 → XN → Prop} {fz : Bool}
    (f : ∀ σ H σ3 M Q E3 (R2 : VK), RelM X.K M H → DenS X.K H σ3 σ → LkE X.K cls H E3 (E2 σ) → t σ3 M Q E3 → (∀ H' vs ds M' p, H' p = none → DenL X.K H' ds vs → RelM X.K M' H' → TM X.K H H' → newL fz ds M' Q → R2 (.ref p) (upd H' p (.lst vs))) → t2 σ H R2) : PE X e (low X.K cls E2 t) := by
  refine fun pins s σ H Q2 I hl_ => ex9 hl_ fun σ3 M Q E3 rm ds lk q back => ?_
  refine thn (h pins s σ H (fun v H1 => ∃ p H' vs ds M', v = .ref p ∧ H1 = upd H' p (.lst vs) ∧ H' p = none ∧ DenL X.K H' ds vs ∧ RelM X.K M' H' ∧ TM X.K H H' ∧ newL fz ds M' Q) I
    (f σ H σ3 M Q E3 _ rm ds lk q fun H' vs ds M' p hp dl rm' t' n => ⟨p, H', vs, ds, M', rfl, rfl, hp, dl, rm', t', n⟩)) fun u s1 ⟨v, H1, I1, r1, p, H', vs, ds', M', e1, e2, hp, dl, rm', t', n⟩ => ?_
  subst e1; subst e2
  cases r1
  exact newL_back I1 hp dl rm' t' n back
theorem x_lst {fz : Bool} (h : PA X es (lowA X.K cls E2 tr)) : PE X (.List es pos) (low X.K cls E2 fun σ M Q E => tr σ M (fun xs M1 => newL fz xs M1 Q) E) :=
  x_new (fz := fz) (pe_lst h) fun σ H σ3 M Q E3 R2 rm ds lk q k => lowA1 rm ds lk q fun vs H' xs M' dl rm' t n => ⟨by rw [← dl.length]; exact n.1, fun p hp => k H' vs xs M' p hp dl rm' t n⟩
theorem ix_all (hu : X.A.units + 64 < cLine) : IxR X (fun v u H Q2 => ∃ x y M Q, Den X.K H x v ∧ Den X.K H y u ∧ RelM X.K M H ∧ rIx3 x y M Q ∧ Back X.K H Q Q2) := by
  intro value slice pins s σ H v u v2 u2 Q2 I rv ru ⟨x, y, M, Q, dx, dy, rm, q, back⟩ hs
  unfold rIx3 at q
  split at q
  · rename_i es e
    split at q
    · rename_i i
      cases (show u = .int i from dy)
      split at q
      · rename_i d e2
        obtain ⟨p, vs, rfl, hq, dl⟩ := seqOf_rel rm e dx
        obtain ⟨w, e4, e5⟩ := atI_den dl e2
        refine ix_seq value slice pins s σ H _ _ v2 u2 Q2 I rv ru ?_ hs
        rcases hq with hq | hq
        · exact .inl ⟨p, vs, i, w, rfl, rfl, hq, e4, back _ _ _ _ e5 rm (.refl _) q⟩
        · exact .inr (.inl ⟨p, vs, i, w, rfl, rfl, hq, e4, back _ _ _ _ e5 rm (.refl _) q⟩)
      · exact q.elim
    · exact q.elim
  · split at q
    · rename_i d e
      obtain ⟨a, ov, rfl, g, od⟩ := dget_rel (X := X) e rm dx dy
      cases rv
      cases ov with
      | none => exact od.elim
      | some w => exact tail_any (g.isDict I) PySem.F.slot_dict_getitem.lookup (e_getItem (by omega) I g rfl ru fun w' s' I' rw' => ⟨w, H, I', rw', back _ _ _ _ od rm (.refl _) q⟩) hs
    · exact q.elim
    · split at q
      · rename_i z i _ _
        cases (show v = .str z from dx)
        cases (show u = .int i from dy)
        obtain ⟨t, rfl⟩ := rv
        obtain ⟨t', rfl⟩ := ru
        obtain ⟨⟨h0, h1, h63⟩, q⟩ := q
        have e : seqIndex? i z.length = some i.toNat := PySem.StrLaws.seqIndex_nonneg h0 h1
        have hz : i.toNat < z.cps.size := by
          have : (i : Int) < (z.cps.size : Int) := h1
          omega
        have hc : z.cps[i.toNat]? = some (z.cps.getD i.toNat 0) := by simp [hz]
        exact tail_any (typeIs_str s z t) slot_str_getitem.lookup (getItem_str (c := z.cps.getD i.toNat 0) (by
          rw [decide_eq_false (by omega : ¬ i < -(2 ^ 63 : Int)), decide_eq_false (by omega : ¬ i ≥ 2 ^ 63)]; rfl) (by rw [e]; exact hc) ⟨.str (chrAt z i.toNat), H, I.tok _, ⟨_, rfl⟩, back _ _ _ _ den_str rm (.refl _) q⟩) hs
      · exact q.elim
theorem x_ix (hu : X.A.units + 64 < cLine) (ha : PE X a (low X.K cls E2 ta)) (hb : PE X b (low X.K cls E2 tb)) (hs : PlainIx b) : PE X (.Subscript a b pos) (low X.K cls E2 fun σ M Q E => ta σ M (fun x M1 => tb σ M1 (fun y M2 => rIx3 x y M2 Q) E) E) :=
  (pe_ix (ix_all hu) ha hb hs).imp fun σ H Q2 hl_ => ex9 hl_ fun σ3 M Q E3 rm ds lk h back => low2 rm ds lk h fun v u H' x y M' dx dy rm' t q => ⟨x, y, M', Q, dx, dy, rm', q, back.mono t⟩
variable {lo hi : Option Expr} {tl th : St3 → MH → (Option Int → MH → Prop) → XN → Prop} {p2 : Pos}
theorem o_no : PO X none (lowO X.K cls E2 fun _ M Q _ => Q none M) := po_none.imp fun σ H Q2 hl_ => ex9 hl_ fun σ3 M Q E3 rm ds lk h back => back _ _ _ rm (.refl _) h
theorem o_yes (h : PE X e (low X.K cls E2 te)) : PO X (some e) (lowO X.K cls E2 fun σ M Q E => te σ M (fun x M1 => match x with | .int i => Q (some i) M1 | _ => False) E) :=
  (po_some h).imp fun σ H Q2 hl_ => ex9 hl_ fun σ3 M Q E3 rm ds lk h back => low1 rm ds lk h fun v H1 x M1 dx rm1 t1 q1 => by
    split at q1
    · exact ⟨_, dx, back _ _ _ rm1 t1 q1⟩
    · exact q1.elim
theorem lowO1 {t : St3 → MH → (Option Int → MH → Prop) → XN → Prop} {K : PySem.W.Frag} {σ : St} {H : Hp} {σ3 : St3} {M : MH} {E3 : XN} {R3 : Option Int → MH → Prop} {R2 : Option Int → Hp → Prop} (rm : RelM K M H) (ds : DenS K H σ3 σ) (lk : LkE K cls H E3 (E2 σ)) (h : t σ3 M R3 E3) (k : ∀ o H' M', RelM K M' H' → TM K H H' → R3 o M' → R2 o H') :
    lowO K cls E2 t σ H R2 := ⟨σ3, M, R3, E3, rm, ds, lk, h, k⟩
theorem x_cat {fz : Bool} (ha : PE X a (low X.K cls E2 ta)) (hb : PE X b (low X.K cls E2 tb)) :
    PE X (.BinOp a .Add b pos) (low X.K cls E2 fun σ M Q E => ta σ M (fun x M1 => tb σ M1 (fun y M2 => rCat3 fz x y M2 Q) E) E) := x_op (vo_cat fz) ha hb
theorem x_frzQ (h : PE X e (low X.K cls E2 te)) : PE X e (low X.K cls E2 fun σ M Q E => te σ M (frzQ Q) E) := by
  refine fun pins s σ H Q2 I hl_ => ex9 hl_ fun σ3 M Q E3 rm ds lk q back => ?_
  refine thn (h pins s σ H (fun v H1 => ∃ d M1, Den X.K H1 d v ∧ RelM X.K M1 H1 ∧ TM X.K H H1 ∧ frzQ Q d M1) I ⟨σ3, M, _, E3, rm, ds, lk, q, fun v H' d M' a b c e => ⟨d, M', a, b, c, e⟩⟩) fun u s1 ⟨v, H1, I1, r1, d, M1, dv, rm1, t1, q1⟩ => ?_
  have q1 : frzX Q d M1 := by
    unfold frzQ at q1
    split at q1
    · split at q1
      · rename_i a ds' e
        simp only [frzX, e]; exact q1
      · exact q1.elim
    · exact q1.elim
  obtain ⟨H2, M2, d2, I2, t2, rm2, dv2, q2⟩ := frz_any I1 rm1 dv q1
  exact ⟨v, H2, I2, r1, back _ _ _ _ dv2 rm2 (t1.trans t2) q2⟩
end
end L2
set_option Elab.async false
set_option linter.all false
set_option maxRecDepth 100000
set_option maxHeartbeats 4000000
namespace L2
open PySem PySem.Spec PyProof.Rows
theorem cx1_tm {P : Program} {w : World} {K : PySem.W.Frag} {outer : List Env} {H : Hp} {s : Shared} {E : XK} {e : Value} {s' : Shared} (h : CX1 P w outer H s (fun c d H' => TM K H H' → E c d H') e s') : CX1 P w outer H s E e s' := by
  obtain ⟨a, cls, B, H', dx, h1, h2, h3, un, hok, fl, ha, inc, he⟩ := h
  exact ⟨a, cls, B, H', dx, h1, h2, h3, un, hok, fl, ha, inc, he (.un un.tups un.frzs)⟩
section
variable {X : Cx} {cls : Nat → Addr} {E2 : St → XK} {k : Nat} {f : Addr} {fd : FuncData} {ps : List Str} {x : Str} {p pos : Pos} {e : Expr} {es : List Expr} {tr : St3 → MH → (List D → MH → Prop) → XN → Prop} {t3 : List D → MH → VK3 → XN → Prop}
noncomputable def spX (K : PySem.W.Frag) (cls : Nat → Addr) (t3 : List D → MH → VK3 → XN → Prop) : Sp := fun vs H Q E => ∃ ds M Q3 E3, DenL K H ds vs ∧ RelM K M H ∧ t3 ds M Q3 E3 ∧ Back K H Q3 Q ∧ LkE K cls H E3 E
theorem run_fnT {sp : Sp} {pins : List (Addr × Obj)} {σ : St} {H : Hp} {s : Shared} {Q : VK} {us : List Value} {vs : List V} (F : FnOk X.prog X.w X.K X.mg X.base (CX1 X.prog X.w) k f fd ps sp) (hr : Room k X.A) (hb : Binds X.K fd ps []) (hx : PassesS (CX1 X.prog X.w) X E2)
    (I : Inv X pins σ H s) (r : Vals vs us) (h : sp vs H Q (fun c d H' => TM X.K H H' → E2 σ c d H')) : wpAny (model X.prog X.w) X.A (call (.ref f) us) (EP X pins σ Q) X.xe s := by
  have hl : (us ++ ([] : List Value)).length = ps.length := by rw [List.append_nil]; exact r.length.symm.trans (F.len _ _ _ _ h)
  have hb' := hb s us I.kIn hl
  rw [List.append_nil] at hb'
  refine wpAny_call (codeAny_mono (F.run X.A X.stack s H ⟨us, []⟩ us vs Q _ hr I.env0 hb' r h) fun z s' hq => ?_)
  match z, hq with
  | .error e, hq => exact hx pins σ H s e s' I (cx1_tm hq)
  | .ok (.ret u), hq => exact I.after hq
  | .ok .next, hq => exact hq.elim
  | .ok .brk, hq => exact hq.elim
  | .ok .cont, hq => exact hq.elim
theorem spX_of {σ : St} {H : Hp} {xs : List D} {vs : List V} {M : MH} {Q : VK3} {Q2 : VK} {E3 : XN} (dl : DenL X.K H xs vs) (rm : RelM X.K M H) (lk : LkE X.K cls H E3 (E2 σ)) (q : t3 xs M Q E3) (back : Back X.K H Q Q2) :
    spX X.K cls t3 vs H Q2 (fun c d H' => TM X.K H H' → E2 σ c d H') :=
  ⟨xs, M, Q, E3, dl, rm, q, back, fun i M' H' t rm' q dx xd _ => lk i M' H' t rm' q dx xd⟩
theorem x_call (F : FnOk X.prog X.w X.K X.mg X.base (CX1 X.prog X.w) k f fd ps (spX X.K cls t3)) (hr : Room k X.A) (hg : Gl X x) (hm : X.mg x = some (.ref f)) (hk : PySem.W.keepIn X.K (.ref f) = true) (hb : Binds X.K fd ps []) (hx : PassesS (CX1 X.prog X.w) X E2)
    (ha : PA X (e :: es) (lowA X.K cls E2 tr)) (hdb : (x == ("__debug__" : Str)) = false) (he : starEach (e :: es) X.env = (false, eval e X.env) :: starEach es X.env) (hpl : (backTo pos (starEach es X.env)).any (·.1) = false) :
    PE X (.Call (.Name x p) (e :: es) [] pos) (low X.K cls E2 fun σ M Q E => tr σ M (fun xs M1 => t3 xs M1 Q E) E) := fun pins s σ H Q2 I hl_ => ex9 hl_ fun σ3 M Q E3 rm ds lk h back =>
  wpAny_Call_Name_kw (ld_glob I hg hm (PySem.W.callWith_K (h₀ := X.base) I.ok.mod.kin hk (thn (ha pos pins s σ H _ I (lowA1 (R2 := fun vs H1 => spX X.K cls t3 vs H1 Q2 (fun c d H' => TM X.K H1 H' → E2 σ c d H')) rm ds lk h
    fun vs H1 xs M1 dl rm1 t1 q1 => spX_of dl rm1 (lk.mono t1) q1 (back.mono t1))) fun us s1 ⟨vs, H1, I1, r, q⟩ => ⟨I1.kIn, run_fnT F hr hb hx I1 r q⟩) he hpl) hdb)
theorem x_call0 (F : FnOk X.prog X.w X.K X.mg X.base (CX1 X.prog X.w) k f fd ps (spX X.K cls t3)) (hr : Room k X.A) (hg : Gl X x) (hm : X.mg x = some (.ref f)) (hk : PySem.W.keepIn X.K (.ref f) = true) (hb : Binds X.K fd ps []) (hx : PassesS (CX1 X.prog X.w) X E2) (hdb : (x == ("__debug__" : Str)) = false) :
    PE X (.Call (.Name x p) [] [] pos) (low X.K cls E2 fun σ M Q E => t3 [] M Q E) := fun pins s σ H Q2 I hl_ => ex9 hl_ fun σ3 M Q E3 rm ds lk h back =>
  wpAny_Call_Name_kw (ld_glob I hg hm (PySem.W.callWith_K0 I.kIn hk (run_fnT (us := []) F hr hb hx I .nil (spX_of (xs := []) .nil rm lk h back))) hdb)
theorem x_callB {id : String} {r : List D → MH → VK3 → Prop} (hc : VC X (.builtin id) r) (hg : Gl X x) (hm : X.mg x = none) (hv : bootBuiltins x = some (.builtin id)) (ha : PA X (e :: es) (lowA X.K cls E2 tr)) (hn : x ≠ "__name__") (hdb : (x == ("__debug__" : Str)) = false)
    (he : starEach (e :: es) X.env = (false, eval e X.env) :: starEach es X.env) (hpl : (backTo pos (starEach es X.env)).any (·.1) = false) : PE X (.Call (.Name x p) (e :: es) [] pos) (low X.K cls E2 fun σ M Q E => tr σ M (fun xs M1 => r xs M1 Q) E) :=
  (pe_callB hc.op hg hm hv ha hn hdb he hpl).imp fun σ H Q2 hl_ => ex9 hl_ fun σ3 M Q E3 rm ds lk h back => lowA1 rm ds lk h fun vs H1 xs M1 dl rm1 t1 q1 => ⟨xs, M1, Q, dl, rm1, q1, back.mono t1⟩
noncomputable def btName : BT → String
  | .int => "int" | .bool => "bool" | .str => "str" | .tuple => "tuple" | .list => "list" | .dict => "dict"
theorem isB_ok {pins : List (Addr × Obj)} {σ : St} {H : Hp} {s : Shared} {A : Around} {Ex : Value → Shared → Prop} {t : BT} {x : D} {v : V} {v2 : Value} {M : MH} {Q : VK3} {Q2 : VK} (I : Inv X pins σ H s) (rv : RelV v v2) (dx : Den X.K H x v) (rm : RelM X.K M H) (q : isBT t x M Q) (back : Back X.K H Q Q2) :
    wpAny (model X.prog X.w) A (call (.builtin "isinstance") [v2, .type (btName t)]) (EP X pins σ Q2) Ex s := by
  have fin : ∀ b, Q (.bl b) M → ∀ tk, EP X pins σ Q2 (.bool b) { s with toks := tk } := fun b q tk => ⟨.bl b, H, I.tok _, rfl, back _ _ _ _ den_bl rm (.refl _) q⟩
  cases x with
  | non => cases (show v = .non from dx); cases rv; cases t <;> exact PySem.W.kia_one PySem.W.kitx_none I.kIn True.intro rfl (fun z => nomatch z) (fin _ q)
  | bl b => cases (show v = .bl b from dx); cases rv; cases t <;> exact PySem.W.kia_one PySem.W.kitx_bool I.kIn True.intro rfl (fun z => nomatch z) (fin _ q)
  | int i => cases (show v = .int i from dx); obtain ⟨tk, rfl⟩ := rv; cases t <;> exact PySem.W.kia_one PySem.W.kitx_int I.kIn True.intro rfl (fun z => nomatch z) (fin _ q)
  | str i => cases (show v = .str i from dx); obtain ⟨tk, rfl⟩ := rv; cases t <;> exact PySem.W.kia_one PySem.W.kitx_str I.kIn True.intro rfl (fun z => nomatch z) (fin _ q)
  | tup ds =>
    obtain ⟨a, vs, rfl, sq, _⟩ := dx
    cases rv
    obtain ⟨its, _, tt, _⟩ := I.tuple sq
    obtain ⟨o, h1, h2, _⟩ := (show s.heap.IsTuple a its.toArray from tt)
    cases t <;> exact PySem.W.kia_one PySem.W.kitx_tuple I.kIn ⟨o, h1, h2⟩ rfl (fun z => nomatch z) (fin _ q)
  | rol ds =>
    obtain ⟨a, vs, rfl, sq, _⟩ := dx
    cases rv
    obtain ⟨_, its, n, _, _, h1⟩ := I.rdL sq.rd
    cases t <;> exact PySem.W.kia_one PySem.W.kitx_list I.kIn ⟨_, h1, rfl⟩ rfl (fun z => nomatch z) (fin _ q)
  | ref a =>
    cases (show v = .ref a from dx)
    cases rv
    simp only [isBT] at q
    split at q
    · rename_i ds e
      obtain ⟨vs, e1, _⟩ := rm a _ e
      obtain ⟨_, its, n, _, _, h1⟩ := I.rdL (.inl (.inl e1))
      cases t <;> exact PySem.W.kia_one PySem.W.kitx_list I.kIn ⟨_, h1, rfl⟩ rfl (fun z => nomatch z) (fin _ q)
    · rename_i ks ds e
      obtain ⟨vs, e1, _, _⟩ := rm a _ e
      obtain ⟨_, _, _, _, o, _, _, h1, h2, _⟩ := I.hok a _ e1
      cases t <;> exact PySem.W.kia_one PySem.W.kitx_dict I.kIn ⟨o, h1, h2.1⟩ rfl (fun z => nomatch z) (fin _ q)
    · rename_i ks ds e
      obtain ⟨vs, xs, e1, _⟩ := rm a _ e
      obtain ⟨⟨o, es, ep, h1, h2, _⟩, _⟩ := (show ObjOk X.prog X.w H s.heap a (.ext (tabT a xs)) from I.hok a _ e1)
      cases t <;> exact PySem.W.kia_one PySem.W.kitx_dict I.kIn ⟨o, h1, h2.1⟩ rfl (fun z => nomatch z) (fin _ q)
    · exact q.elim
  | dik ks ds =>
    obtain ⟨a, vs, ob, rfl, e1, _⟩ := dx
    cases rv
    obtain ⟨_, _, _, ws, _, p⟩ := (show ObjOk X.prog X.w H s.heap a (.frz ob (.dK (ks.zip vs))) from I.hok a _ e1)
    obtain ⟨o, es, ep, h1, h2, _⟩ := p
    cases t <;> exact PySem.W.kia_one PySem.W.kitx_dict I.kIn ⟨o, h1, h2.1⟩ rfl (fun z => nomatch z) (fin _ q)
  | dit ks ds =>
    obtain ⟨a, vs, ob, xs, rfl, e1, _⟩ := dx
    cases rv
    obtain ⟨_, ⟨o, es, ep, h1, h2, _⟩, _⟩ := (show ObjOk X.prog X.w H s.heap a (.frz ob (.ext (tabT a xs))) from I.hok a _ e1)
    cases t <;> exact PySem.W.kia_one PySem.W.kitx_dict I.kIn ⟨o, h1, h2.1⟩ rfl (fun z => nomatch z) (fin _ q)
  | obj i C ns ds => exact (show False from q).elim
theorem x_isB {te : St3 → MH → VK3 → XN → Prop} {t : BT} {p2 : Pos} (ha : PE X e (low X.K cls E2 te)) (hg : Gl X "isinstance") (hm : X.mg "isinstance" = none) (hg2 : Gl X (btName t)) (hm2 : X.mg (btName t) = none) (hs : starEach (e :: [.Name (btName t) p2]) X.env = (false, eval e X.env) :: starEach [.Name (btName t) p2] X.env) :
    PE X (.Call (.Name "isinstance" p) [e, .Name (btName t) p2] [] pos) (low X.K cls E2 fun σ M Q E => te σ M (fun x M1 => isBT t x M1 Q) E) := by
  have hT : PE X (.Name (btName t) p2) (tC (.ty (btName t))) := by
    cases t <;> exact pe_bltn hg2 hm2 (by decide +kernel) rfl
  have hc : CallR X (.builtin "isinstance") (fun vs H Q2 => ∃ x v M Q, vs = [v, .ty (btName t)] ∧ Den X.K H x v ∧ RelM X.K M H ∧ isBT t x M Q ∧ Back X.K H Q Q2) := by
    refine fun pins s σ H vs us Q2 I r hl_ => ex9 hl_ fun x v M Q e dx rm q back => ?_
    subst e
    obtain ⟨u, w, rfl, ru, rw⟩ := Vals.two r
    cases (show w = Value.type (btName t) from rw)
    exact isB_ok I ru dx rm q back
  refine (pe_callB hc hg hm (by decide +kernel) (pa_cons ha (pa_cons hT pa_nil (by rfl)) hs) (by decide +kernel) (by decide +kernel) hs (by rfl)).imp fun σ H Q2 hl_ => ex9 hl_ fun σ3 M Q E3 rm ds lk h back => ?_
  exact low1 rm ds lk h fun v H1 x M1 dx rm1 t1 q1 => ⟨x, v, M1, Q, rfl, dx, rm1, q1, back.mono t1⟩
end
section
variable {X : Cx} {cls : Nat → Addr} {E2 : St → XK} {tg a b c e l : Expr} {ta tb tc te : St3 → MH → VK3 → XN → Prop} {pos p : Pos}
theorem it_tup {K : PySem.W.Frag} {H0 : Hp} {p : Addr} {vs : List V} {ds : List D} (sq : SqT K H0 p vs) (dl : DenL K H0 ds vs) : ItOk K H0 (Itt K p) ds (fun _ => True) := by
  refine ⟨fun i H M t rm s hi => ?_, fun i H M x H' t rm s hi y => ?_, fun H M t rm s => ?_⟩
  · have hi' : i < vs.length := by rw [← dl.length]; exact hi
    exact ⟨vs, vs[i], t.t _ _ sq, by simp [hi']⟩
  · obtain ⟨e, y⟩ := y
    subst e
    obtain ⟨d, e1, e2⟩ := (dl.mono t).get' (y vs (t.t _ _ sq))
    exact ⟨.refl _, rm, d, e1, e2⟩
  · exact ⟨vs, t.t _ _ sq, by rw [dl.length]; exact Nat.le_refl _⟩
theorem it_rol {K : PySem.W.Frag} {H0 : Hp} {p : Addr} {vs : List V} {ds : List D} (sq : SqF K H0 p vs) (dl : DenL K H0 ds vs) : ItOk K H0 (Itl K p) ds (fun _ => True) := by
  refine ⟨fun i H M t rm s hi => ?_, fun i H M x H' t rm s hi y => ?_, fun H M t rm s => ?_⟩
  · have hi' : i < vs.length := by rw [← dl.length]; exact hi
    exact ⟨vs, vs[i], (t.f _ _ sq).sq, by simp [hi']⟩
  · obtain ⟨e, y⟩ := y
    subst e
    obtain ⟨d, e1, e2⟩ := (dl.mono t).get' (y vs (t.f _ _ sq).sq)
    exact ⟨.refl _, rm, d, e1, e2⟩
  · exact ⟨vs, (t.f _ _ sq).sq, by rw [dl.length]; exact Nat.le_refl _⟩
theorem it_ref {K : PySem.W.Frag} {H0 : Hp} {p : Addr} {ds : List D} : ItOk K H0 (Itl K p) ds (fun M => M p = some (.lst ds)) := by
  refine ⟨fun i H M t rm s hi => ?_, fun i H M x H' t rm s hi y => ?_, fun H M t rm s => ?_⟩
  · obtain ⟨vs, e, dl⟩ := rm p _ s
    have hi' : i < vs.length := by rw [← dl.length]; exact hi
    exact ⟨vs, vs[i], .of e, by simp [hi']⟩
  · obtain ⟨vs, e, dl⟩ := rm p _ s
    obtain ⟨e', y⟩ := y
    subst e'
    obtain ⟨d, e1, e2⟩ := dl.get' (y vs (.of e))
    exact ⟨.refl _, rm, d, e1, e2⟩
  · obtain ⟨vs, e, dl⟩ := rm p _ s
    exact ⟨vs, .of e, by rw [dl.length]; exact Nat.le_refl _⟩
theorem iter_list {pins : List (Addr × Obj)} {σ : St} {H : Hp} {s : Shared} {R : It → Hp → Prop} {Ex : Value → Shared → Prop} {a : Addr} {xs : List V} (I : Inv X pins σ H s) (hq : SqL X.K H a xs) (q : R (Itl X.K a) H) : wpAny (model X.prog X.w) X.A (pyIter (.ref a)) (PIE X pins σ tg R) Ex s := by
  obtain ⟨its, rv, p, hz⟩ := I.list hq
  refine wpAny_pyIter_list p.isList ?_
  refine ⟨s.heap.objs.size, [s.heap.objs.size], _, _, H, rfl, I.kept (t' := s.toks) fun b o e => Heap.get?_push_of_some _ e, turn_list a _, ⟨_, Heap.get?_push_size _ rfl, rfl, rfl⟩, fun b hb => ?_, q⟩
  have e : b = s.heap.objs.size := by simpa using hb
  subst e
  exact I.fpOk (Nat.le_refl _) (I.hok.fresh (Nat.le_refl _))
theorem iter_tup {pins : List (Addr × Obj)} {σ : St} {H : Hp} {s : Shared} {R : It → Hp → Prop} {Ex : Value → Shared → Prop} {a : Addr} {xs : List V} (I : Inv X pins σ H s) (hq : SqT X.K H a xs) (q : R (Itt X.K a) H) : wpAny (model X.prog X.w) X.A (pyIter (.ref a)) (PIE X pins σ tg R) Ex s := by
  obtain ⟨its, rv, p, hz⟩ := I.tuple hq
  refine wpAny_pyIter_tuple (show s.heap.IsTuple a its.toArray from p) ?_
  refine ⟨s.heap.objs.size, [s.heap.objs.size], _, _, H, rfl, I.kept (t' := s.toks) fun b o e => Heap.get?_push_of_some _ e, turn_tuple a _, ⟨_, Heap.get?_push_size _ rfl, rfl, rfl⟩, fun b hb => ?_, q⟩
  have e : b = s.heap.objs.size := by simpa using hb
  subst e
  exact I.fpOk (Nat.le_refl _) (I.hok.fresh (Nat.le_refl _))
noncomputable def ItsS (z : Str) : It := ⟨fun i _ => i < z.cps.size, fun i H x H' => H' = H ∧ ∃ c, z.cps[i]? = some c ∧ x = .str ⟨#[c]⟩, fun i _ => z.cps.size ≤ i⟩
theorem turn_str {P : Program} {w : World} {K : PySem.W.Frag} {tg : Expr} (it : Addr) (z : Str) (t : Tok) (ty : String) (hty : ty = "str_ascii_iterator" ∨ ty = "str_iterator") : Turn P w K tg (ItsS z) [it] it (fun i h => h.IsStrIter it ty z t i) where
  mem := by simp
  obj := fun i h st b hb => by
    have e : b = it := by simpa using hb
    subst e
    obtain ⟨o, e, c, d⟩ := st
    exact ⟨o, e, fun v z => by rw [d] at z; cases z⟩
  keep := fun i h h' st k => let ⟨o, e, r⟩ := st; ⟨o, k it (by simp) o e, r⟩
  item := by
    intro X hP hw hK hc i pins s σ H E I hf st hg
    subst hP hw hK
    have hi : i < z.cps.size := hg
    obtain ⟨f0, f1, f2, f3, f4, f5⟩ := hf it (by simp)
    have hx : z.cps[i]? = some z.cps[i] := by simp [hi]
    have fin : ∀ h' : Heap, h'.IsStrIter it ty z t (i + 1) → Heap.SameBut it s.heap h' → ∃ u, some (Value.str ⟨#[z.cps[i]]⟩ s.toks) = some u ∧ wpAny (model X.prog X.w) X.A (letOwnedTupleGo tg (.ref it) u) (fun _ s2 => ∃ x H', Inv X pins σ H' s2 ∧ RelV x u ∧ (ItsS z).yld i H x H' ∧ s2.heap.IsStrIter it ty z t (i + 1) ∧ ∀ b ∈ [it], H' b = none) E { s with heap := h', toks := s.toks + 1 } := fun h' st' sb => by
      have I1 : Inv X pins σ H { s with heap := h', toks := s.toks + 1 } := I.turned (t' := s.toks + 1) (fun b o hb e => (sb.2 b hb).trans e) f0 f1 f3 f4 f5
      obtain ⟨o, e, c, d⟩ := id st'
      exact ⟨_, rfl, go_of (s := { s with heap := h', toks := s.toks + 1 }) e c d (by rcases hty with rfl | rfl <;> decide) ⟨.str ⟨#[z.cps[i]]⟩, H, I1, ⟨_, rfl⟩, ⟨rfl, _, hx, rfl⟩, st', fun b hb => (hf b hb).1⟩⟩
    rcases hty with rfl | rfl
    · exact wpAny_pyNext_ascii_item st hx fin
    · exact wpAny_pyNext_wide_item st hx fin
  done := by
    intro X hP hw hK hc i pins s σ H E I hf st hg
    subst hP hw hK
    obtain ⟨f0, f1, f2, f3, f4, f5⟩ := hf it (by simp)
    have hx : z.cps[i]? = none := by simpa using (show z.cps.size ≤ i from hg)
    rcases hty with rfl | rfl
    · exact wpAny_pyNext_ascii_end (I.ok.hd hc) st hx fun h' eb => ⟨rfl, I.turned (t' := s.toks) (fun b o hb e => eb b o hb e) f0 f1 f3 f4 f5⟩
    · exact wpAny_pyNext_wide_end (I.ok.hd hc) st hx fun h' eb => ⟨rfl, I.turned (t' := s.toks) (fun b o hb e => eb b o hb e) f0 f1 f3 f4 f5⟩
  self := fun _ _ _ _ _ st h => by
    rcases hty with rfl | rfl
    · exact wpAny_pyIter_striter_ascii st h
    · exact wpAny_pyIter_striter_wide st h
theorem it_str {K : PySem.W.Frag} {H0 : Hp} {z : Str} : ItOk K H0 (ItsS z) (chars z) (fun _ => True) := by
  have hl : (chars z).length = z.cps.size := by simp [chars]
  refine ⟨fun i H M t rm s hi => by rw [hl] at hi; exact hi, fun i H M x H' t rm s hi y => ?_, fun H M t rm s => by show z.cps.size ≤ _; rw [hl]; exact Nat.le_refl _⟩
  obtain ⟨rfl, c, hc, rfl⟩ := y
  exact ⟨.refl _, rm, .str ⟨#[c]⟩, by simp [chars, hc], rfl⟩
theorem iter_str {X : Cx} {pins : List (Addr × Obj)} {σ : St} {H : Hp} {s : Shared} {tg : Expr} {z : Str} {t : Tok} {R : It → Hp → Prop} (I : Inv X pins σ H s) (q : R (ItsS z) H) : wpAny (model X.prog X.w) X.A (pyIter (.str z t)) (PIE X pins σ tg R) X.xe s := by
  have go : ∀ ty : String, (ty = "str_ascii_iterator" ∨ ty = "str_iterator") → PIE X pins σ tg R (.ref s.heap.objs.size) { s with heap := s.heap.push { cls := .type ty, data := .fields #[.str z t, .int 0 0] } } := fun ty hty =>
    ⟨s.heap.objs.size, [s.heap.objs.size], _, _, H, rfl, I.kept (t' := s.toks) (fun b o e => Heap.get?_push_of_some _ e), turn_str s.heap.objs.size z t ty hty, ⟨_, Heap.get?_push_size _ rfl, rfl, rfl⟩, fun b hb => by
      have e' : b = s.heap.objs.size := by simpa using hb
      subst e'
      exact I.fpOk (Nat.le_refl _) (I.hok.fresh (Nat.le_refl _)), q⟩
  cases ha : z.cps.all (· < 128)
  · exact wpAny_pyIter_wide ha (go _ (.inr rfl))
  · exact wpAny_pyIter_ascii ha (go _ (.inl rfl))
theorem i_seq (hl : PE X l (low X.K cls E2 te)) : PI X tg l (lowI X.K cls E2 fun σ M R E => te σ M (fun x M1 => match x with
    | .tup ds => R ds (fun _ => True) M1
    | .rol ds => R ds (fun _ => True) M1
    | .ref a => match M1 a with
      | some (.lst ds) => R ds (fun M => M a = some (.lst ds)) M1
      | _ => False
    | .str z => R (chars z) (fun _ => True) M1
    | _ => False) E) := by
  refine fun pins s σ H R2 I hl_ => ex9 hl_ fun σ3 M R E3 rm ds lk h k => ?_
  refine thn (hl pins s σ H _ I ⟨σ3, M, _, E3, rm, ds, lk, h, fun v H' d M' a b c e => (⟨d, M', a, b, c, e⟩ : (fun v H' => ∃ d M', Den X.K H' d v ∧ RelM X.K M' H' ∧ TM X.K H H' ∧ (match d with
    | .tup ds => R ds (fun _ => True) M'
    | .rol ds => R ds (fun _ => True) M'
    | .ref a => match M' a with
      | some (.lst ds) => R ds (fun M => M a = some (.lst ds)) M'
      | _ => False
    | .str z => R (chars z) (fun _ => True) M'
    | _ => False)) v H')⟩) fun u s1 ⟨v, H1, I1, r1, d, M1, dv, rm1, t1, q1⟩ => ?_
  split at q1
  · obtain ⟨p, vs, rfl, sq, dl⟩ := dv
    cases r1
    exact iter_tup I1 sq (k _ _ _ _ _ (it_tup sq dl) rm1 t1 q1)
  · obtain ⟨p, vs, rfl, sq, dl⟩ := dv
    cases r1
    exact iter_list I1 sq.sq (k _ _ _ _ _ (it_rol sq dl) rm1 t1 q1)
  · rename_i a
    cases (show v = .ref a from dv)
    cases r1
    split at q1
    · rename_i ds' e
      obtain ⟨vs, e1, dl⟩ := rm1 a _ e
      exact iter_list I1 (.of e1) (k _ _ _ _ _ it_ref rm1 t1 q1)
    · exact q1.elim
  · rename_i z
    cases (show v = .str z from dv)
    obtain ⟨tt, rfl⟩ := r1
    exact iter_str I1 (k _ _ _ _ _ it_str rm1 t1 q1)
  · exact q1.elim
theorem i_r1 (hg : Gl X "range") (hm : X.mg "range" = none) (ha : PE X a (low X.K cls E2 ta)) (hs : starEach [a] X.env = [(false, eval a X.env)]) : PI X tg (.Call (.Name "range" p) [a] [] pos) (lowI X.K cls E2 fun σ M R E => ta σ M (fun x M1 => match x with
    | .int j => -(2 ^ 62) ≤ j ∧ j < 2 ^ 62 ∧ R (rng 0 j.toNat) (fun _ => True) M1
    | _ => False) E) :=
  (pi_range1 hg hm (pa_cons ha pa_nil hs) hs).imp fun σ H R2 hl_ => ex9 hl_ fun σ3 M R E3 rm ds lk h k => low1 rm ds lk h fun v H1 x M1 dx rm1 t1 q1 => by
    split at q1
    · rename_i j
      cases (show v = .int j from dx)
      exact ⟨j, rfl, q1.1, q1.2.1, k _ _ _ _ _ it_rng rm1 t1 q1.2.2⟩
    · exact q1.elim
end
end L2
set_option Elab.async false
set_option linter.all false
set_option maxRecDepth 100000
set_option maxHeartbeats 4000000
namespace L2
open PySem PySem.Spec PyProof.Rows
section
variable {X : Cx} {cls : Nat → Addr} {E2 : St → XK} {e : Expr} {pos p : Pos}
theorem isC_ok {pins : List (Addr × Obj)} {σ : St} {H : Hp} {s : Shared} {A : Around} {Ex : Value → Shared → Prop} {ne : Nat} {r : Nat → Bool} {cv : Value} {x : D} {v : V} {v2 : Value} {M : MH} {Q : VK3} {Q2 : VK} (hX : ∀ i, i < ne → ExcI X.K (cls i) ∧ PySem.W.kitOne X.K (.ref (cls i)) cv = some (r i))
    (I : Inv X pins σ H s) (rv : RelV v v2) (dx : Den X.K H x v) (rm : RelM X.K M H) (q : isCT ne cls r x M Q) (back : Back X.K H Q Q2) :
    wpAny (model X.prog X.w) A (call (.builtin "isinstance") [v2, cv]) (EP X pins σ Q2) Ex s := by
  unfold isCT at q
  split at q
  · rename_i a
    cases (show v = .ref a from dx)
    cases rv
    split at q
    · rename_i i w e
      obtain ⟨hi, rfl, q⟩ := q
      obtain ⟨h1, h2⟩ := hX i.c hi
      obtain ⟨dx0, e0, _⟩ := rm a _ e
      have ho := I.hok _ _ e0
      obtain ⟨⟨o, vs, g1, g2, _⟩, _, _⟩ := ho
      exact PySem.W.kia_one (kitx_exc h1) I.kIn ⟨o, g1, g2⟩ h2 (fun z => nomatch z) fun tk => ⟨.bl _, H, I.tok _, rfl, back _ _ _ _ den_bl rm (.refl _) q⟩
    · exact q.elim
  · exact q.elim
theorem x_isC {te : St3 → MH → VK3 → XN → Prop} {ne j : Nat} {r : Nat → Bool} {x : Str} {p2 : Pos} (ha : PE X e (low X.K cls E2 te)) (hg : Gl X "isinstance") (hm : X.mg "isinstance" = none) (hg2 : Gl X x) (hm2 : X.mg x = some (.ref (cls j))) (hdb : (x == ("__debug__" : Str)) = false)
    (hX : ∀ i, i < ne → ExcI X.K (cls i) ∧ PySem.W.kitOne X.K (.ref (cls i)) (.ref (cls j)) = some (r i)) (hs : starEach (e :: [.Name x p2]) X.env = (false, eval e X.env) :: starEach [.Name x p2] X.env) :
    PE X (.Call (.Name "isinstance" p) [e, .Name x p2] [] pos) (low X.K cls E2 fun σ M Q E => te σ M (fun x M1 => isCT ne cls r x M1 Q) E) := by
  have hT : PE X (.Name x p2) (tC (.ref (cls j))) := pe_glob hg2 hm2 rfl hdb
  have hc : CallR X (.builtin "isinstance") (fun vs H Q2 => ∃ x v M Q, vs = [v, .ref (cls j)] ∧ Den X.K H x v ∧ RelM X.K M H ∧ isCT ne cls r x M Q ∧ Back X.K H Q Q2) := by
    intro pins s σ H vs us Q2 I r ⟨x, v, M, Q, e, dx, rm, q, back⟩
    subst e
    obtain ⟨u, w, rfl, ru, rw⟩ := Vals.two r
    cases (show w = Value.ref (cls j) from rw)
    exact isC_ok hX I ru dx rm q back
  refine (pe_callB hc hg hm (by decide +kernel) (pa_cons ha (pa_cons hT pa_nil (by rfl)) hs) (by decide +kernel) (by decide +kernel) hs (by rfl)).imp fun σ H Q2 hl_ => ex9 hl_ fun σ3 M Q E3 rm ds lk h back => ?_
  exact low1 rm ds lk h fun v H1 x M1 dx rm1 t1 q1 => ⟨x, v, M1, Q, rfl, dx, rm1, q1, back.mono t1⟩
end
end L2
set_option Elab.async false
set_option linter.all false
set_option maxRecDepth 100000
set_option maxHeartbeats 4000000
namespace L2
open PySem PySem.Spec PyProof.Rows
section
variable {K : PySem.W.Frag} {H : Hp}
end
section
variable {X : Cx} {pins : List (Addr × Obj)} {σ : St} {H : Hp} {s : Shared} {a C dx : Addr} {fs : List (Str × V)} {f : Str} {v : V} {A : Around} {E : Value → Shared → Prop}
end
structure ClsI (K : PySem.W.Frag) (C f : Addr) : Prop where
  ga : PySem.W.specialIn K (.ref C) "__getattribute__" = some (some (.builtin "type.__getattribute__"))
  rd : PySem.W.readsIn K C (.type "type") = true
  at_ : PySem.W.findCls K (.ref C) (.type "type") "__init__" = some (.val (.ref f))
structure TyI (K : PySem.W.Frag) (C : Addr) : Prop where
  ha : PySem.W.findIn K (.ref C) "__class__" = some (some (.builtin "object.__class__"))
  hn : PySem.W.specialIn K (.builtin "object.__class__") "__get__" = some (some (.builtin "getset_descriptor.__get__"))
  htk : PySem.W.takesIn K (.builtin "object.__class__") = some true
  hm : PySem.W.mroIn K C (.type "object") = some true
structure KOk (K : PySem.W.Frag) (B : WB) (fad : Nat → Addr) (i : Nat) : Prop where
  cl : Cls K (B.kls i)
  na : ∀ f, B.fok i f = true → NoAttr K (B.kls i) (fnm f)
  mt : ∀ m f, B.mth i m = some f → Meth K (B.kls i) (fnm m) (fad f)
  mkr : ∀ f, B.ini i = some f → Mk K (B.kls i) (fad f)
  ci : ∀ f, B.ini i = some f → ClsI K (B.kls i) (fad f)
  ty : TyI K (B.kls i)
  is : ∀ j, j < B.nk → PySem.W.kitOne K (.ref (B.kls i)) (.ref (B.kls j)) = some (B.ksub i j)
section
variable {X : Cx} {B : WB} {fad : Nat → Addr} {cls : Nat → Addr} {E2 : St → XK} {o e : Expr} {es : List Expr} {to te : St3 → MH → VK3 → XN → Prop} {tr : St3 → MH → (List D → MH → Prop) → XN → Prop} {pos apos p : Pos} {f m : Nat}
end
end L2
set_option Elab.async false
set_option linter.all false
set_option maxRecDepth 100000
set_option maxHeartbeats 4000000
namespace L2
open PySem PySem.Spec PyProof.Rows
noncomputable def FnAt (X : Cx) (cls : Nat → Addr) (k : Nat) (a : Addr) (t3 : List D → MH → VK3 → XN → Prop) : Prop := ∃ fd ps, PySem.W.keepIn X.K (.ref a) = true ∧ Binds X.K fd ps [] ∧ FnOk X.prog X.w X.K X.mg X.base (CX1 X.prog X.w) k a fd ps (spX X.K cls t3)
section
variable {X : Cx} {B : WB} {fad : Nat → Addr} {cls : Nat → Addr} {E2 : St → XK} {o e : Expr} {es : List Expr} {to te : St3 → MH → VK3 → XN → Prop} {tr : St3 → MH → (List D → MH → Prop) → XN → Prop} {pos apos p : Pos} {m k : Nat}
  {cl3 : Nat → List D → MH → VK3 → XN → Prop}
theorem x_glo {x : Str} {u : Value} {v : V} {d : D} (hg : Gl X x) (hm : X.mg x = some u) (r : RelV v u) (hdb : (x == ("__debug__" : Str)) = false) (hd : ∀ H, Den X.K H d v) : PE X (.Name x pos) (low X.K cls E2 fun _ M Q _ => Q d M) := x_con (pe_glob hg hm r hdb) hd
end
end L2
set_option Elab.async false
set_option linter.all false
set_option maxRecDepth 100000
set_option maxHeartbeats 4000000
namespace L2
open PySem PySem.Spec PyProof.Rows
noncomputable def VS (X : Cx) (r : D → Option Int → Option Int → MH → VK3 → Prop) : Prop :=
  ∀ (pins : List (Addr × Obj)) (s : Shared) (σ : St) (H : Hp) (x : D) (v : V) (v2 vl vu : Value) (lo hi : Option Int) (sl : Addr) (M : MH) (Q : VK3) (Q2 : VK), Inv X pins σ H s → RelV v v2 → Den X.K H x v → RelM X.K M H → s.heap.IsSliceOf sl vl vu .none → IsPart vl lo → IsPart vu hi → r x lo hi M Q → Back X.K H Q Q2 →
    ∃ T id, typeLookup (.type T) "__getitem__" = pure (some (.builtin id)) ∧ s.TypeIs v2 T ∧ wpAny (model X.prog X.w) X.A (getItem v2 (.ref sl)) (EP X pins σ Q2) X.xe s
section
variable {X : Cx} {cls : Nat → Addr} {E2 : St → XK} {a b e o : Expr} {es : List Expr} {ta tb te to : St3 → MH → VK3 → XN → Prop} {tl th : St3 → MH → (Option Int → MH → Prop) → XN → Prop} {lo hi : Option Expr} {pos p2 : Pos}
theorem VS.op {r : D → Option Int → Option Int → MH → VK3 → Prop} (h : VS X r) : SlR X (fun v lo hi H Q2 => ∃ x M Q, Den X.K H x v ∧ RelM X.K M H ∧ r x lo hi M Q ∧ Back X.K H Q Q2) := by
  intro pins s σ H v v2 vl vu lo hi sl Q2 I rv hs pl pu ⟨x, M, Q, dx, rm, q, back⟩
  exact h pins s σ H x v v2 vl vu lo hi sl M Q Q2 I rv dx rm hs pl pu q back
theorem cut_denD {K : PySem.W.Frag} {H : Hp} {ds : List D} {vs : List V} {lo hi : Option Int} (dl : DenL K H ds vs) : DenL K H (cutD ds lo hi) (cutV vs lo hi) := by
  unfold cutD cutV
  rw [dl.length]
  exact (dl.drop _).take _
theorem vs_sl (fz : Bool) : VS X (rSl3 fz) := by
  intro pins s σ H x v v2 vl vu lo hi sl M Q Q2 I rv dx rm hs pl pu q back
  unfold rSl3 at q
  split at q
  · rename_i ds
    obtain ⟨p, vs, rfl, sq, dl⟩ := dx
    obtain ⟨hw, q⟩ := q
    refine sl_tup pins s σ H _ v2 vl vu lo hi sl Q2 I rv hs pl pu ⟨p, vs, rfl, sq, fun z => ?_, fun p' hp => ?_⟩
    · unfold whole at hw
      rw [dl.length, z.1, z.2] at hw
      simp at hw
    · exact back _ _ (.tup (cutD ds lo hi)) _ ⟨p', _, rfl, .of upd_same, (cut_denD dl).mono (.new hp)⟩ (rm.grow hp) (.new hp) q
  · rename_i z
    cases (show v = .str z from dx)
    obtain ⟨t, rfl⟩ := rv
    obtain ⟨hz, q⟩ := q
    have fin : ∀ t' k, EP X pins σ Q2 (.str (Txt.slice z lo hi) t') { s with toks := k } := fun t' k => ⟨.str _, H, I.tok _, ⟨_, rfl⟩, back _ _ _ _ den_str rm (.refl _) q⟩
    refine ⟨"str", _, PySem.F.slot_str_getitem.lookup, typeIs_str _ _ _, ?_⟩
    cases pl with
    | none =>
      cases pu with
      | none => exact wpAny_getItem_str_slice (l := none) (u := none) (st := none) hs rfl (post_val_or_str ⟨Nat.le_trans (Txt.slice_le z _ _) hz, fin⟩)
      | int j u => exact wpAny_getItem_str_slice (l := none) (u := some (j, u)) (st := none) hs rfl (post_val_or_str ⟨Nat.le_trans (Txt.slice_le z _ _) hz, fin⟩)
    | int i u' =>
      cases pu with
      | none => exact wpAny_getItem_str_slice (l := some (i, u')) (u := none) (st := none) hs rfl (post_val_or_str ⟨Nat.le_trans (Txt.slice_le z _ _) hz, fin⟩)
      | int j u => exact wpAny_getItem_str_slice (l := some (i, u')) (u := some (j, u)) (st := none) hs rfl (post_val_or_str ⟨Nat.le_trans (Txt.slice_le z _ _) hz, fin⟩)
  · split at q
    · rename_i ds e
      obtain ⟨p, vs, rfl, hq, dl⟩ := lstOf_rel rm e dx
      cases rv
      obtain ⟨its, r, ht, hz⟩ := I.list hq.sq
      have hlen := r.length
      refine ⟨"list", _, slot_list_getitem.lookup, ht.isList.typeIs, ?_⟩
      refine wpAny_getItem_list_slice ht.isList hs pl pu .none (by simp) ?_ (by rw [List.size_toArray] <;> omega)
      rw [slicePick_cut, ← hlen]
      have I2 := I.laid (t' := s.toks) (o := .lst (cutV vs lo hi)) (h' := s.heap.push { cls := .type "list", data := .seq ((its.drop (HT.sIx vs.length 0 lo)).take (HT.sIx vs.length vs.length hi - HT.sIx vs.length 0 lo)).toArray 0 }) (fun b ob q => Heap.get?_push_of_some _ q) (Nat.le_refl _)
        ⟨Nat.le_trans (cutV_length vs lo hi) hz, _, 0, (r.drop (HT.sIx vs.length 0 lo)).take (HT.sIx vs.length vs.length hi - HT.sIx vs.length 0 lo), Heap.get?_push_size _ rfl⟩
      exact newL_back I2 (I.hok.fresh (Nat.le_refl _)) (cut_denD dl) rm (.refl _) q back
    · exact q.elim
theorem x_sl {fz : Bool} (ha : PE X a (low X.K cls E2 ta)) (hl : PO X lo (lowO X.K cls E2 tl)) (hh : PO X hi (lowO X.K cls E2 th)) :
    PE X (.Subscript a (.Slice lo hi none p2) pos) (low X.K cls E2 fun σ M Q E => ta σ M (fun x M1 => tl σ M1 (fun l M2 => th σ M2 (fun h M3 => rSl3 fz x l h M3 Q) E) E) E) :=
  (pe_slice (vs_sl fz).op ha hl hh).imp fun σ H Q2 hl_ => ex9 hl_ fun σ3 M Q E3 rm ds lk h back => low1 rm ds lk h fun v H1 x M1 dx rm1 t1 q1 => lowO1 rm1 (ds.mono t1) (lk.mono t1) q1 fun l H2 M2 rm2 t2 q2 => lowO1 rm2 ((ds.mono t1).mono t2) ((lk.mono t1).mono t2) q2 fun h H3 M3 rm3 t3 q3 =>
    ⟨x, M3, Q, (dx.mono t2).mono t3, rm3, q3, back.mono ((t1.trans t2).trans t3)⟩
theorem bools_are {K : PySem.W.Frag} {H : Hp} : ∀ {ds : List D} {bs : List Bool} {vs : List V} {us : List Value}, boolsD ds = some bs → DenL K H ds vs → Vals vs us → LSm.BoolsAre us bs
  | [], bs, vs, us, e, dl, r => by
    cases (show vs = [] from dl)
    cases r
    cases (show some [] = some bs from e)
    exact .nil
  | d :: ds, bs, _, us, e, dl, r => by
    obtain ⟨v, vs, rfl, dv, dl⟩ := dl
    cases r with
    | cons ru rt =>
      cases d with
      | bl b =>
        simp only [boolsD] at e
        split at e
        · rename_i ns q
          cases e
          cases (show v = .bl b from dv)
          cases ru
          exact .cons b (bools_are q dl rt)
        · cases e
      | _ => cases e
theorem vc_aa (al : Bool) (hc : X.calm = true) : VC X (.builtin (if al = true then "all" else "any")) (rBi (if al = true then .all else .any)) := by
  intro pins s σ H xs vs us M Q Q2 I r dl rm q back
  have hh : X.A.handled = none := I.ok.hd hc
  have key : ∃ x ds bs, xs = [x] ∧ lstOf M x = some ds ∧ boolsD ds = some bs ∧ Q (.bl (if al = true then bs.all id else bs.any id)) M := by
    cases al with
    | true =>
      simp only [if_true, rBi] at q
      split at q
      · split at q
        · split at q
          · exact ⟨_, _, _, rfl, by assumption, by assumption, q⟩
          · exact q.elim
        · exact q.elim
      · exact q.elim
    | false =>
      simp only [Bool.false_eq_true, if_false, rBi] at q
      split at q
      · split at q
        · split at q
          · exact ⟨_, _, _, rfl, by assumption, by assumption, q⟩
          · exact q.elim
        · exact q.elim
      · exact q.elim
  obtain ⟨x, ds, bs, rfl, e1, e2, q⟩ := key
  obtain ⟨v, rfl, dv⟩ := denL1 dl
  obtain ⟨u, rfl, ru⟩ := vals1 r
  obtain ⟨p, ws, rfl, hq, dl2⟩ := lstOf_rel rm e1 dv
  cases ru
  obtain ⟨its, r2, pl', hz⟩ := I.list hq.sq
  have hb := bools_are e2 dl2 r2
  have hl := pl'.isList
  have hlt : p < s.heap.objs.size := by obtain ⟨_, e, _⟩ := hl; exact Heap.lt_size e
  have fin : ∀ h' tk, (∀ b o, s.heap.get? b = some o → h'.get? b = some o) → EP X pins σ Q2 (.bool (if al = true then bs.all id else bs.any id)) { s with heap := h', toks := tk } := fun h' tk hk =>
    ⟨.bl _, H, I.kept (t' := tk) hk, rfl, back _ _ _ _ den_bl rm (.refl _) q⟩
  cases al with
  | true =>
    refine call_all_walk (wpAny_pyIter_list hl ?_)
    refine ⟨s.heap.objs.size, [s.heap.objs.size, p], [s.heap.objs.size], its.toArray.size, _, _, fun i => (bs[i]?).getD true, rfl, Walks.list (A := X.A.in1) hh _ p (Nat.ne_of_lt hlt) its.toArray,
      ⟨⟨_, Heap.get?_push_size _ rfl, rfl, rfl⟩, hl.push _⟩, fun i v s' Q' E' hP hQ => ?_, fun h' tk hk => ?_⟩
    · obtain ⟨b, e, rfl⟩ := hb.get i v (by simpa using hP)
      simp only [e, Option.getD_some] at hQ
      exact wpAny_truthy_bool hQ
    · have e : ((List.range its.toArray.size).all fun i => (bs[i]?).getD true) = bs.all id := by
        rw [List.size_toArray, hb.length]; exact LSm.range_all bs
      rw [e]
      exact fin h' tk (LSm.kept_iter hk)
  | false =>
    refine call_any_walk (wpAny_pyIter_list hl ?_)
    refine ⟨s.heap.objs.size, [s.heap.objs.size, p], [s.heap.objs.size], its.toArray.size, _, _, fun i => (bs[i]?).getD false, rfl, Walks.list (A := X.A.in1) hh _ p (Nat.ne_of_lt hlt) its.toArray,
      ⟨⟨_, Heap.get?_push_size _ rfl, rfl, rfl⟩, hl.push _⟩, fun i v s' Q' E' hP hQ => ?_, fun h' tk hk => ?_⟩
    · obtain ⟨b, e, rfl⟩ := hb.get i v (by simpa using hP)
      simp only [e, Option.getD_some] at hQ
      exact wpAny_truthy_bool hQ
    · have e : ((List.range its.toArray.size).any fun i => (bs[i]?).getD false) = bs.any id := by
        rw [List.size_toArray, hb.length]; exact LSm.range_any bs
      rw [e]
      exact fin h' tk (LSm.kept_iter hk)
end
end L2
set_option Elab.async false
set_option linter.all false
set_option maxRecDepth 100000
set_option maxHeartbeats 4000000
namespace L2
open PySem PySem.Spec PyProof.Rows
noncomputable def TyV (X : Cx) (T : String) (x : V) (H : Hp) : Prop := ∀ (pins : List (Addr × Obj)) (σ : St) (s : Shared) (v : Value), Inv X pins σ H s → RelV x v → s.TypeIs v T ∧ ∀ a, v = .ref a → ∃ ob, s.heap.get? a = some ob ∧ ob.dict = none
section
variable {X : Cx} {cls : Nat → Addr} {E2 : St → XK} {o e : Expr} {es : List Expr} {to te : St3 → MH → VK3 → XN → Prop} {tr : St3 → MH → (List D → MH → Prop) → XN → Prop} {name : Str} {apos cpos pos : Pos} {T id : String}
theorem pe_bmX {r : V → List V → Hp → VK → Prop} {t2 : TE} {ta : TA} (pa : PlainAttrs T) (slot : Slot T name id) (hty : typeOf (.builtin id) = pure (.type "method_descriptor")) (hm : MtR X id r) (ho : PE X o t2) (ha : PA X (e :: es) ta)
    (hbase : attributeBase o name X.env (eval o X.env) = eval o X.env)
    (hfew : ((backTo cpos (starEach (e :: es) X.env)).all (fun x => !x.1) && (backToKw cpos (keywordEach [] X.env)).all (fun x => x.1.isSome)
      && decide ((e :: es).length + ([] : List Keyword).length + (if ([] : List Keyword).isEmpty then 0 else 1) < 30)) = true)
    (hline : (apos.endLine == cpos.line) = true) (hs : starEach (e :: es) X.env = (false, eval e X.env) :: starEach es X.env) (hplain : (backTo cpos (starEach es X.env)).any (·.1) = false) :
    PE X (.Call (.Attribute o name apos) (e :: es) [] cpos) (fun σ H Q => t2 σ H fun x H1 => TyV X T x H1 ∧ ta σ H1 fun xs H2 => r x xs H2 Q) := by
  intro pins s σ H Q I h
  refine wpAny_Call_method_late hbase hfew hline rfl (thn (ho pins s σ H _ I h) fun v s1 ⟨x, H1, I1, r1, ty, q1⟩ => ?_)
  obtain ⟨h1, h2⟩ := ty pins σ s1 v I1 r1
  refine ⟨T, id, pa, slot, hty, h1, h2, ?_⟩
  have hA := ha cpos pins s1 σ H1 _ I1 q1
  rw [hs] at hA ⊢
  refine Calls.callWith_builtin (by show (false || (backTo cpos (starEach es X.env)).any (·.1)) = false; rw [hplain] <;> rfl) (Calls.evalArgs_plain ?_)
  exact thn hA fun us s2 ⟨vs, H2, I2, r2, q2⟩ => hm pins s2 σ H2 x vs v us Q I2 r1 r2 q2
theorem pe_bmX0 {r : V → List V → Hp → VK → Prop} {t2 : TE} (pa : PlainAttrs T) (slot : Slot T name id) (hty : typeOf (.builtin id) = pure (.type "method_descriptor")) (hm : MtR X id r) (ho : PE X o t2)
    (hbase : attributeBase o name X.env (eval o X.env) = eval o X.env) (hline : (apos.endLine == cpos.line) = true) : PE X (.Call (.Attribute o name apos) [] [] cpos) (fun σ H Q => t2 σ H fun x H1 => TyV X T x H1 ∧ r x [] H1 Q) := by
  intro pins s σ H Q I h
  refine wpAny_Call_method0_late hbase hline (thn (ho pins s σ H _ I h) fun v s1 ⟨x, H1, I1, r1, ty, q1⟩ => ?_)
  obtain ⟨h1, h2⟩ := ty pins σ s1 v I1 r1
  exact ⟨T, id, pa, slot, hty, h1, h2, Calls.callWith_builtin rfl (PySem.evalArgs_none (hm pins s1 σ H1 x [] v [] Q I1 r1 .nil q1))⟩
noncomputable def VM (X : Cx) (id : String) (r : D → List D → MH → VK3 → Prop) : Prop :=
  ∀ (pins : List (Addr × Obj)) (s : Shared) (σ : St) (H : Hp) (x : D) (xs : List D) (v : V) (vs : List V) (v2 : Value) (us : List Value) (M : MH) (Q : VK3) (Q2 : VK), Inv X pins σ H s → RelV v v2 → Vals vs us → Den X.K H x v → DenL X.K H xs vs → RelM X.K M H → r x xs M Q → Back X.K H Q Q2 →
    wpAny (model X.prog X.w) X.A (call (.builtin id) (v2 :: us)) (EP X pins σ Q2) X.xe s
theorem VM.op {r : D → List D → MH → VK3 → Prop} (h : VM X id r) : MtR X id (fun v vs H Q2 => ∃ x xs M Q, Den X.K H x v ∧ DenL X.K H xs vs ∧ RelM X.K M H ∧ r x xs M Q ∧ Back X.K H Q Q2) := by
  intro pins s σ H v vs v2 us Q2 I rv rs ⟨x, xs, M, Q, dx, dl, rm, q, back⟩
  exact h pins s σ H x xs v vs v2 us M Q Q2 I rv rs dx dl rm q back
noncomputable def TyD (X : Cx) (T : String) (tb : D → MH → Bool) : Prop := ∀ (x : D) (v : V) (M : MH) (H : Hp), Den X.K H x v → RelM X.K M H → tb x M = true → TyV X T v H
theorem x_bm {tb : D → MH → Bool} {r : D → List D → MH → VK3 → Prop} (pa : PlainAttrs T) (slot : Slot T name id) (hty : typeOf (.builtin id) = pure (.type "method_descriptor")) (hm : VM X id r) (ht : TyD X T tb) (ho : PE X o (low X.K cls E2 to)) (ha : PA X (e :: es) (lowA X.K cls E2 tr))
    (hbase : attributeBase o name X.env (eval o X.env) = eval o X.env) (hn : (e :: es).length < 30)
    (hline : (apos.endLine == cpos.line) = true) (hs : starEach (e :: es) X.env = (false, eval e X.env) :: starEach es X.env) (hplain : (backTo cpos (starEach es X.env)).any (·.1) = false) :
    PE X (.Call (.Attribute o name apos) (e :: es) [] cpos) (low X.K cls E2 fun σ M Q E => to σ M (fun x M1 => tb x M1 = true ∧ tr σ M1 (fun xs M2 => r x xs M2 Q) E) E) := by
  have hst : (backTo cpos (starEach (e :: es) X.env)).any (·.1) = false := by
    rw [hs]
    show ((false, _) :: backTo cpos (starEach es X.env)).any (·.1) = false
    rw [List.any_cons, hplain]; rfl
  refine (pe_bmX pa slot hty hm.op ho ha hbase (form_of hst hn) hline hs hplain).imp fun σ H Q2 hl_ => ex9 hl_ fun σ3 M Q E3 rm ds lk h back => low1 rm ds lk h fun v H1 x M1 dx rm1 t1 q1 => ?_
  exact ⟨ht x v M1 H1 dx rm1 q1.1, lowA1 rm1 (ds.mono t1) (lk.mono t1) q1.2 fun vs H2 xs M2 dl rm2 t2 q2 => ⟨x, xs, M2, Q, dx.mono t2, dl, rm2, q2, back.mono (t1.trans t2)⟩⟩
theorem x_bm0 {tb : D → MH → Bool} {r : D → List D → MH → VK3 → Prop} (pa : PlainAttrs T) (slot : Slot T name id) (hty : typeOf (.builtin id) = pure (.type "method_descriptor")) (hm : VM X id r) (ht : TyD X T tb) (ho : PE X o (low X.K cls E2 to))
    (hbase : attributeBase o name X.env (eval o X.env) = eval o X.env) (hline : (apos.endLine == cpos.line) = true) :
    PE X (.Call (.Attribute o name apos) [] [] cpos) (low X.K cls E2 fun σ M Q E => to σ M (fun x M1 => tb x M1 = true ∧ r x [] M1 Q) E) :=
  (pe_bmX0 pa slot hty hm.op ho hbase hline).imp fun σ H Q2 hl_ => ex9 hl_ fun σ3 M Q E3 rm ds lk h back => low1 rm ds lk h fun v H1 x M1 dx rm1 t1 q1 => ⟨ht x v M1 H1 dx rm1 q1.1, x, [], M1, Q, dx, .nil, rm1, q1.2, back.mono t1⟩
theorem ty_list {tb : D → MH → Bool} (hb : ∀ x M, tb x M = true → (lstOf M x).isSome = true) : TyD X "list" tb := fun x v M H dx rm h pins σ s v2 I rv => by
  obtain ⟨ds, e⟩ := Option.isSome_iff_exists.mp (hb x M h)
  obtain ⟨p, vs, rfl, hq, dl⟩ := lstOf_rel rm e dx
  cases rv
  obtain ⟨its, _, pl, _⟩ := I.list hq.sq
  refine ⟨pl.isList.typeIs, fun a e => ?_⟩
  cases e
  obtain ⟨o, n, e, c, hd, _⟩ := pl
  exact ⟨o, e, hd⟩
theorem OptDen.getD {K : PySem.W.Frag} {H : Hp} {o : Option D} {ov : Option V} {d : D} {v : V} (h : OptDen K H o ov) (dv : Den K H d v) : Den K H (o.getD d) (ov.getD v) := by
  cases o with
  | none => cases ov with
    | none => exact dv
    | some _ => exact h.elim
  | some d' => cases ov with
    | none => exact h.elim
    | some v' => exact h
theorem denL_cons {K : PySem.W.Frag} {H : Hp} {d : D} {ds : List D} {vs : List V} (h : DenL K H (d :: ds) vs) : ∃ v ws, vs = v :: ws ∧ Den K H d v ∧ DenL K H ds ws := by
  obtain ⟨v, r, e, dv, dl⟩ := h; exact ⟨v, r, e, dv, dl⟩
end
end L2
set_option Elab.async false
set_option linter.all false
set_option maxRecDepth 100000
set_option maxHeartbeats 4000000
namespace L2
open PySem PySem.Spec PyProof.Rows
section
variable {X : Cx}
theorem VM.of {id : String} {r3 : D → List D → MH → VK3 → Prop} {r : V → List V → Hp → VK → Prop} (h : MtM X id r)
    (hr : ∀ (H : Hp) (x : D) (xs : List D) (v : V) (vs : List V) (M : MH) (Q : VK3) (Q2 : VK), Den X.K H x v → DenL X.K H xs vs → RelM X.K M H → r3 x xs M Q → Back X.K H Q Q2 → r v vs H Q2) : VM X id r3 :=
  fun pins s σ H x xs v vs v2 us M Q Q2 I rv rs dx dl rm q back => h pins s σ H v vs v2 us Q2 I rv rs (hr H x xs v vs M Q Q2 dx dl rm q back)
theorem ty_listM : TyD X "list" isLstM := ty_list fun x M h => by
  unfold isLstM at h
  split at h
  · split at h
    · rename_i e; simp [lstOf, e]
    · cases h
  · cases h
theorem DenL.app {K : PySem.W.Frag} {H : Hp} : ∀ {ds es : List D} {vs ws : List V}, DenL K H ds vs → DenL K H es ws → DenL K H (ds ++ es) (vs ++ ws)
  | [], es, vs, ws, h, g => by cases (show vs = [] from h); exact g
  | d :: ds, es, vs, ws, h, g => by
    obtain ⟨v, us, rfl, dv, dw⟩ := denL_cons h
    exact .cons dv (DenL.app dw g)
theorem lst_put {K : PySem.W.Frag} {H : Hp} {M : MH} {a : Addr} {ds es : List D} {vs : List V} (rm : RelM K M H) (e : H a = some (.lst vs)) (ws : List V) (h : DenL K H es ws) : RelM K (put M a (.lst es)) (upd H a (.lst ws)) ∧ TM K H (upd H a (.lst ws)) := by
  have tw : TM K H (upd H a (.lst ws)) := .put e (fun _ z => by cases z) fun _ _ z => by cases z
  exact ⟨rm.write (u := .lst es) e (fun _ z => by cases z) (fun _ _ z => by cases z) ⟨_, upd_same, h.mono tw⟩, tw⟩
noncomputable def rExtendR : V → List V → Hp → VK → Prop := fun x vs H Q => ∃ l b xs zs, x = .ref l ∧ vs = [.ref b] ∧ H l = some (.lst xs) ∧ RdL X.K H b zs ∧ xs.length + zs.length ≤ sizeLine ∧ Q .non (upd H l (.lst (xs ++ zs)))
theorem mt_extendR : MtM X "list.extend" (rExtendR (X := X)) := by
  intro pins s σ H x vs v us Q I rx rv h
  obtain ⟨l, b, xs, zs, rfl, rfl, hH, hB, hz, q⟩ := h
  cases rx
  obtain ⟨u, rfl, ru⟩ := rv.one
  cases ru
  obtain ⟨z, its, n, r, hl, e⟩ := I.lstM hH
  obtain ⟨z2, its2, n2, r2, hl2, e2⟩ := I.rdL hB
  have hsz : its.toArray.size + its2.toArray.size ≤ sizeLine := by rw [List.size_toArray, List.size_toArray]; omega
  have hlong : ¬ (!its.toArray.isEmpty && Builtin.List.listTooLong (its.toArray.size + its2.toArray.size)) = true := by
    rw [notLongL hsz, Bool.and_false]
    exact Bool.false_ne_true
  refine call_meets F.slot_list_extend ⟨_, e, rfl⟩ F.entry_list_extend (F.args_list_extend_2 _ _)
    (AutoSeq1.list_extend_list_list_0 l its.toArray n b its2.toArray n2 hlong (by rw [List.size_toArray]; omega) (by omega)) ⟨e, e2, ?_⟩
  refine ⟨.non, _, I.lset (its' := its ++ its2) hH e (by simp) (r.append r2) ?_, rfl, q⟩
  rw [List.length_append]
  omega
theorem vm_extend : VM X "list.extend" (rBm .extend) := VM.of mt_extendR fun H x xs v vs M Q Q2 dx dl rm q back => by
  simp only [rBm] at q
  split at q
  · rename_i a y
    split at q
    · rename_i ds es e e'
      obtain ⟨ws, e1, dw⟩ := rm a _ e
      cases (show v = .ref a from dx)
      obtain ⟨yv, rfl, dy⟩ := denL1 dl
      obtain ⟨p, us, rfl, hq, du⟩ := lstOf_rel rm e' dy
      obtain ⟨r1, t1⟩ := lst_put (ds := ds) rm e1 _ (dw.append du)
      exact ⟨a, p, ws, us, rfl, rfl, e1, hq, by rw [← dw.length, ← du.length]; exact q.1, back _ _ .non _ rfl r1 t1 q.2⟩
    · exact q.elim
  · exact q.elim
theorem vm_clear : VM X "list.clear" (rBm .clear) := VM.of mt_clear fun H x xs v vs M Q Q2 dx dl rm q back => by
  simp only [rBm] at q
  split at q
  · rename_i a
    split at q
    · rename_i ds e
      obtain ⟨ws, e1, dw⟩ := rm a _ e
      cases (show v = .ref a from dx)
      cases (show vs = [] from dl)
      obtain ⟨r1, t1⟩ := lst_put (ds := ds) (es := []) rm e1 [] .nil
      exact ⟨a, ws, rfl, rfl, e1, back _ _ .non _ rfl r1 t1 q⟩
    · exact q.elim
  · exact q.elim
theorem DenL.at {K : PySem.W.Frag} {H : Hp} {ds : List D} {vs : List V} {k : Nat} {d : D} (h : DenL K H ds vs) (e : ds[k]? = some d) : ∃ v, vs[k]? = some v ∧ Den K H d v := h.get e
end
end L2
set_option Elab.async false
set_option linter.all false
set_option maxRecDepth 100000
set_option maxHeartbeats 4000000
namespace L2
open PySem PySem.Spec PyProof.Rows PySem.Calls PySem.NumText PySem.W.KIN
end L2
set_option Elab.async false
set_option linter.all false
set_option maxRecDepth 100000
set_option maxHeartbeats 4000000
namespace L2
open PySem PySem.Spec PyProof.Rows
noncomputable def NoDg (K : PySem.W.Frag) : Prop := PySem.W.nsIn K cStatics "sys.int_max_str_digits" = some none
section
variable {X : Cx}
end
end L2
set_option Elab.async false
set_option linter.all false
set_option maxRecDepth 100000
set_option maxHeartbeats 4000000
namespace L2
open PySem PySem.Spec PyProof.Rows
section
variable {X : Cx} {pins : List (Addr × Obj)} {σ : St} {H : Hp} {s : Shared} {h' : Heap}
end
end L2
set_option Elab.async false
set_option linter.all false
set_option maxRecDepth 100000
set_option maxHeartbeats 4000000
namespace L2
open PySem PySem.Spec PyProof.Rows
section
variable {X : Cx} {pins : List (Addr × Obj)} {σ : St} {H : Hp} {s : Shared} {h' : Heap}
end
end L2
set_option Elab.async false
set_option linter.all false
set_option maxRecDepth 100000
set_option maxHeartbeats 4000000
namespace L2
open PySem PySem.Spec PyProof.Rows
section
variable {X : Cx} {cls : Nat → Addr} {E2 : St → XK} {e : Expr} {pos p : Pos}
end
end L2
set_option Elab.async false
set_option linter.all false
set_option maxRecDepth 100000
set_option maxHeartbeats 4000000
namespace L2
open PySem PySem.Spec PyProof.Rows
section
variable {X : Cx} {cls : Nat → Addr} {E2 : St → XK} {pos : Pos} {pins : List (Addr × Obj)} {σ : St} {H : Hp} {s : Shared} {M : MH} {a : Addr} {ds : List D} {A : Around} {E : Value → Shared → Prop} {r : Value}
end
end L2
set_option Elab.async false
set_option linter.all false
set_option maxRecDepth 100000
set_option maxHeartbeats 4000000
namespace L2
open PySem PySem.Spec PyProof.Rows
section
variable {prog : Program} {w : World} {A : Around} {E : Value → Shared → Prop} {s : Shared} {d it : Addr} {ob : Obj} {es : Array DictEntry} {ep i : Nat} {a1 a2 : Value}
end
section
variable {X : Cx} {cls : Nat → Addr} {E2 : St → XK} {o : Expr} {to : St3 → MH → VK3 → XN → Prop} {name : Str} {apos cpos pt : Pos} {elts : List Expr} {x1 : Nat}
theorem TabOk.grow {K : PySem.W.Frag} {H H' : Hp} {d : Addr} {ks : List (List Int)} {xs : List (List Int × Addr × Value)} {vs : List V} (z : TabOk K H d ks xs vs) (t : TM K H H') : TabOk K H' d ks xs vs := ⟨z.kx, z.nd, z.sz, z.no, z.vx, fun x hx => t.t _ _ (z.at_ x hx)⟩
end
end L2
set_option Elab.async false
set_option linter.all false
set_option maxRecDepth 100000
set_option maxHeartbeats 4000000
namespace L2
open PySem PySem.Spec PyProof.Rows PySem.W
section
variable {X : Cx} {cls : Nat → Addr} {E2 : St → XK} {o tg : Expr} {to : St3 → MH → VK3 → XN → Prop} {apos cpos : Pos}
end
end L2
set_option Elab.async false
set_option linter.all false
set_option maxRecDepth 100000
set_option maxHeartbeats 4000000
namespace L2
open PySem PySem.Spec PyProof.Rows
section
variable {X : Cx} {cls : Nat → Addr} {E2 : St → XK} {tg a b c e l : Expr} {ta tb tc te : St3 → MH → VK3 → XN → Prop} {pos p : Pos}
end
end L2
set_option Elab.async false
set_option linter.all false
set_option maxRecDepth 100000
set_option maxHeartbeats 4000000
namespace L2
open PySem PySem.Spec PyProof.Rows
theorem ER.upd_nx {K : PySem.W.Frag} {H : Hp} {D3 : Ends3} {D2 : Ends} (er : ER K H D3 D2) {n3 : St3 → MH → Prop} {n2 : St → Hp → Prop} (h : ∀ σ' H' σ3' M', RelM K M' H' → DenS K H' σ3' σ' → TM K H H' → n3 σ3' M' → n2 σ' H') : ER K H { D3 with nx := n3 } { D2 with nx := n2 } := ⟨h, er.rt, er.bk, er.ct⟩
section
variable {X : Cx} {cls : Nat → Addr} {E2 : St → XK} {st : Stmt} {rest : List Stmt} {t u : Ends3 → (St3 → XN) → St3 → MH → Prop} {e : Expr} {te : St3 → MH → VK3 → XN → Prop} {pos : Pos}
theorem q_nil : PSs X [] (lowS X.K cls E2 fun D _ σ M => D.nx σ M) := pss_nil.imp fun D2 σ H hl_ => ex9 hl_ fun σ3 M D3 E3 rm ds lk h er => er.nx σ H σ3 M rm ds (.refl _) h
theorem q_cons (h1 : PS X st (lowS X.K cls E2 t)) (h2 : PSs X rest (lowS X.K cls E2 u)) : PSs X (st :: rest) (lowS X.K cls E2 fun D E σ M => t { D with nx := fun σ' M' => u D E σ' M' } E σ M) :=
  (pss_cons h1 h2).imp fun D2 σ H hl_ => ex9 hl_ fun σ3 M D3 E3 rm ds lk h er => ⟨σ3, M, _, E3, rm, ds, lk, h, er.upd_nx fun σ' H' σ3' M' rm' ds' tm q => ⟨σ3', M', D3, E3, rm', ds', lk.mono tm, q, er.mono tm⟩⟩
theorem q_del {i : Nat} (h2 : PSs X rest (lowS X.K cls E2 u)) : PSs X rest (lowS X.K cls E2 fun D E σ M => match σ[i]? with
    | some (some (.ref a)) => u D E σ (del M a)
    | _ => False) := h2.imp fun D2 σ H hl_ => ex9 hl_ fun σ3 M D3 E3 rm ds lk h er => by
  dsimp only at h
  split at h
  · rename_i a e
    exact ⟨σ3, _, D3, E3, rm.sub fun b o q => (del_get q).2, ds, lk, h, er⟩
  · exact h.elim
theorem q_expr (he : PE X e (low X.K cls E2 te)) (hs : swapsWith e none pos.line X.env = pure false) : PS X (.Expr e pos) (lowS X.K cls E2 fun D E σ M => te σ M (fun _ M1 => D.nx σ M1) (E σ)) :=
  (ps_expr he hs).imp fun D2 σ H hl_ => ex9 hl_ fun σ3 M D3 E3 rm ds lk h er => low1 rm ds (lk.at ds) h fun v H1 x M1 dx rm1 t1 q1 => er.nx σ H1 σ3 M1 rm1 (ds.mono t1) t1 q1
theorem q_ret (he : PE X e (low X.K cls E2 te)) : PS X (.Return (some e) pos) (lowS X.K cls E2 fun D E σ M => te σ M D.rt (E σ)) :=
  (ps_ret he).imp fun D2 σ H hl_ => ex9 hl_ fun σ3 M D3 E3 rm ds lk h er => low1 rm ds (lk.at ds) h fun v H1 x M1 dx rm1 t1 q1 => er.rt v H1 x M1 dx rm1 t1 q1
theorem q_if {c : Expr} {a b : List Stmt} {tA : St3 → MH → (Bool → MH → Prop) → XN → Prop} (hc : PT X c (lowT X.K cls E2 tA)) (ha : PSs X a (lowS X.K cls E2 t)) (hb : PSs X b (lowS X.K cls E2 u)) :
    PS X (.If c a b pos) (lowS X.K cls E2 fun D E σ M => tA σ M (fun k M1 => if k = true then t D E σ M1 else u D E σ M1) (E σ)) :=
  (ps_if hc ha hb).imp fun D2 σ H hl_ => ex9 hl_ fun σ3 M D3 E3 rm ds lk h er => lowT1 rm ds (lk.at ds) h fun k H1 M1 rm1 t1 q1 => by
    cases k with
    | true => rw [if_pos rfl] at q1 ⊢; exact ⟨σ3, M1, D3, E3, rm1, ds.mono t1, lk.mono t1, q1, er.mono t1⟩
    | false => rw [if_neg Bool.false_ne_true] at q1 ⊢; exact ⟨σ3, M1, D3, E3, rm1, ds.mono t1, lk.mono t1, q1, er.mono t1⟩
theorem q_set {i : Nat} {x : Str} {pos' : Pos} (hN : X.N.Nodup) (hi : X.N[i]? = some x) (hx : Loc X.env.scope x) (he : PE X e (low X.K cls E2 te)) (hs : swapsWith e (some (.Name x pos')) pos.line X.env = pure false) (hf : X.fn x = true ∨ X.env.scope.names.lookup x = some .local) :
    PS X (.Assign [.Name x pos'] e pos) (lowS X.K cls E2 fun D E σ M => te σ M (fun x M1 => D.nx (σ.set i (some x)) M1) (E σ)) :=
  (ps_set hN hi hx he hs hf).imp fun D2 σ H hl_ => ex9 hl_ fun σ3 M D3 E3 rm ds lk h er => low1 rm ds (lk.at ds) h fun v H1 x M1 dx rm1 t1 q1 => er.nx _ _ _ _ rm1 ((ds.mono t1).set dx) t1 q1
theorem h_name {i : Nat} {x : Str} (hN : X.N.Nodup) (hi : X.N[i]? = some x) (hx : Loc X.env.scope x) (hf : X.fn x = true ∨ X.env.scope.names.lookup x = some .local) : PG X (.Name x pos) (lowG X.K (wpG (.name i))) :=
  (pg_name hN hi hx hf).imp fun v σ H Q2 ⟨d, σ3, M, Q, dv, rm, ds, h, back⟩ => back _ _ _ _ rm (ds.set dv) (.refl _) h
noncomputable def okNames (N : List Str) (sc : Scope) (fn : Bool) : List Nat → List Expr → Bool
  | [], [] => true
  | i :: is, .Name x _ :: es => (N[i]? == some x) && (sc.names.lookup x == some .local || (fn && sc.names.lookup x == some .cell)) && okNames N sc fn is es
  | _, _ => false
noncomputable def setAll {α : Type} (is : List Nat) (xs : List α) (σ : List (Option α)) : List (Option α) := (is.zip xs).foldl (fun σ p => σ.set p.1 (some p.2)) σ
theorem names_pgs (hN : X.N.Nodup) {fn : Bool} (hfn : fn = true → ∀ x, X.fn x = true) : ∀ {is : List Nat} {es : List Expr}, okNames X.N X.env.scope fn is es = true →
    PGs X es (fun vs σ H Q => vs.length = is.length ∧ Q (setAll is vs σ) H) ∧ (assignEach es X.env).length = is.length ∧ (assignEach es X.env).findIdx? (·.1) = none
  | [], [], _ => ⟨fun pins s σ H vs us Q I r ⟨e, h⟩ => pgs_nil pins s σ H vs us Q I r ⟨List.length_eq_zero_iff.mp e, by cases List.length_eq_zero_iff.mp e; exact h⟩, rfl, rfl⟩
  | [], _ :: _, h => by simp [okNames] at h
  | i :: is, es, h => by
    unfold okNames at h
    split at h
    · rename_i heq; cases heq
    · rename_i i' is' x px es' heq
      cases heq
      simp only [Bool.and_eq_true, beq_iff_eq, Bool.or_eq_true] at h
      obtain ⟨⟨h1, h2⟩, h3⟩ := h
      obtain ⟨ih, il, ix⟩ := names_pgs hN hfn h3
      have hg : PG X (.Name x px) (gName i) := by
        rcases h2 with h2 | ⟨h2, h4⟩
        · exact pg_name hN h1 (.inl h2) (.inr h2)
        · exact pg_name hN h1 (.inr h4) (.inl (hfn h2 x))
      refine ⟨fun pins s σ H vs us Q I r ⟨e, q⟩ => ?_, by show (assignEach es' X.env).length + 1 = is.length + 1; rw [il], ?_⟩
      · cases vs with
        | nil => cases e
        | cons v vs => exact pgs_cons hg ih rfl pins s σ H (v :: vs) us Q I r ⟨v, vs, rfl, by simpa using e, q⟩
      · show List.findIdx? (·.1) ((false, assign (.Name x px) X.env) :: assignEach es' X.env) = none
        rw [List.findIdx?_cons]
        simp [ix]
    · cases h
theorem den_setAll {K : PySem.W.Frag} {H : Hp} : ∀ {is : List Nat} {ds : List D} {vs : List V} {σ3 : St3} {σ : St}, DenL K H ds vs → DenS K H σ3 σ → DenS K H (setAll is ds σ3) (setAll is vs σ)
  | [], _, _, _, _, _, h => by simpa [setAll] using h
  | i :: is, [], vs, _, _, dl, h => by cases (show vs = [] from dl); simpa [setAll] using h
  | i :: is, d :: ds, vs, _, _, dl, h => by
    obtain ⟨v, r, rfl, dv, dl⟩ := dl
    exact den_setAll (is := is) dl (h.set (i := i) dv)
theorem h_tup (hc : X.calm = true) (hN : X.N.Nodup) {fn : Bool} (hfn : fn = true → ∀ x, X.fn x = true) {is : List Nat} {es : List Expr} {k : Nat} (ok : okNames X.N X.env.scope fn is es = true) : PG X (.Tuple es k pos) (lowG X.K (wpG (.tup is))) := by
  obtain ⟨h1, h2, h3⟩ := names_pgs hN hfn ok
  refine (pg_tup hc h1 h2 h3).imp fun v σ H Q2 ⟨d, σ3, M, Q, dv, rm, ds, h, back⟩ => ?_
  simp only [wpG] at h
  split at h
  · rename_i es'
    obtain ⟨p, vs, rfl, sq, dl⟩ := dv
    obtain ⟨z, q⟩ := h
    exact ⟨p, vs, rfl, sq, by rw [← dl.length]; exact z, by rw [← dl.length]; exact z, back _ _ _ _ rm (den_setAll dl ds) (.refl _) q⟩
  · exact h.elim
theorem q_for {tg iter : Expr} {body : List Stmt} {wi : St3 → MH → (List D → (MH → Prop) → MH → Prop) → XN → Prop} {g : D → St3 → MH → (St3 → MH → Prop) → Prop} (hp : PassesOwn (model X.prog X.w) X.A X.env X.xe) (hc : X.calm = true) (hi : PI X tg iter (lowI X.K cls E2 wi)) (hg : PG X tg (lowG X.K g)) (hb : PSs X body (lowS X.K cls E2 t))
    (hs : ∀ x, foldedSetIterable iter X.env x = pure x) : PS X (.For tg iter body [] pos) (lowS X.K cls E2 fun D E σ M => wi σ M (fun ds S M1 => wpFor g (fun D σ M => t D E σ M) S D ds σ M1) (E σ)) := by
  refine (ps_for hp hc hi hg hb hs).imp fun D2 σ H hl_ => ex9 hl_ fun σ3 M D3 E3 rm ds0 lk h er => ⟨σ3, M, _, E3 σ3, rm, ds0, lk.at ds0, h, fun J H1 ds S M1 ok rm1 tm1 hP => ?_⟩
  refine ⟨fun i m σ' H' => ∃ σ3' M', m = ds.length - i ∧ i ≤ ds.length ∧ RelM X.K M' H' ∧ DenS X.K H' σ3' σ' ∧ TM X.K H1 H' ∧ wpFor g (fun D σ M => t D E3 σ M) S D3 (ds.drop i) σ3' M', ⟨ds.length, σ3, M1, by simp, Nat.zero_le _, rm1, ds0.mono tm1, .refl _, hP⟩, ?_⟩
  rintro i m σ' H' ⟨σ3', M', rfl, hil, rm', ds', tm', p⟩
  by_cases hlt : i < ds.length
  · rw [List.drop_eq_getElem_cons hlt] at p
    obtain ⟨s', p⟩ := p
    refine .inr ⟨ok.go i H' M' tm' rm' s' hlt, fun σ4 H4 => ∃ σ34 M4, RelM X.K M4 H4 ∧ DenS X.K H4 σ34 σ4 ∧ TM X.K H1 H4 ∧ wpFor g (fun D σ M => t D E3 σ M) S D3 (ds.drop (i + 1)) σ34 M4, ?_, ?_⟩
    · rintro σ4 H4 ⟨σ34, M4, e1, e2, e3, e4⟩
      exact ⟨ds.length - (i + 1), by omega, σ34, M4, rfl, hlt, e1, e2, e3, e4⟩
    · intro x H2 y
      obtain ⟨tm2, rm2, d, hd, dv⟩ := ok.yld i H' M' x H2 tm' rm' s' hlt y
      rw [List.getElem?_eq_getElem hlt] at hd
      cases hd
      refine ⟨_, σ3', M', _, dv, rm2, ds'.mono tm2, p, fun σ5 H5 σ35 M5 rm5 ds5 tm5 q5 => ?_⟩
      have tmA : TM X.K H1 H5 := (tm'.trans tm2).trans tm5
      exact ⟨σ35, M5, _, E3, rm5, ds5, lk.mono (tm1.trans tmA), q5, ⟨fun σ6 H6 σ36 M6 rm6 ds6 tm6 q6 => ⟨σ36, M6, rm6, ds6, tmA.trans tm6, q6⟩, fun v H6 d6 M6 dv6 rm6 tm6 q6 => er.rt v H6 d6 M6 dv6 rm6 (tm1.trans (tmA.trans tm6)) q6,
        fun σ6 H6 σ36 M6 rm6 ds6 tm6 q6 => er.nx σ6 H6 σ36 M6 rm6 ds6 (tm1.trans (tmA.trans tm6)) q6, fun σ6 H6 σ36 M6 rm6 ds6 tm6 q6 => ⟨σ36, M6, rm6, ds6, tmA.trans tm6, q6⟩⟩⟩
  · have e : i = ds.length := by omega
    subst e
    rw [List.drop_length] at p
    exact .inl ⟨ok.stop H' M' tm' rm' p.1, er.nx σ' H' σ3' M' rm' ds' (tm1.trans tm') p.2⟩
theorem q_raise {E : XK} {x : Str} {np cpos : Pos} {i : Nat} {es : List Expr} {tr : St3 → MH → (List D → MH → Prop) → XN → Prop} (hx : Raises X E) (hE : E2 = fun _ => E) (hc : X.calm = true) (hg : Gl X x) (hm : X.mg x = some (.ref (cls i))) (q : ExcC X.K (cls i)) (ha : PA X (e :: es) (lowA X.K cls E2 tr)) (hdb : (x == ("__debug__" : Str)) = false)
    (he : starEach (e :: es) X.env = (false, eval e X.env) :: starEach es X.env) (hpl : (backTo cpos (starEach es X.env)).any (·.1) = false) :
    PS X (.Raise (some (.Call (.Name x np) (e :: es) [] cpos)) none pos) (lowS X.K cls E2 fun _ E σ M => tr σ M (fun xs M1 => xs.length ≤ sizeLine ∧ E σ ⟨i, none⟩ M1) (E σ)) := by
  subst hE
  exact (ps_raise hx hc hg hm q ha hdb he hpl).imp fun D2 σ H hl_ => ex9 hl_ fun σ3 M D3 E3 rm ds lk h er => lowA1 rm ds (lk.at ds) h fun vs H1 xs M1 dl rm1 t1 ⟨z, q⟩ => ⟨by rw [← dl.length]; exact z, lk σ3 σ ⟨i, none⟩ M1 H1 t1 (ds.mono t1) rm1 q none rfl⟩
theorem q_app {o : Expr} {to : St3 → MH → VK3 → XN → Prop} {apos cpos : Pos} (ho : PE X o (low X.K cls E2 to)) (he : PE X e (low X.K cls E2 te)) (hbase : attributeBase o "append" X.env (eval o X.env) = eval o X.env)
    (hline : (apos.endLine == cpos.line) = true) (hs : starEach [e] X.env = [(false, eval e X.env)]) :
    PS X (.Expr (.Call (.Attribute o "append" apos) [e] [] cpos) pos) (lowS X.K cls E2 fun D E σ M => to σ M (fun x M1 => match x with
    | .ref a => match M1 a with
      | some (.lst _) => te σ M1 (fun y M2 => match M2 a with
        | some (.lst ds) => ds.length < sizeLine ∧ D.nx σ (put M2 a (.lst (ds ++ [y])))
        | _ => False) (E σ)
      | _ => False
    | _ => False) (E σ)) := by
  have hm : MtR X "list.append" rAppend := mt_append
  have h1 := pe_bm (X := X) PySem.F.plainAttrs_list PySem.F.slot_list_append PySem.F.type_list_append hm ho (pa_cons he pa_nil hs) hbase (by rw [hs]; rfl) hline hs (by rfl)
  refine (ps_expr h1 (by rfl)).imp fun D2 σ H hl_ => ex9 hl_ fun σ3 M D3 E3 rm ds lk h er => ?_
  refine low1 rm ds (lk.at ds) h fun v H1 x M1 dx rm1 t1 q1 => ?_
  split at q1
  · rename_i a
    cases (show v = .ref a from dx)
    split at q1
    · rename_i ds0 e0
      obtain ⟨vs0, f0, _⟩ := rm1 a _ e0
      refine ⟨.inl ⟨rfl, vs0, .of f0⟩, low1 rm1 (ds.mono t1) ((lk.mono t1).at (ds.mono t1)) q1 fun u H2 y M2 dy rm2 t2 q2 => ?_⟩
      split at q2
      · rename_i ds1 e1
        obtain ⟨vs, f1, dl⟩ := rm2 a _ e1
        refine ⟨a, vs, u, rfl, rfl, f1, by rw [← dl.length]; exact q2.1, ?_⟩
        have tw : TM X.K H2 (upd H2 a (.lst (vs ++ [u]))) := .put f1 (fun _ => fun z => nomatch z) fun _ _ => fun z => nomatch z
        exact er.nx _ _ _ _ (rm2.write (u := .lst (ds1 ++ [y])) f1 (fun _ => fun z => nomatch z) (fun _ _ => fun z => nomatch z) ⟨_, upd_same, (dl.append (.one dy)).mono tw⟩) (((ds.mono t1).mono t2).mono tw) ((t1.trans t2).trans tw) q2.2
      · exact q2.elim
    · exact q1.elim
  · exact q1.elim
end
end L2
set_option Elab.async false
set_option linter.all false
set_option maxRecDepth 100000
set_option maxHeartbeats 4000000
namespace L2
open PySem PySem.Spec PyProof.Rows
noncomputable abbrev no2 : St → XK := fun _ _ _ _ => False
theorem den_comp {K : PySem.W.Frag} {H : Hp} {js : List (Option Nat)} {σ3 : St3} {σ : St} (h : DenS K H σ3 σ) : DenS K H (compSt3 js σ3) (compSt js σ) := by
  refine ⟨by simp [compSt3, compSt], fun i d e => ?_⟩
  unfold compSt3 at e
  unfold compSt
  rw [List.getElem?_map] at e ⊢
  cases q : js[i]? with
  | none => rw [q] at e; cases e
  | some o =>
    rw [q] at e
    cases o with
    | none => cases e
    | some j =>
      rw [Option.map_some, Option.bind_some] at e
      cases z : σ3[j]? with
      | none => rw [z] at e; cases e
      | some y =>
        rw [z] at e
        have e : some (id y) = some (some d) := e
        have e : y = some d := Option.some.inj e
        subst e
        obtain ⟨v, e1, e2⟩ := h.2 j d z
        refine ⟨v, ?_, e2⟩
        rw [Option.map_some, Option.bind_some, e1]
        rfl
section
variable {X : Cx} {cls : Nat → Addr} {E2 : St → XK} {elt tg iter : Expr} {ifs : List Expr} {scope : Scope} {pos : Pos} {N : List Str} {js : List (Option Nat)} {wi : St3 → MH → (List D → (MH → Prop) → MH → Prop) → XN → Prop} {g : D → St3 → MH → (St3 → MH → Prop) → Prop}
  {tt : St3 → MH → (Bool → MH → Prop) → XN → Prop} {te : St3 → MH → VK3 → XN → Prop}
theorem comp_low {σ : St} {H : Hp} {σ3 : St3} {M : MH} {Q : VK3} {Q2 : VK} {E3 : XN} (rm : RelM X.K M H) (ds0 : DenS X.K H σ3 σ) (lk : LkE X.K cls H E3 (E2 σ))
    (h : wi σ3 M (fun ds S M1 => ∀ p, M1 p = none → wpComp g (fun σ M Q => tt σ M Q (fun _ _ => False)) (fun σ M Q => te σ M Q (fun _ _ => False)) S p Q ds [] (compSt3 js σ3) (put M1 p (.lst []))) E3) (back : Back X.K H Q Q2) :
    tComp js (lowI X.K cls E2 wi) (lowG X.K g) (lowT X.K cls no2 tt) (low X.K cls no2 te) σ H Q2 := by
  refine ⟨σ3, M, _, E3, rm, ds0, lk, h, fun J H1 ds S M1 ok rm1 tm1 hP p hp => ?_⟩
  have hP := hP p (rm1.fresh hp)
  refine ⟨fun i m σc H' => ∃ σ3c ys M', m = ds.length - i ∧ i ≤ ds.length ∧ RelM X.K M' H' ∧ DenS X.K H' σ3c σc ∧ TM X.K H1 H' ∧ wpComp g (fun σ M Q => tt σ M Q (fun _ _ => False)) (fun σ M Q => te σ M Q (fun _ _ => False)) S p Q (ds.drop i) ys σ3c M',
    ⟨ds.length, _, [], _, by simp, Nat.zero_le _, rm1.lay (u := .lst []) hp ⟨[], upd_same, .nil⟩, (den_comp ds0).mono (tm1.trans (.new hp)), .new hp, hP⟩, ?_⟩
  rintro i m σc H' ⟨σ3c, ys, M', rfl, hil, rm', ds', tm', q⟩
  by_cases hlt : i < ds.length
  · rw [List.drop_eq_getElem_cons hlt] at q
    obtain ⟨s', hl, q⟩ := q
    refine .inr ⟨ok.go i H' M' tm' rm' s' hlt, fun x H2 y => ?_⟩
    obtain ⟨tm2, rm2, d, hd, dv⟩ := ok.yld i H' M' x H2 tm' rm' s' hlt y
    rw [List.getElem?_eq_getElem hlt] at hd
    cases hd
    refine ⟨_, σ3c, M', _, dv, rm2, ds'.mono tm2, q, fun σ5 H5 σ35 M5 rm5 ds5 tm5 q5 => ?_⟩
    refine ⟨σ35, M5, _, _, rm5, ds5, LkE.no, q5, fun b H6 M6 rm6 tm6 q6 => ?_⟩
    have tmA : TM X.K H1 H6 := ((tm'.trans tm2).trans tm5).trans tm6
    cases b with
    | true =>
      rw [if_pos rfl] at q6
      dsimp only
      rw [if_pos rfl]
      refine ⟨σ35, M6, _, _, rm6, ds5.mono tm6, LkE.no, q6, fun v H7 y M7 dy rm7 tm7 ⟨e7, q7⟩ => ?_⟩
      obtain ⟨vs, f7, dl⟩ := rm7 p _ e7
      have tw : TM X.K H7 (upd H7 p (.lst (vs ++ [v]))) := .put f7 (fun _ => fun z => nomatch z) fun _ _ => fun z => nomatch z
      exact ⟨vs, f7, by rw [← dl.length]; exact hl, ds.length - (i + 1), by omega, σ35, ys ++ [y], _, rfl, hlt, rm7.write (u := .lst (ys ++ [y])) f7 (fun _ => fun z => nomatch z) (fun _ _ => fun z => nomatch z) ⟨_, upd_same, (dl.append (.one dy)).mono tw⟩, ((ds5.mono tm6).mono tm7).mono tw, (tmA.trans tm7).trans tw, q7⟩
    | false =>
      rw [if_neg Bool.false_ne_true] at q6
      dsimp only
      rw [if_neg Bool.false_ne_true]
      exact ⟨ds.length - (i + 1), by omega, σ35, ys, M6, rfl, hlt, rm6, ds5.mono tm6, tmA, q6⟩
  · have e : i = ds.length := by omega
    subst e
    rw [List.drop_length] at q
    exact .inl ⟨ok.stop H' M' tm' rm' q.1, back _ _ _ _ den_ref rm' (tm1.trans tm') q.2⟩
variable (hok : compOk N js scope X.env.scope X.N = true) (hcalm : X.calm = true) (hi : PI X tg iter (lowI X.K cls E2 wi))
    (hg : ∀ C s2 H2 fp pn, PG (compCx X scope C N s2 H2 fp pn) tg (lowG X.K g)) (ht : ∀ C s2 H2 fp pn, PIf (compCx X scope C N s2 H2 fp pn) ifs (lowT X.K cls no2 tt)) (he : ∀ C s2 H2 fp pn, PE (compCx X scope C N s2 H2 fp pn) elt (low X.K cls no2 te))
    (hs : ∀ x, foldedSetIterable iter X.env x = pure x)
include hok hcalm hi hg ht he hs
theorem x_comp0 : PE X (.ListComp elt [⟨tg, iter, ifs, 0⟩] scope pos) (low X.K cls E2 fun σ M Q E => wi σ M (fun ds S M1 => ∀ p, M1 p = none → wpComp g (fun σ M Q => tt σ M Q (fun _ _ => False)) (fun σ M Q => te σ M Q (fun _ _ => False)) S p Q ds [] (compSt3 js σ) (put M1 p (.lst []))) E) :=
  (pe_comp hok hcalm hi hg ht he hs).imp fun σ H Q2 hl_ => ex9 hl_ fun σ3 M Q E3 rm ds lk h back => comp_low rm ds lk h back
theorem x_comp (fz : Bool) : PE X (.ListComp elt [⟨tg, iter, ifs, 0⟩] scope pos) (low X.K cls E2 fun σ M Q E => wi σ M (fun ds S M1 => ∀ p, M1 p = none → wpComp g (fun σ M Q => tt σ M Q (fun _ _ => False)) (fun σ M Q => te σ M Q (fun _ _ => False)) S p (if fz = true then frzQ Q else Q) ds [] (compSt3 js σ) (put M1 p (.lst []))) E) := by
  cases fz with
  | false => exact x_comp0 hok hcalm hi hg ht he hs
  | true => exact x_frzQ (x_comp0 hok hcalm hi hg ht he hs)
theorem q_setComp0 {i : Nat} {y : Str} {py spos : Pos} (hN : X.N.Nodup) (hy : X.N[i]? = some y) (hl : X.env.scope.names.lookup y = some .local) (hsw : swapsWith (.ListComp elt [⟨tg, iter, ifs, 0⟩] scope pos) (some (.Name y py)) spos.line X.env = pure true) (fz : Bool) :
    PS X (.Assign [.Name y py] (.ListComp elt [⟨tg, iter, ifs, 0⟩] scope pos) spos) (lowS X.K cls E2 fun D E σ M => wi σ M (fun ds S M1 => ∀ p, M1 p = none → wpComp g (fun σ M Q => tt σ M Q (fun _ _ => False)) (fun σ M Q => te σ M Q (fun _ _ => False)) S p (if fz = true then frzQ (fun x M1 => D.nx (σ.set i (some x)) M1) else (fun x M1 => D.nx (σ.set i (some x)) M1)) ds [] (compSt3 js σ) (put M1 p (.lst []))) (E σ)) := by
  cases fz with
  | false => exact (ps_setComp hN hy hl hok hcalm hi hg ht he hs hsw).imp fun D2 σ H hl_ => ex9 hl_ fun σ3 M D3 E3 rm ds lk h er => comp_low rm ds (lk.at ds) h fun v H1 x M1 dx rm1 t1 q1 => er.nx _ _ _ _ rm1 ((ds.mono t1).set dx) t1 q1
  | true =>
    refine fun pins s σ H D2 I hl_ => ex9 hl_ fun σ3 M D3 E3 rm ds lk h er => ?_
    refine thn (ps_setComp hN hy hl hok hcalm hi hg ht he hs hsw pins s σ H { D2 with nx := fun σ' H' => ∃ x v M1, σ' = σ.set i (some v) ∧ Den X.K H' x v ∧ RelM X.K M1 H' ∧ TM X.K H H' ∧ frzQ (fun x M1 => D3.nx (σ3.set i (some x)) M1) x M1 } I
      (comp_low rm ds (lk.at ds) h fun v H1 x M1 dx rm1 t1 q1 => ⟨x, v, M1, rfl, dx, rm1, t1, q1⟩)) fun fl s1 q => ?_
    cases fl with
    | next =>
      obtain ⟨σ', H', I1, x, v, M1, rfl, dx, rm1, t1, q1⟩ := q
      unfold frzQ at q1
      split at q1
      · rename_i a
        cases (show v = .ref a from dx)
        split at q1
        · rename_i es e
          obtain ⟨vs, e1, dl⟩ := rm1 a _ e
          obtain ⟨o, I2⟩ := I1.freeze e1
          exact ⟨_, _, I2, er.nx _ _ _ _ (rm1.freeze e1) ((ds.mono (t1.trans (.freeze e1))).set (den_frozen dl e1)) (t1.trans (.freeze e1)) q1⟩
        · exact q1.elim
      · exact q1.elim
    | brk => exact q
    | cont => exact q
    | ret u => exact q
end
noncomputable def lowH (K : PySem.W.Frag) (cls : Nat → Addr) (t : XE → Ends3 → St3 → MH → Prop) : Ends → St → XK := fun D2 σ c dx H => ∃ i σ3 M D3, (c = .ref (cls i.c) ∧ XD K H i dx) ∧ RelM K M H ∧ DenS K H σ3 σ ∧ t i D3 σ3 M ∧ ER K H D3 D2
theorem ER.goes {K : PySem.W.Frag} {H : Hp} {D3 : Ends3} {D2 : Ends} (er : ER K H D3 D2) (i : Nat) : ER K H (goes3 D3 i) (D2.goes i) :=
  ⟨fun σ' H' σ3' M' rm ds t q => er.nx _ _ _ _ rm ds.drop t q, er.rt, fun σ' H' σ3' M' rm ds t q => er.bk _ _ _ _ rm ds.drop t q, fun σ' H' σ3' M' rm ds t q => er.ct _ _ _ _ rm ds.drop t q⟩
section
variable {X : Cx} {cls : Nat → Addr} {E2 : St → XK} {c n : Str} {k j ne : Nat} {sub : Nat → Nat → Bool} {b0 : Stmt} {suite : List Stmt} {np hpos pos : Pos} {rest : List ExceptHandler} {tb : Ends3 → (St3 → XN) → St3 → MH → Prop} {tr : XE → Ends3 → St3 → MH → Prop}
theorem hh_nil : PH X [] (lowH X.K cls fun _ _ _ _ => False) := fun _ _ _ _ _ _ _ _ _ ⟨_, _, _, _, _, _, _, h, _⟩ => h.elim
theorem hh_as (hg : Gl X c) (hm : X.mg c = some (.ref (cls k))) (hsub : ∀ i, i < ne → PySem.W.exmOne X.K (.ref (cls i)) (.ref (cls k)) = some (sub i k)) (hN : X.N.Nodup) (hj : X.N[j]? = some n) (hl : X.env.scope.names.lookup n = some .local)
    (hs : ∀ v, PSs (X.marked v) (b0 :: suite) (lowS X.K cls no2 tb)) (hr : PH X rest (lowH X.K cls tr)) (hdb : (c == ("__debug__" : Str)) = false) :
    PH X (.ExceptHandler (some (.Name c np)) (some n) (b0 :: suite) hpos :: rest) (lowH X.K cls fun i D σ M => i.c < ne ∧ if sub i.c k = true then (∀ a, M a = none → tb (goes3 D j) (fun _ _ _ => False) (σ.set j (some (.ref a))) (put M a (.exc i (.ref (cls i.c))))) else tr i D σ M) := by
  intro pins s σ H D a cv dx xi ⟨i, σ3, M, D3, ⟨e, xd⟩, rm, ds, ⟨hi, h⟩, er⟩
  subst e
  refine ph_as (i := j) hg hm hN hj hl hs hr hdb pins s σ H D a _ dx xi ?_
  have z := hsub i.c hi
  cases q : sub i.c k with
  | true =>
    rw [q] at z
    rw [if_pos q] at h
    refine .inl ⟨z, fun a' ha => ?_⟩
    have tn : TM X.K H (upd H a' (excO a' (.ref (cls i.c)) dx)) := .new ha
    exact ⟨_, _, _, _, rm.lay (u := .exc i (.ref (cls i.c))) ha ⟨dx, upd_same, xd.mono tn⟩, (ds.mono tn).set den_ref, (fun _ _ _ _ _ _ _ _ w => w.elim), h a' (rm.fresh ha), (er.goes j).mono tn⟩
  | false =>
    rw [q] at z
    rw [if_neg (by rw [q]; exact Bool.false_ne_true)] at h
    exact .inr ⟨z, i, σ3, M, D3, ⟨rfl, xd⟩, rm, ds, h, er⟩
theorem hh_an (hg : Gl X c) (hm : X.mg c = some (.ref (cls k))) (hsub : ∀ i, i < ne → PySem.W.exmOne X.K (.ref (cls i)) (.ref (cls k)) = some (sub i k))
    (hs : ∀ v, PSs (X.marked v) (b0 :: suite) (lowS X.K cls no2 tb)) (hr : PH X rest (lowH X.K cls tr)) (hdb : (c == ("__debug__" : Str)) = false) :
    PH X (.ExceptHandler (some (.Name c np)) none (b0 :: suite) hpos :: rest) (lowH X.K cls fun i D σ M => i.c < ne ∧ if sub i.c k = true then tb D (fun _ _ _ => False) σ M else tr i D σ M) := by
  intro pins s σ H D a cv dx xi ⟨i, σ3, M, D3, ⟨e, xd⟩, rm, ds, ⟨hi, h⟩, er⟩
  subst e
  refine ph_an hg hm hs hr hdb pins s σ H D a _ dx xi ?_
  have z := hsub i.c hi
  cases q : sub i.c k with
  | true =>
    rw [q] at z
    rw [if_pos q] at h
    exact .inl ⟨z, σ3, M, D3, _, rm, ds, (fun _ _ _ _ _ _ _ _ w => w.elim), h, er⟩
  | false =>
    rw [q] at z
    rw [if_neg (by rw [q]; exact Bool.false_ne_true)] at h
    exact .inr ⟨z, i, σ3, M, D3, ⟨rfl, xd⟩, rm, ds, h, er⟩
theorem ps_try2 {body : List Stmt} {h0 : ExceptHandler} {hs : List ExceptHandler} {th : Ends → St → XK} (hst : X.stack = X.env :: X.outer) (hfr : X.env.frame = some X.env.locals) (hex : X.ex = []) (hh : PH X (h0 :: hs) th) :
    PS X (.Try body (h0 :: hs) [] [] pos) (fun D σ H => ∀ pn W, PassesS (CX1 X.prog X.w) (X.tryX pn W) (fun σ cls d H => th D σ cls d H) → ∃ t, PSs (X.tryX pn W) body t ∧ t D σ H) := by
  intro pins s σ H D I h
  have key : ∀ (W : Value → Shared → Prop), PassesS (CX1 X.prog X.w) (X.tryX pins W) (fun σ cls d H => th D σ cls d H) → wpAny (model X.prog X.w) X.A (execs body X.env) (SP (X.tryX pins W) [] D) W s := fun W hP => by
    obtain ⟨t, ht, q⟩ := h pins W hP
    exact ht [] s σ H D (I.tryX _) q
  refine wpAny_Try_except (wpAny_mono (key _ ?hx) (fun f s1 q => ?_) (fun e s1 q => q))
  case hx =>
    intro pins' σ1 H1 s1 e s' I' hc
    have I1 := I'.untry I.ok
    obtain ⟨a, cls, B, H2, dx, rfl, os, bare, un, hok, ⟨fl0, dd0⟩, ha, inc, he⟩ := hc
    have hnew := fly_new fl0 inc
    obtain ⟨a0, fl⟩ := fl0
    have hfl : Heap.FlyingW B (X.env :: X.outer) a cls a0 s'.heap := hst ▸ fl
    have hA : X.A.frames = some (X.env :: X.outer) := hst ▸ I.ok.frames
    refine note_d hA hfr hfl dd0 fun h4 held up4 dd4 => lands_d held dd4 fun h5 fl5 up5 dd5 => ?_
    refine hh pins _ σ1 H2 D a cls dx ⟨B, a0, I1.behind (s' := s') (h4 := h5) hex os bare un hok inc fl5.1 (up4.trans up5), ⟨hst ▸ fl5, dd5⟩, ha, ?_, fun p hp z => ?_, fun h6 st6 up6 => I1.behind (s' := s') (h4 := h6) hex os bare un hok inc st6 ((up4.trans up5).trans up6)⟩ he
    · cases q : X.s₀.heap.get? a with
      | none => rfl
      | some o =>
        obtain ⟨o1, e1⟩ := I1.base.there a o q (by rw [hex]; exact fun z => nomatch z)
        rw [hnew] at e1; cases e1
    · have e1 := (I1.pin p hp).1
      rw [z, hnew] at e1; cases e1
  · match f, q with
    | .next, ⟨σ', H', J, q⟩ => exact wpAny_execs_nil ⟨σ', H', J.untry I.ok, q⟩
    | .brk, ⟨σ', H', J, q⟩ => exact ⟨σ', H', J.untry I.ok, q⟩
    | .cont, ⟨σ', H', J, q⟩ => exact ⟨σ', H', J.untry I.ok, q⟩
    | .ret u, ⟨v, σ', H', J, r, q⟩ => exact ⟨v, σ', H', J.untry I.ok, r, q⟩
theorem q_try {body : List Stmt} {h0 : ExceptHandler} {hs : List ExceptHandler} {th : XE → Ends3 → St3 → MH → Prop} (hst : X.stack = X.env :: X.outer) (hfr : X.env.frame = some X.env.locals) (hex : X.ex = []) (hh : PH X (h0 :: hs) (lowH X.K cls th))
    (hb : ∀ pn W E2', PassesS (CX1 X.prog X.w) (X.tryX pn W) E2' → PSs (X.tryX pn W) body (lowS X.K cls E2' tb)) :
    PS X (.Try body (h0 :: hs) [] [] pos) (lowS X.K cls E2 fun D _ σ M => tb D (fun σ' i M' => th i D σ' M') σ M) :=
  (ps_try2 hst hfr hex hh).imp fun D2 σ H ⟨σ3, M, D3, E3, rm, ds, lk, h, er⟩ pn W hP => ⟨_, hb pn W _ hP, σ3, M, D3, _, rm, ds, fun σ3' σ' i M' H' t ds' rm' q dx xd => ⟨i, σ3', M', D3, ⟨rfl, xd⟩, rm', ds', q, er.mono t⟩, h, er⟩
end
end L2
set_option Elab.async false
set_option linter.all false
set_option maxRecDepth 100000
set_option maxHeartbeats 4000000
namespace L2
open PySem PySem.Spec PyProof.Rows
section
variable {X : Cx} {pins : List (Addr × Obj)} {σ : St} {H : Hp} {s : Shared} {a : Addr} {kvs : List (Key × V)} {o : Obj}
end
section
variable {X : Cx} {cls : Nat → Addr} {E2 : St → XK} {o : Expr} {apos cpos pt : Pos} {elts : List Expr} {x1 : Nat}
variable {elt : Expr} {ifs : List Expr} {scope : Scope} {pos : Pos} {N : List Str} {js : List (Option Nat)} {g : D → St3 → MH → (St3 → MH → Prop) → Prop} {to te : St3 → MH → VK3 → XN → Prop} {tt : St3 → MH → (Bool → MH → Prop) → XN → Prop}
end
end L2
set_option Elab.async false
set_option linter.all false
set_option maxRecDepth 100000
set_option maxHeartbeats 4000000
namespace L2
open PySem PySem.Spec PyProof.Rows
structure Cfg where
  N : List Str
  sc : Scope
  fns : List (Option Str × Nat)
  exc : List Str
  kln : List Str
  gln : List Str
  xin : List (Nat × Nat)
  calm : Bool
  own : Bool
  tr : Bool
  fn : Bool
  cel : List (Str × NameKind) := []
noncomputable def glB (c : Cfg) (x : Str) : Bool := c.sc.names.lookup x == some .globalImplicit
noncomputable def visB (sc : Scope) (x : Str) : Bool := match sc.names.lookup x with
  | some .local => true
  | some .cell => true
  | some .free => true
  | _ => false
noncomputable def locB (c : Cfg) (x : Str) : Bool := c.sc.names.lookup x == some .local || (c.fn && c.sc.names.lookup x == some .cell) || (c.cel.lookup x == some .cell && c.sc.names.lookup x == some .cell)
noncomputable def nstar : Expr → Bool
  | .Starred .. => false
  | _ => true
noncomputable def nset : Expr → Bool
  | .Set .. => false
  | _ => true
noncomputable def ncomp : Expr → Bool
  | .ListComp .. => false
  | .SetComp .. => false
  | .DictComp .. => false
  | _ => true
noncomputable def ntup : Expr → Bool
  | .Tuple .. => false
  | _ => true
noncomputable def nslice : Expr → Bool
  | .Slice .. => false
  | _ => true
noncomputable def ncall : Expr → Bool
  | .Call .. => false
  | _ => true
noncomputable def nbase : Expr → Bool
  | .Call (.Name _ _) [] [] _ => false
  | _ => true
noncomputable def ntest : Expr → Bool
  | .UnaryOp .. => false
  | .BoolOp .. => false
  | .IfExp .. => false
  | .Compare .. => false
  | _ => true
noncomputable def biName : BI → String
  | .len => "len" | .min => "min" | .sortedL _ => "sorted" | .all => "all" | .any => "any"
noncomputable def bmName : BM → String
  | .clear => "clear" | .extend => "extend"
noncomputable def biNames : List Str := ["len", "abs", "max", "min", "str", "list", "tuple", "isinstance", "range", "int", "bool", "dict", "ValueError", "enumerate", "all", "any", "sum", "zip", "reversed", "sorted"]
noncomputable def relS (sc osc : Scope) : Scope := { sc with names := sc.names.map fun (n, k) => if (k == .free && osc.kind == .function && osc.names.lookup n == some .cell) then (n, .cell) else (n, k) }
noncomputable def Cfg.comp (c : Cfg) (N : List Str) (sc : Scope) : Cfg := { c with N := N, sc := relS sc c.sc, own := false, tr := false, fn := false, cel := sc.names }
noncomputable def Cfg.trying (c : Cfg) : Cfg := { c with own := false }
noncomputable def Cfg.caught (c : Cfg) : Cfg := { c with calm := false, own := false, tr := false }
noncomputable def okG (c : Cfg) : ITg → Expr → Bool
  | .name i, e => match e with
    | .Name x _ => (c.N[i]? == some x) && locB c x
    | _ => false
  | .tup is, e => match e with
    | .Tuple es _ _ => c.calm && okNames c.N c.sc c.fn is es
    | _ => false
noncomputable def tgOk : II → Expr → Bool
  | _, _ => true
mutual
noncomputable def okE : IE → Cfg → Expr → Bool
  | .var i, c, e => match e with
    | .Name x _ => (c.N[i]? == some x) && visB c.sc x && !(x == ("__debug__" : Str)) && !(x == ("__classdict__" : Str))
    | _ => false
  | .con d, _, e => match e with
    | .Constant k _ _ => match k, d with
      | .int i, .int j => decide (i = j)
      | .bool i, .bl j => decide (i = j)
      | .none, .non => true
      | .str i, .str j => decide (i = j)
      | _, _ => false
    | _ => false
  | .bin op a b, c, e => match e with
    | .BinOp x op' y _ => decide (op = op') && okE a c x && okE b c y
    | _ => false
  | .neg a, c, e => match e with
    | .UnaryOp op x _ => decide (op = .USub) && okE a c x
    | _ => false
  | .cat _ a b, c, e => match e with
    | .BinOp x op' y _ => decide (op' = .Add) && okE a c x && okE b c y
    | _ => false
  | .cmp op a b, c, e => match e with
    | .Compare x [op'] [y] _ => decide (op = op') && nset y && okE a c x && okE b c y
    | _ => false
  | .chain op1 op2 a b d, c, e => match e with
    | .Compare x [op1', op2'] [y, z] _ => decide (op1 = op1') && decide (op2 = op2') && nset z && okE a c x && okE b c y && okE d c z
    | _ => false
  | .and a b, c, e => match e with
    | .BoolOp op (x :: y :: r) p => decide (op = .And) && okE a c x && (match r with | [] => okE b c y | _ :: _ => okE b c (.BoolOp .And (y :: r) p))
    | _ => false
  | .or a b, c, e => match e with
    | .BoolOp op (x :: y :: r) p => decide (op = .Or) && okE a c x && (match r with | [] => okE b c y | _ :: _ => okE b c (.BoolOp .Or (y :: r) p))
    | _ => false
  | .not a, c, e => match e with
    | .UnaryOp op x _ => decide (op = .Not) && okE a c x
    | _ => false
  | .lst _ es, c, e => match e with
    | .List xs _ => okA es c xs
    | _ => false
  | .ix a b, c, e => match e with
    | .Subscript x y _ => nslice y && okE a c x && okE b c y
    | _ => false
  | .sl _ a lo hi, c, e => match e with
    | .Subscript x (.Slice l h none _) _ => okE a c x && okO lo c l && okO hi c h
    | _ => false
  | .call f es, c, e => match e with
    | .Call (.Name x _) args [] _ => c.calm && (match c.fns[f]? with | some p => decide (some x = p.1) && decide (args.length = p.2) | none => false) && glB c x && !(x == ("__debug__" : Str)) && okA es c args
    | _ => false
  | .bi b es, c, e => match e with
    | .Call (.Name x _) args [] _ => c.calm && decide (x = (biName b : Str)) && glB c x && !args.isEmpty && okA es c args
    | _ => false
  | .isB a t, c, e => match e with
    | .Call (.Name x _) [y, .Name z _] [] _ => decide (x = ("isinstance" : Str)) && decide (z = (btName t : Str)) && glB c x && glB c z && nstar y && okE a c y
    | _ => false
  | .isC a k, c, e => match e with
    | .Call (.Name x _) [y, .Name z _] [] _ => decide (x = ("isinstance" : Str)) && (c.exc[k]? == some z) && glB c x && glB c z && !(z == ("__debug__" : Str)) && nstar y && okE a c y
    | _ => false
  | .comp _ N js tg it cond elt, c, e => match e with
    | .ListComp el [⟨tgE, iter, ifs, as⟩] scope _ => c.calm && decide (as = 0) && tgOk it tgE && nset iter && compOk N js scope c.sc c.N && okI it c iter && okG (c.comp N scope) tg tgE && okTO cond (c.comp N scope) ifs && okE elt (c.comp N scope) el
    | _ => false
  | .glo k, c, e => match e with
    | .Name x _ => (c.gln[k]? == some x) && glB c x && !(x == ("__debug__" : Str))
    | _ => false
  | .bm b o es, c, e => match e with
    | .Call (.Attribute x n ap) args [] cp => c.calm && decide (n = (bmName b : Str)) && nbase x && (ap.endLine == cp.line) && decide (args.length < 30) && okE o c x && okA es c args
    | _ => false
noncomputable def okT : IT → Cfg → Expr → Bool
  | .val a, c, e => ntest e && okE a c e
  | .cmp op a b, c, e => match e with
    | .Compare x [op'] [y] _ => decide (op = op') && nset y && okE a c x && okE b c y
    | _ => false
  | .chain op1 op2 a b d, c, e => match e with
    | .Compare x [op1', op2'] [y, z] _ => decide (op1 = op1') && decide (op2 = op2') && nset z && okE a c x && okE b c y && okE d c z
    | _ => false
  | .chain3 op1 op2 op3 a b d f, c, e => match e with
    | .Compare x [op1', op2', op3'] [y, z, u] _ => decide (op1 = op1') && decide (op2 = op2') && decide (op3 = op3') && nset u && okE a c x && okE b c y && okE d c z && okE f c u
    | _ => false
  | .and a b, c, e => match e with
    | .BoolOp op (x :: y :: r) p => decide (op = .And) && okT a c x && (match r with | [] => okT b c y | _ :: _ => okT b c (.BoolOp .And (y :: r) p))
    | _ => false
  | .or a b, c, e => match e with
    | .BoolOp op (x :: y :: r) p => decide (op = .Or) && okT a c x && (match r with | [] => okT b c y | _ :: _ => okT b c (.BoolOp .Or (y :: r) p))
    | _ => false
  | .not a, c, e => match e with
    | .UnaryOp op x _ => decide (op = .Not) && okT a c x
    | _ => false
noncomputable def okA : IA → Cfg → List Expr → Bool
  | .nil, _, es => es.isEmpty
  | .cons a r, c, es => match es with
    | x :: xs => nstar x && okE a c x && okA r c xs
    | [] => false
noncomputable def okO : IO → Cfg → Option Expr → Bool
  | .no, _, o => o.isNone
  | .yes a, c, o => match o with
    | some x => okE a c x
    | none => false
noncomputable def okTO : ITO → Cfg → List Expr → Bool
  | .no, _, es => es.isEmpty
  | .yes t, c, es => match es with
    | [x] => okT t c x
    | _ => false
noncomputable def okI : II → Cfg → Expr → Bool
  | .seq a, c, e => okE a c e
  | .rng1 a, c, e => match e with
    | .Call (.Name x _) [y] [] _ => decide (x = ("range" : Str)) && glB c x && nstar y && okE a c y
    | _ => false
end
noncomputable def swB (c : Cfg) (scope : Scope) (x : Str) (l1 l2 : Nat) : Bool := c.sc.kind == .function && c.sc.names.lookup x == some .local && l1 == l2 && !(scope.names.any fun (n, k) => n == x && (k == .local || k == .cell))
mutual
noncomputable def okS : IS → Cfg → Stmt → Bool
  | .set i a, c, s => match s with
    | .Assign [.Name x px] e _ => (c.N[i]? == some x) && locB c x && okE a c e && (ncomp e || match e, a with
      | .ListComp _ _ scope pos, .comp .. => swB c scope x px.line pos.line || c.sc.names.lookup x == some .cell
      | _, _ => false)
    | _ => false
  | .expr a, c, s => match s with
    | .Expr e _ => ncomp e && okE a c e
    | _ => false
  | .ret a, c, s => match s with
    | .Return (some e) _ => okE a c e
    | _ => false
  | .ifs t a b, c, s => match s with
    | .If x y z _ => okT t c x && okSs a c y && okSs b c z
    | _ => false
  | .for_ tg it body, c, s => match s with
    | .For tgE iter b [] _ => c.own && tgOk it tgE && c.calm && nset iter && okG c tg tgE && okI it c iter && okSs body c b
    | _ => false
  | .raise k es, c, s => match s with
    | .Raise (some (.Call (.Name x _) args [] _)) none _ => (c.xin.lookup k).isNone && c.own && c.calm && (c.exc[k]? == some x) && glB c x && !(x == ("__debug__" : Str)) && !args.isEmpty && okA es c args
    | _ => false
  | .try_ body hs, c, s => match s with
    | .Try b handlers [] [] _ => c.tr && !handlers.isEmpty && okSs body c.trying b && okHs hs c handlers
    | _ => false
  | .app o a, c, s => match s with
    | .Expr (.Call (.Attribute x m ap) [y] [] cp) _ => decide (m = ("append" : Str)) && ncall x && (ap.endLine == cp.line) && nstar y && okE o c x && okE a c y
    | _ => false
  | .del _, _, _ => false
noncomputable def okSs : ISs → Cfg → List Stmt → Bool
  | .nil, _, sts => sts.isEmpty
  | .cons s r, c, sts => match s with
    | .del _ => okSs r c sts
    | s => match sts with
      | st :: rest => okS s c st && okSs r c rest
      | [] => false
noncomputable def okHs : IHs → Cfg → List ExceptHandler → Bool
  | .nil, _, hs => hs.isEmpty
  | .cons k nm body r, c, hs => match hs with
    | .ExceptHandler (some (.Name x _)) nmE bodyE _ :: rest => (c.exc[k]? == some x) && glB c x && !(x == ("__debug__" : Str)) && (match nm, nmE with
      | none, none => true
      | some j, some n => (c.N[j]? == some n) && c.sc.names.lookup n == some .local
      | _, _ => false) && !bodyE.isEmpty && okSs body c.caught bodyE && okHs r c rest
    | _ => false
end
end L2
set_option Elab.async false
set_option linter.all false
set_option maxRecDepth 100000
set_option maxHeartbeats 4000000
namespace L2
open PySem PySem.Spec PyProof.Rows
structure Good (c : Cfg) (W : WC) (X : Cx) (E2 : St → XK) : Prop where
  N : X.N = c.N
  nd : c.N.Nodup
  sc : X.env.scope = c.sc
  un : X.A.units + 64 < cLine
  calm : c.calm = true → X.calm = true
  fnx : c.fn = true → ∀ x, X.fn x = true
  cel : ∀ x, c.cel.lookup x = some .cell → X.fn x = true
  own : c.own = true → PassesOwn (model X.prog X.w) X.A X.env X.xe ∧ ∃ E, (E2 = fun _ => E) ∧ Raises X E ∧ RaisesD X E ∧ Room 2 X.A
  tr : c.tr = true → X.stack = X.env :: X.outer ∧ X.env.frame = some X.env.locals ∧ X.ex = []
  fns : c.calm = true → ∃ k, Room (k + 1) X.A ∧ ∀ f, f < c.fns.length → FnAt X W.cls k (W.fad f) (W.call f)
  fnn : ∀ f x n, c.fns[f]? = some (some x, n) → X.mg x = some (.ref (W.fad f))
  kok : ∀ i, i < W.nk → KOk X.K W.toWB W.fad i
  kin : ∀ i, i < W.nk → ∃ f, W.ini i = some f
  kfi : ∀ i f, i < W.nk → W.ini i = some f → f < c.fns.length
  kfm : ∀ i m f, i < W.nk → W.mth i m = some f → f < c.fns.length
  knm : ∀ i x, c.kln[i]? = some x → X.mg x = some (.ref (W.kls i)) ∧ i < W.nk
  glo : ∀ k x, c.gln[k]? = some x → ∃ u v, X.mg x = some u ∧ RelV v u ∧ ∀ H, Den X.K H (W.glo k) v
  exc : ∀ i x, c.exc[i]? = some x → X.mg x = some (.ref (W.cls i)) ∧ (c.xin.lookup i = none → ExcC X.K (W.cls i)) ∧ ∀ j, j < W.ne → PySem.W.exmOne X.K (.ref (W.cls j)) (.ref (W.cls i)) = some (W.sub j i)
  exi : ∀ i, i < W.ne → ExcI X.K (W.cls i) ∧ PySem.W.kitOne X.K (.ref (W.cls i)) (.type "ValueError") = some true ∧ ∀ j x, c.exc[j]? = some x → PySem.W.kitOne X.K (.ref (W.cls i)) (.ref (W.cls j)) = some (W.sub i j)
  xi : ∀ i f, c.xin.lookup i = some f → W.xin i = some f ∧ ∃ fI fd ps, XIni X.K (W.cls i) fI (fnm f) ∧ Binds X.K fd ps [] ∧ FnOk X.prog X.w X.K X.mg X.base (CX1 X.prog X.w) 1 fI fd ps (spIni (W.cls i) (fnm f))
  xn : ∀ i f, i < W.ne → W.xin i = some f → NoAttr X.K (W.cls i) (fnm f)
  bi : ∀ x ∈ biNames, X.mg x = none
  dig : NoDg X.K
  pass : PassesS (CX1 X.prog X.w) X E2
section
variable {c : Cfg} {W : WC} {X : Cx} {E2 : St → XK}
theorem Good.gl (G : Good c W X E2) {x : Str} (h : glB c x = true) : Gl X x := by
  show X.env.scope.names.lookup x = _
  rw [G.sc]; exact beq_iff_eq.mp h
theorem Good.loc (G : Good c W X E2) {x : Str} (h : locB c x = true) : Loc X.env.scope x ∧ (X.fn x = true ∨ X.env.scope.names.lookup x = some .local) := by
  unfold locB at h
  rw [G.sc]
  simp only [Bool.or_eq_true, Bool.and_eq_true, beq_iff_eq] at h
  rcases h with (h | ⟨h1, h2⟩) | ⟨h1, h2⟩
  · exact ⟨.inl h, .inr h⟩
  · exact ⟨.inr h2, .inl (G.fnx h1 x)⟩
  · exact ⟨.inr h2, .inl (G.cel x h1)⟩
theorem Good.vis (G : Good c W X E2) {x : Str} (h : visB c.sc x = true) : Vis X.env.scope x := by
  rw [G.sc]
  unfold visB at h
  split at h
  · exact .inl (by assumption)
  · exact .inr (.inl (by assumption))
  · exact .inr (.inr (by assumption))
  · cases h
theorem Good.at {i : Nat} {x : Str} (G : Good c W X E2) (h : (c.N[i]? == some x) = true) : X.N[i]? = some x := by rw [G.N]; exact beq_iff_eq.mp h
theorem Good.ndX (G : Good c W X E2) : X.N.Nodup := by rw [G.N]; exact G.nd
theorem Good.names (G : Good c W X E2) {is : List Nat} {es : List Expr} (h : okNames c.N c.sc c.fn is es = true) : okNames X.N X.env.scope c.fn is es = true := by rw [G.N, G.sc]; exact h
theorem Good.trying (G : Good c W X E2) {pn : List (Addr × Obj)} {V' : Value → Shared → Prop} {E2' : St → XK} (h : PassesS (CX1 X.prog X.w) (X.tryX pn V') E2') : Good c.trying W (X.tryX pn V') E2' :=
  ⟨G.N, G.nd, G.sc, G.un, G.calm, G.fnx, G.cel, (fun z => nomatch z), G.tr, G.fns, G.fnn, G.kok, G.kin, G.kfi, G.kfm, G.knm, G.glo, G.exc, G.exi, G.xi, G.xn, G.bi, G.dig, h⟩
theorem passN2 {P : Program} {w : World} {X : Cx} : PassesS (CX1 P w) X no2 := fun _ _ _ _ _ _ _ h => by
  obtain ⟨_, _, _, _, _, _, _, _, _, _, _, _, _, he⟩ := h
  exact he.elim
theorem Good.caught (G : Good c W X E2) (v : Value) : Good c.caught W (X.marked v) no2 :=
  ⟨G.N, G.nd, G.sc, G.un, (fun z => nomatch z), G.fnx, G.cel, (fun z => nomatch z), (fun z => nomatch z), (fun z => nomatch z), G.fnn, G.kok, G.kin, G.kfi, G.kfm, G.knm, G.glo, G.exc, G.exi, G.xi, G.xn, G.bi, G.dig, passN2⟩
theorem Good.comp (G : Good c W X E2) {N : List Str} {js : List (Option Nat)} {scope : Scope} (h : compOk N js scope c.sc c.N = true) (C : Addr) (s2 : Shared) (H2 : Hp) (fp : List Addr) (pn : List (Addr × Obj)) : Good (c.comp N scope) W (compCx X scope C N s2 H2 fp pn) no2 := by
  have hc := compOk_of h
  refine ⟨rfl, hc.nd, ?_, G.un, G.calm, (fun z => nomatch z), (fun x z => beq_iff_eq.mpr z), (fun z => nomatch z), (fun z => nomatch z), G.fns, G.fnn, G.kok, G.kin, G.kfi, G.kfm, G.knm, G.glo, G.exc, G.exi, G.xi, G.xn, G.bi, G.dig, passN2⟩
  show relabel scope X.env = relS scope c.sc
  unfold relabel relS
  rw [← G.sc]
  rfl
end
theorem star1 {e : Expr} {es : List Expr} {env : Env} (h : nstar e = true) : starEach (e :: es) env = (false, eval e env) :: starEach es env := by
  cases e <;> first | rfl | cases h
theorem noset {e : Expr} {env : Env} (h : nset e = true) : ∀ x, foldedSetIterable e env x = pure x := by
  intro x
  cases e <;> first | rfl | cases h
theorem nomarks {op : CmpOp} {e : Expr} (h : nset e = true) : behindInMarks op e = false := by
  cases e <;> first | rfl | cases h
theorem noswap {e : Expr} {t : Option Expr} {n : Nat} {env : Env} (h : ncomp e = true) : swapsWith e t n env = pure false := by
  cases e <;> first | rfl | cases h
theorem plainTest {e : Expr} {env : Env} (h : ntest e = true) : ∀ whole, isTrue e env whole = (do let v ← whole; standAt e.pos; holding [v] (truthy v)) := by
  intro whole
  cases e <;> first | rfl | cases h
theorem plainIx {e : Expr} (h : nslice e = true) : PlainIx e := by
  intro o i
  cases e <;> first | rfl | cases h
theorem nobase {e : Expr} {m : Str} {env : Env} {whole : Sem Value} (h : ncall e = true) : attributeBase e m env whole = whole := by
  cases e <;> first | rfl | cases h
theorem nobase' {e : Expr} {m : Str} {env : Env} {whole : Sem Value} (h : nbase e = true) : attributeBase e m env whole = whole := by
  cases e with
  | Call f as ks p =>
    cases f with
    | Name x px =>
      cases as with
      | nil =>
        cases ks with
        | nil => cases h
        | cons _ _ => rfl
      | cons _ _ => rfl
    | _ => rfl
  | _ => rfl
theorem noStars (pos : Pos) : ∀ {r : IA} {c : Cfg} {es : List Expr} {env : Env}, okA r c es = true → (backTo pos (starEach es env)).any (·.1) = false
  | .nil, c, es, env, h => by
    simp only [okA] at h
    cases es with
    | nil => rfl
    | cons _ _ => cases h
  | .cons a r, c, es, env, h => by
    cases es with
    | nil => simp [okA] at h
    | cons x xs =>
      simp only [okA, Bool.and_eq_true] at h
      rw [star1 h.1.1]
      show (false || (backTo pos (starEach xs env)).any (·.1)) = false
      rw [noStars pos h.2]; rfl
end L2
set_option Elab.async false
set_option linter.all false
set_option maxRecDepth 100000
set_option maxHeartbeats 4000000
namespace L2
open PySem PySem.Spec PyProof.Rows
theorem x_one {X : Cx} {op : BoolOp} {a : Expr} {pos : Pos} {t : TE} (h : PE X a t) : PE X (.BoolOp op [a] pos) t := pe_one h
theorem bi_mem (b : BI) : ((biName b : String) : Str) ∈ biNames := by
  cases b with
  | sortedL fz => cases fz <;> decide +kernel
  | _ => decide +kernel
theorem bt_mem (t : BT) : ((btName t : String) : Str) ∈ biNames := by cases t <;> decide +kernel
theorem bi_call {X : Cx} {cls : Nat → Addr} {E2 : St → XK} {b : BI} {p pos : Pos} {e : Expr} {es : List Expr} {tr : St3 → MH → (List D → MH → Prop) → XN → Prop} (hu : X.A.units + 64 < cLine) (hc : X.calm = true) (hd : NoDg X.K) (hg : Gl X (biName b : String)) (hm : X.mg (biName b : String) = none) (ha : PA X (e :: es) (lowA X.K cls E2 tr))
    (he : starEach (e :: es) X.env = (false, eval e X.env) :: starEach es X.env) (hpl : (backTo pos (starEach es X.env)).any (·.1) = false) : PE X (.Call (.Name (biName b : String) p) (e :: es) [] pos) (low X.K cls E2 fun σ M Q E => tr σ M (fun xs M1 => rBi b xs M1 Q) E) := by
  cases b with
  | len => exact x_callB vc_len hg hm (by decide +kernel) ha (by decide +kernel) (by decide +kernel) he hpl
  | min => exact x_callB (vc_min hc) hg hm (by decide +kernel) ha (by decide +kernel) (by decide +kernel) he hpl
  | sortedL fz => exact x_callB (vc_sortedL hu fz) hg hm (by cases fz <;> decide +kernel) ha (by cases fz <;> decide +kernel) (by cases fz <;> decide +kernel) he hpl
  | all => exact x_callB (vc_aa true hc) hg hm (by decide +kernel) ha (by decide +kernel) (by decide +kernel) he hpl
  | any => exact x_callB (vc_aa false hc) hg hm (by decide +kernel) ha (by decide +kernel) (by decide +kernel) he hpl
theorem bm_call {X : Cx} {cls : Nat → Addr} {E2 : St → XK} {b : BM} {o e : Expr} {es : List Expr} {to : St3 → MH → VK3 → XN → Prop} {tr : St3 → MH → (List D → MH → Prop) → XN → Prop} {apos pos : Pos} (hu : X.A.units + 64 < cLine) (ho : PE X o (low X.K cls E2 to)) (ha : PA X (e :: es) (lowA X.K cls E2 tr))
    (hb : attributeBase o (bmName b : String) X.env (eval o X.env) = eval o X.env) (hn : (e :: es).length < 30) (hl : (apos.endLine == pos.line) = true) (he : starEach (e :: es) X.env = (false, eval e X.env) :: starEach es X.env) (hpl : (backTo pos (starEach es X.env)).any (·.1) = false) :
    PE X (.Call (.Attribute o (bmName b : String) apos) (e :: es) [] pos) (low X.K cls E2 fun σ M Q E => to σ M (fun x M1 => tyB b x M1 = true ∧ tr σ M1 (fun xs M2 => rBm b x xs M2 Q) E) E) := by
  cases b with
  | clear => exact x_bm PySem.F.plainAttrs_list PySem.F.slot_list_clear PySem.F.type_list_clear vm_clear ty_listM ho ha hb hn hl he hpl
  | extend => exact x_bm PySem.F.plainAttrs_list PySem.F.slot_list_extend PySem.F.type_list_extend vm_extend ty_listM ho ha hb hn hl he hpl
theorem bm_call0 {X : Cx} {cls : Nat → Addr} {E2 : St → XK} {b : BM} {o : Expr} {to : St3 → MH → VK3 → XN → Prop} {apos pos : Pos} (hu : X.A.units + 64 < cLine) (ho : PE X o (low X.K cls E2 to))
    (hb : attributeBase o (bmName b : String) X.env (eval o X.env) = eval o X.env) (hl : (apos.endLine == pos.line) = true) :
    PE X (.Call (.Attribute o (bmName b : String) apos) [] [] pos) (low X.K cls E2 fun σ M Q E => to σ M (fun x M1 => tyB b x M1 = true ∧ rBm b x [] M1 Q) E) := by
  cases b with
  | clear => exact x_bm0 PySem.F.plainAttrs_list PySem.F.slot_list_clear PySem.F.type_list_clear vm_clear ty_listM ho hb hl
  | extend => exact x_bm0 PySem.F.plainAttrs_list PySem.F.slot_list_extend PySem.F.type_list_extend vm_extend ty_listM ho hb hl
theorem cons_of {a : IE} {r : IA} {c : Cfg} {es : List Expr} (h : okA (.cons a r) c es = true) : ∃ x xs, es = x :: xs ∧ nstar x = true ∧ okE a c x = true ∧ okA r c xs = true := by
  cases es with
  | nil => simp [okA] at h
  | cons x xs =>
    simp only [okA, Bool.and_eq_true] at h
    exact ⟨x, xs, rfl, h.1.1, h.1.2, h.2⟩
noncomputable def isAO : IT → Bool
  | .and _ _ => true
  | .or _ _ => true
  | _ => false
section
variable {W : WC}
theorem sG : ∀ (tg : ITg) {c : Cfg} {e : Expr} {X : Cx} {E2 : St → XK}, okG c tg e = true → Good c W X E2 → PG X e (lowG X.K (wpG tg))
  | .name i, c, e, X, E2, h, G => by
    simp only [okG] at h
    split at h
    · simp only [Bool.and_eq_true] at h
      obtain ⟨l1, l2⟩ := G.loc h.2
      exact h_name G.ndX (G.at h.1) l1 l2
    · cases h
  | .tup is, c, e, X, E2, h, G => by
    simp only [okG] at h
    split at h
    · simp only [Bool.and_eq_true] at h
      exact h_tup (G.calm h.1) G.ndX G.fnx (G.names h.2)
    · cases h
mutual
theorem sE : ∀ (ie : IE) {c : Cfg} {e : Expr} {X : Cx} {E2 : St → XK}, okE ie c e = true → Good c W X E2 → PE X e (low X.K W.cls E2 (wpE W ie))
  | .var i, c, e, X, E2, h, G => by
    unfold okE at h
    split at h
    · simp only [Bool.and_eq_true, Bool.not_eq_true'] at h
      exact x_var (G.at h.1.1.1) (G.vis h.1.1.2) h.1.2 h.2
    · cases h
  | .con d, c, e, X, E2, h, G => by
    unfold okE at h
    split at h
    · split at h
      · cases of_decide_eq_true h; exact x_con pe_int fun _ => rfl
      · cases of_decide_eq_true h; exact x_con pe_bl fun _ => rfl
      · exact x_con pe_non fun _ => rfl
      · cases of_decide_eq_true h; exact x_con pe_str fun _ => rfl
      · cases h
    · cases h
  | .bin op a b, c, e, X, E2, h, G => by
    unfold okE at h
    split at h
    · simp only [Bool.and_eq_true, decide_eq_true_eq] at h
      obtain ⟨⟨rfl, h1⟩, h2⟩ := h
      exact x_op (vo_bin op) (sE a h1 G) (sE b h2 G)
    · cases h
  | .neg a, c, e, X, E2, h, G => by
    unfold okE at h
    split at h
    · simp only [Bool.and_eq_true, decide_eq_true_eq] at h
      obtain ⟨rfl, h1⟩ := h
      exact x_un (ta := wpE W a) (r := rNeg) vu_neg (sE a h1 G)
    · cases h
  | .cat fz a b, c, e, X, E2, h, G => by
    unfold okE at h
    split at h
    · simp only [Bool.and_eq_true, decide_eq_true_eq] at h
      obtain ⟨⟨rfl, h1⟩, h2⟩ := h
      exact x_cat (sE a h1 G) (sE b h2 G)
    · cases h
  | .cmp op a b, c, e, X, E2, h, G => by
    unfold okE at h
    split at h
    · simp only [Bool.and_eq_true, decide_eq_true_eq] at h
      obtain ⟨⟨⟨rfl, h0⟩, h1⟩, h2⟩ := h
      exact x_cmp (vo_cmp G.un op) (sE a h1 G) (sE b h2 G) (nomarks h0)
    · cases h
  | .chain op1 op2 a b d, c, e, X, E2, h, G => by
    unfold okE at h
    split at h
    · simp only [Bool.and_eq_true, decide_eq_true_eq] at h
      obtain ⟨⟨⟨⟨⟨rfl, rfl⟩, h0⟩, h1⟩, h2⟩, h3⟩ := h
      exact x_chain (vo_cmp G.un op1) (vo_cmp G.un op2) (sE a h1 G) (sE b h2 G) (sE d h3 G) (nomarks h0)
    · cases h
  | .and a b, c, e, X, E2, h, G => by
    unfold okE at h
    split at h
    · rename_i op x y r p
      simp only [Bool.and_eq_true, decide_eq_true_eq] at h
      obtain ⟨⟨rfl, h1⟩, h2⟩ := h
      cases r with
      | nil => exact x_and (sE a h1 G) (x_one (sE b h2 G))
      | cons z r => exact x_and (sE a h1 G) (sE b h2 G)
    · cases h
  | .or a b, c, e, X, E2, h, G => by
    unfold okE at h
    split at h
    · rename_i op x y r p
      simp only [Bool.and_eq_true, decide_eq_true_eq] at h
      obtain ⟨⟨rfl, h1⟩, h2⟩ := h
      cases r with
      | nil => exact x_or (sE a h1 G) (x_one (sE b h2 G))
      | cons z r => exact x_or (sE a h1 G) (sE b h2 G)
    · cases h
  | .not a, c, e, X, E2, h, G => by
    unfold okE at h
    split at h
    · simp only [Bool.and_eq_true, decide_eq_true_eq] at h
      obtain ⟨rfl, h1⟩ := h
      exact x_not (sE a h1 G)
    · cases h
  | .lst fz es, c, e, X, E2, h, G => by
    unfold okE at h
    split at h
    · exact x_lst (sA es h G)
    · cases h
  | .ix a b, c, e, X, E2, h, G => by
    unfold okE at h
    split at h
    · simp only [Bool.and_eq_true] at h
      exact x_ix G.un (sE a h.1.2 G) (sE b h.2 G) (plainIx h.1.1)
    · cases h
  | .sl fz a lo hi, c, e, X, E2, h, G => by
    unfold okE at h
    split at h
    · simp only [Bool.and_eq_true] at h
      exact x_sl (sE a h.1.1 G) (sO lo h.1.2 G) (sO hi h.2 G)
    · cases h
  | .call f es, c, e, X, E2, h, G => by
    unfold okE at h
    split at h
    · rename_i x px args pos
      simp only [Bool.and_eq_true, Bool.not_eq_true'] at h
      obtain ⟨⟨⟨⟨h0, h1⟩, h2⟩, h3⟩, h4⟩ := h
      split at h1
      · rename_i p hp
        simp only [Bool.and_eq_true, decide_eq_true_eq] at h1
        obtain ⟨h1, _⟩ := h1
        obtain ⟨p1, p2⟩ := p
        cases h1
        obtain ⟨k, hr, hF⟩ := G.fns h0
        obtain ⟨fd, ps, m2, m3, m5⟩ := hF f (List.getElem?_eq_some_iff.mp hp).1
        have m1 := G.fnn f x p2 hp
        have m4 := hr.mono (Nat.le_succ k)
        have hA := sA es h4 G
        cases args with
        | nil =>
          cases es with
          | nil => exact x_call0 m5 m4 (G.gl h2) m1 m2 m3 G.pass h3
          | cons _ _ => simp [okA] at h4
        | cons z zs =>
          cases es with
          | nil => simp [okA] at h4
          | cons ea er =>
            obtain ⟨_, _, e1, n1, _, n3⟩ := cons_of h4
            cases e1
            exact x_call m5 m4 (G.gl h2) m1 m2 m3 G.pass hA h3 (star1 n1) (noStars _ n3)
      · cases h1
    · cases h
  | .bi b es, c, e, X, E2, h, G => by
    unfold okE at h
    split at h
    · rename_i x px args pos
      simp only [Bool.and_eq_true, decide_eq_true_eq] at h
      obtain ⟨⟨⟨⟨h0, rfl⟩, h2⟩, h3⟩, h4⟩ := h
      have hA := sA es h4 G
      cases args with
      | nil => cases h3
      | cons z zs =>
        cases es with
        | nil => simp [okA] at h4
        | cons ea er =>
          obtain ⟨_, _, e1, n1, _, n3⟩ := cons_of h4
          cases e1
          exact bi_call G.un (G.calm h0) G.dig (G.gl h2) (G.bi _ (bi_mem b)) hA (star1 n1) (noStars _ n3)
    · cases h
  | .isB a t, c, e, X, E2, h, G => by
    unfold okE at h
    split at h
    · simp only [Bool.and_eq_true, decide_eq_true_eq] at h
      obtain ⟨⟨⟨⟨⟨rfl, rfl⟩, h2⟩, h3⟩, h4⟩, h5⟩ := h
      exact x_isB (sE a h5 G) (G.gl h2) (G.bi _ (by decide +kernel)) (G.gl h3) (G.bi _ (bt_mem t)) (star1 h4)
    · cases h
  | .isC a k, c, e, X, E2, h, G => by
    unfold okE at h
    split at h
    · simp only [Bool.and_eq_true, decide_eq_true_eq, beq_iff_eq, Bool.not_eq_true'] at h
      obtain ⟨⟨⟨⟨⟨⟨rfl, h1⟩, h2⟩, h3⟩, h4⟩, h5⟩, h6⟩ := h
      exact x_isC (sE a h6 G) (G.gl h2) (G.bi _ (by decide +kernel)) (G.gl h3) (G.exc _ _ h1).1 h4 (fun i hi => ⟨(G.exi i hi).1, (G.exi i hi).2.2 _ _ h1⟩) (star1 h5)
    · cases h
  | .comp fz N js tg it cond elt, c, e, X, E2, h, G => by
    unfold okE at h
    split at h
    · simp only [Bool.and_eq_true, decide_eq_true_eq] at h
      obtain ⟨⟨⟨⟨⟨⟨⟨⟨h0, rfl⟩, ht⟩, h1⟩, h2⟩, h3⟩, h4⟩, h5⟩, h6⟩ := h
      have hok := h2
      rw [← G.sc, ← G.N] at hok
      exact x_comp hok (G.calm h0) (sI it h3 G ht) (fun C s2 H2 fp pn => sG tg h4 (G.comp h2 C s2 H2 fp pn)) (fun C s2 H2 fp pn => sTO cond h5 (G.comp h2 C s2 H2 fp pn)) (fun C s2 H2 fp pn => sE elt h6 (G.comp h2 C s2 H2 fp pn)) (noset h1) fz
    · cases h
  | .glo k, c, e, X, E2, h, G => by
    unfold okE at h
    split at h
    · rename_i x px
      simp only [Bool.and_eq_true, Bool.not_eq_true'] at h
      obtain ⟨u, v, m1, r, hd⟩ := G.glo k x (beq_iff_eq.mp h.1.1)
      exact x_glo (G.gl h.1.2) m1 r h.2 hd
    · cases h
  | .bm b o es, c, e, X, E2, h, G => by
    unfold okE at h
    split at h
    · rename_i x n ap args cp
      simp only [Bool.and_eq_true, decide_eq_true_eq] at h
      obtain ⟨⟨⟨⟨⟨⟨h0, rfl⟩, h1⟩, h2⟩, h3⟩, h4⟩, h5⟩ := h
      have hA := sA es h5 G
      cases args with
      | nil =>
        cases es with
        | nil => exact bm_call0 G.un (sE o h4 G) (nobase' h1) h2
        | cons _ _ => simp [okA] at h5
      | cons z zs =>
        cases es with
        | nil => simp [okA] at h5
        | cons ea er =>
          obtain ⟨_, _, e1, n1, _, n3⟩ := cons_of h5
          cases e1
          exact bm_call G.un (sE o h4 G) hA (nobase' h1) h3 h2 (star1 n1) (noStars _ n3)
    · cases h
theorem sT : ∀ (it : IT) {c : Cfg} {e : Expr} {X : Cx} {E2 : St → XK}, okT it c e = true → Good c W X E2 → PT X e (lowT X.K W.cls E2 (wpT W it)) ∧ (isAO it = true → PW X e (lowT X.K W.cls E2 (wpT W it)))
  | .val a, c, e, X, E2, h, G => by
    unfold okT at h
    simp only [Bool.and_eq_true] at h
    exact ⟨y_val (sE a h.2 G) (plainTest h.1), fun z => nomatch z⟩
  | .cmp op a b, c, e, X, E2, h, G => by
    unfold okT at h
    split at h
    · simp only [Bool.and_eq_true, decide_eq_true_eq] at h
      obtain ⟨⟨⟨rfl, h0⟩, h1⟩, h2⟩ := h
      exact ⟨y_cmp (vo_cmp G.un op) (sE a h1 G) (sE b h2 G) (nomarks h0), fun z => nomatch z⟩
    · cases h
  | .chain op1 op2 a b d, c, e, X, E2, h, G => by
    unfold okT at h
    split at h
    · simp only [Bool.and_eq_true, decide_eq_true_eq] at h
      obtain ⟨⟨⟨⟨⟨rfl, rfl⟩, h0⟩, h1⟩, h2⟩, h3⟩ := h
      exact ⟨y_chain (vo_cmp G.un op1) (vo_cmp G.un op2) (sE a h1 G) (sE b h2 G) (sE d h3 G) (nomarks h0), fun z => nomatch z⟩
    · cases h
  | .chain3 op1 op2 op3 a b d f, c, e, X, E2, h, G => by
    unfold okT at h
    split at h
    · simp only [Bool.and_eq_true, decide_eq_true_eq] at h
      obtain ⟨⟨⟨⟨⟨⟨⟨rfl, rfl⟩, rfl⟩, h0⟩, h1⟩, h2⟩, h3⟩, h4⟩ := h
      exact ⟨y_chain3 (vo_cmp G.un op1) (vo_cmp G.un op2) (vo_cmp G.un op3) (sE a h1 G) (sE b h2 G) (sE d h3 G) (sE f h4 G) (nomarks h0), fun z => nomatch z⟩
    · cases h
  | .and a b, c, e, X, E2, h, G => by
    unfold okT at h
    split at h
    · rename_i op x y r p
      simp only [Bool.and_eq_true, decide_eq_true_eq] at h
      obtain ⟨⟨rfl, h1⟩, h2⟩ := h
      have hA := (sT a h1 G).1
      cases r with
      | nil => exact ⟨(z_and hA (w_and1' (sT b h2 G).1)).pt, fun _ => z_and hA (w_and1' (sT b h2 G).1)⟩
      | cons z r =>
        have hB := (sT b h2 G).2
        cases b with
        | and b1 b2 => exact ⟨(z_and hA (hB rfl)).pt, fun _ => z_and hA (hB rfl)⟩
        | val b1 => simp [okT, ntest] at h2
        | cmp => simp [okT] at h2
        | chain => simp [okT] at h2
        | chain3 => simp [okT] at h2
        | or => simp [okT] at h2
        | not => simp [okT] at h2
    · cases h
  | .or a b, c, e, X, E2, h, G => by
    unfold okT at h
    split at h
    · rename_i op x y r p
      simp only [Bool.and_eq_true, decide_eq_true_eq] at h
      obtain ⟨⟨rfl, h1⟩, h2⟩ := h
      have hA := (sT a h1 G).1
      cases r with
      | nil => exact ⟨(z_or hA (w_or1' (sT b h2 G).1)).pt, fun _ => z_or hA (w_or1' (sT b h2 G).1)⟩
      | cons z r =>
        have hB := (sT b h2 G).2
        cases b with
        | or b1 b2 => exact ⟨(z_or hA (hB rfl)).pt, fun _ => z_or hA (hB rfl)⟩
        | val b1 => simp [okT, ntest] at h2
        | cmp => simp [okT] at h2
        | chain => simp [okT] at h2
        | chain3 => simp [okT] at h2
        | and => simp [okT] at h2
        | not => simp [okT] at h2
    · cases h
  | .not a, c, e, X, E2, h, G => by
    unfold okT at h
    split at h
    · simp only [Bool.and_eq_true, decide_eq_true_eq] at h
      obtain ⟨rfl, h1⟩ := h
      exact ⟨y_not (sT a h1 G).1, fun z => nomatch z⟩
    · cases h
theorem sA : ∀ (ia : IA) {c : Cfg} {es : List Expr} {X : Cx} {E2 : St → XK}, okA ia c es = true → Good c W X E2 → PA X es (lowA X.K W.cls E2 (wpA W ia))
  | .nil, c, es, X, E2, h, G => by
    simp only [okA] at h
    cases es with
    | nil => exact u_nil
    | cons _ _ => cases h
  | .cons a r, c, es, X, E2, h, G => by
    obtain ⟨x, xs, rfl, h1, h2, h3⟩ := cons_of h
    exact u_cons (sE a h2 G) (sA r h3 G) (star1 h1)
theorem sO : ∀ (io : IO) {c : Cfg} {o : Option Expr} {X : Cx} {E2 : St → XK}, okO io c o = true → Good c W X E2 → PO X o (lowO X.K W.cls E2 (wpO W io))
  | .no, c, o, X, E2, h, G => by
    simp only [okO] at h
    cases o with
    | none => exact o_no
    | some _ => cases h
  | .yes a, c, o, X, E2, h, G => by
    cases o with
    | none => simp [okO] at h
    | some x =>
      simp only [okO] at h
      exact o_yes (sE a h G)
theorem sTO : ∀ (io : ITO) {c : Cfg} {es : List Expr} {X : Cx} {E2 : St → XK}, okTO io c es = true → Good c W X E2 → PIf X es (lowT X.K W.cls E2 (wpTO W io))
  | .no, c, es, X, E2, h, G => by
    simp only [okTO] at h
    cases es with
    | nil => exact fun pins s σ H Q2 I ⟨σ3, M, Q, E3, rm, ds, lk, h, back⟩ => pif_nil pins s σ H Q2 I (back _ _ _ rm (.refl _) h)
    | cons _ _ => cases h
  | .yes t, c, es, X, E2, h, G => by
    unfold okTO at h
    split at h
    · exact pif_one (sT t h G).1
    · cases h
theorem sI : ∀ (ii : II) {c : Cfg} {e : Expr} {X : Cx} {E2 : St → XK} {tg : Expr}, okI ii c e = true → Good c W X E2 → tgOk ii tg = true → PI X tg e (lowI X.K W.cls E2 (wpI W ii))
  | .seq a, c, e, X, E2, tg, h, G, _ => by
    unfold okI at h
    exact i_seq (sE a h G)
  | .rng1 a, c, e, X, E2, tg, h, G, _ => by
    unfold okI at h
    split at h
    · simp only [Bool.and_eq_true, decide_eq_true_eq] at h
      obtain ⟨⟨⟨rfl, h1⟩, h2⟩, h3⟩ := h
      exact i_r1 (G.gl h1) (G.bi _ (by decide +kernel)) (sE a h3 G) (star1 h2)
    · cases h
end
end
end L2
set_option Elab.async false
set_option linter.all false
set_option maxRecDepth 100000
set_option maxHeartbeats 4000000
namespace L2
open PySem PySem.Spec PyProof.Rows
theorem swB_pure {c : Cfg} {W : WC} {X : Cx} {E2 : St → XK} (G : Good c W X E2) {el : Expr} {gs : List Comprehension} {scope : Scope} {pos px spos : Pos} {x : Str} (h : swB c scope x px.line pos.line = true) :
    swapsWith (.ListComp el gs scope pos) (some (.Name x px)) spos.line X.env = pure true := by
  unfold swB at h
  simp only [Bool.and_eq_true] at h
  have h1 : X.env.scope.kind = .function := by rw [G.sc]; exact beq_iff_eq.mp h.1.1.1
  have h2 : X.env.kindOf x = some .local := by show X.env.scope.names.lookup x = _; rw [G.sc]; exact beq_iff_eq.mp h.1.1.2
  have hb : (X.env.blockKind == .function) = true := by
    unfold Env.blockKind
    rw [h1]; rfl
  show (pure (X.env.blockKind == .function && X.env.kindOf x == some .local && px.line == pos.line && !(scope.names.any fun (n, k) => n == x && (k == .local || k == .cell))) : Sem Bool) = pure true
  rw [hb, h2, h.1.2, h.2]
  rfl
theorem swB_no {c : Cfg} {W : WC} {X : Cx} {E2 : St → XK} (G : Good c W X E2) {el : Expr} {gs : List Comprehension} {scope : Scope} {pos px spos : Pos} {x : Str} (h : (c.sc.names.lookup x == some .cell) = true) :
    swapsWith (.ListComp el gs scope pos) (some (.Name x px)) spos.line X.env = pure false := by
  have h2 : X.env.kindOf x = some .cell := by show X.env.scope.names.lookup x = _; rw [G.sc]; exact beq_iff_eq.mp h
  show (pure (X.env.blockKind == .function && X.env.kindOf x == some .local && px.line == pos.line && !(scope.names.any fun (n, k) => n == x && (k == .local || k == .cell))) : Sem Bool) = pure false
  rw [h2, show ((some NameKind.cell : Option NameKind) == some .local) = false from rfl, Bool.and_false]
  rfl
theorem swB_loc {c : Cfg} {scope : Scope} {x : Str} {a b : Nat} (h : swB c scope x a b = true) : c.sc.names.lookup x = some .local := by
  unfold swB at h
  simp only [Bool.and_eq_true, beq_iff_eq] at h
  exact h.1.1.2
section
variable {W : WC}
theorem sSetComp {fz : Bool} {N : List Str} {js : List (Option Nat)} {tg : ITg} {it : II} {cond : ITO} {elt : IE} {c : Cfg} {X : Cx} {E2 : St → XK} {i : Nat} {x : Str} {px spos pos : Pos} {el : Expr} {gs : List Comprehension} {scope : Scope}
    (h : okE (.comp fz N js tg it cond elt) c (.ListComp el gs scope pos) = true) (hi : (c.N[i]? == some x) = true) (hsw : swB c scope x px.line pos.line = true) (G : Good c W X E2) :
    PS X (.Assign [.Name x px] (.ListComp el gs scope pos) spos) (lowS X.K W.cls E2 (wpS W (.set i (.comp fz N js tg it cond elt)))) := by
  have sp := swB_pure (spos := spos) (el := el) (gs := gs) G hsw
  unfold okE at h
  split at h
  · rename_i el' tgE iter ifs as scope' pos' heq
    cases heq
    simp only [Bool.and_eq_true, decide_eq_true_eq] at h
    obtain ⟨⟨⟨⟨⟨⟨⟨⟨h0, rfl⟩, ht⟩, h1⟩, h2⟩, h3⟩, h4⟩, h5⟩, h6⟩ := h
    have hok := h2
    rw [← G.sc, ← G.N] at hok
    exact q_setComp0 hok (G.calm h0) (sI it h3 G ht) (fun C s2 H2 fp pn => sG tg h4 (G.comp h2 C s2 H2 fp pn)) (fun C s2 H2 fp pn => sTO cond h5 (G.comp h2 C s2 H2 fp pn)) (fun C s2 H2 fp pn => sE elt h6 (G.comp h2 C s2 H2 fp pn)) (noset h1) G.ndX (G.at hi) (by rw [G.sc]; exact swB_loc hsw) sp fz
  · cases h
mutual
theorem sS : ∀ (is : IS) {c : Cfg} {s : Stmt} {X : Cx} {E2 : St → XK}, okS is c s = true → Good c W X E2 → PS X s (lowS X.K W.cls E2 (wpS W is))
  | .set i a, c, s, X, E2, h, G => by
    unfold okS at h
    split at h
    · simp only [Bool.and_eq_true, Bool.or_eq_true] at h
      obtain ⟨⟨⟨h1, h2⟩, h3⟩, h4⟩ := h
      obtain ⟨l1, l2⟩ := G.loc h2
      rcases h4 with h4 | h4
      · exact q_set G.ndX (G.at h1) l1 (sE a h3 G) (noswap h4) l2
      · split at h4
        · rcases Bool.or_eq_true_iff.mp h4 with h4 | h4
          · exact sSetComp h3 h1 h4 G
          · exact q_set G.ndX (G.at h1) l1 (sE _ h3 G) (swB_no G h4) l2
        · cases h4
    · cases h
  | .expr a, c, s, X, E2, h, G => by
    unfold okS at h
    split at h
    · simp only [Bool.and_eq_true] at h
      exact q_expr (sE a h.2 G) (noswap h.1)
    · cases h
  | .ret a, c, s, X, E2, h, G => by
    unfold okS at h
    split at h
    · exact q_ret (sE a h G)
    · cases h
  | .ifs t a b, c, s, X, E2, h, G => by
    unfold okS at h
    split at h
    · simp only [Bool.and_eq_true] at h
      exact q_if (sT t h.1.1 G).1 (sSs a h.1.2 G) (sSs b h.2 G)
    · cases h
  | .for_ tg it body, c, s, X, E2, h, G => by
    unfold okS at h
    split at h
    · simp only [Bool.and_eq_true] at h
      obtain ⟨⟨⟨⟨⟨⟨h1, ht⟩, h2⟩, h3⟩, h4⟩, h5⟩, h6⟩ := h
      exact q_for (G.own h1).1 (G.calm h2) (sI it h5 G ht) (sG tg h4 G) (sSs body h6 G) (noset h3)
    · cases h
  | .raise k es, c, s, X, E2, h, G => by
    unfold okS at h
    split at h
    · rename_i x px args cp pos
      simp only [Bool.and_eq_true, Bool.not_eq_true'] at h
      obtain ⟨⟨⟨⟨⟨⟨⟨h0, h1⟩, h2⟩, h3⟩, h4⟩, h5⟩, h6⟩, h7⟩ := h
      obtain ⟨_, E, hE, hR, hRD, hr2⟩ := G.own h1
      obtain ⟨m1, m2, _⟩ := G.exc k x (beq_iff_eq.mp h3)
      have hA := sA (W := W) es h7 G
      cases args with
      | nil => cases h6
      | cons z zs =>
        cases es with
        | nil => simp [okA] at h7
        | cons ea er =>
          obtain ⟨_, _, e1, n1, _, n3⟩ := cons_of h7
          cases e1
          exact q_raise hR hE (G.calm h2) (G.gl h4) m1 (m2 (Option.isNone_iff_eq_none.mp h0)) hA h5 (star1 n1) (noStars _ n3)
    · cases h
  | .try_ body hs, c, s, X, E2, h, G => by
    unfold okS at h
    split at h
    · rename_i b handlers pos
      simp only [Bool.and_eq_true] at h
      obtain ⟨⟨⟨h1, h2⟩, h3⟩, h4⟩ := h
      obtain ⟨t1, t2, t3⟩ := G.tr h1
      have hH := sHs hs h4 G
      cases handlers with
      | nil => cases h2
      | cons h0 hr => exact q_try t1 t2 t3 hH fun pn V' E2' hP => sSs body h3 (G.trying hP)
    · cases h
  | .app o a, c, s, X, E2, h, G => by
    unfold okS at h
    split at h
    · simp only [Bool.and_eq_true, decide_eq_true_eq] at h
      obtain ⟨⟨⟨⟨⟨rfl, h1⟩, h2⟩, h3⟩, h4⟩, h5⟩ := h
      exact q_app (sE o h4 G) (sE a h5 G) (nobase h1) h2 (star1 h3)
    · cases h
  | .del i, c, s, X, E2, h, G => by
    unfold okS at h
    cases h
theorem sSs : ∀ (is : ISs) {c : Cfg} {sts : List Stmt} {X : Cx} {E2 : St → XK}, okSs is c sts = true → Good c W X E2 → PSs X sts (lowS X.K W.cls E2 (wpSs W is))
  | .nil, c, sts, X, E2, h, G => by
    simp only [okSs] at h
    cases sts with
    | nil => exact q_nil
    | cons _ _ => cases h
  | .cons s r, c, sts, X, E2, h, G => by
    unfold okSs at h
    split at h
    · exact q_del (sSs r h G)
    · split at h
      · simp only [Bool.and_eq_true] at h
        exact q_cons (t := wpS W s) (u := wpSs W r) (sS s h.1 G) (sSs r h.2 G)
      · cases h
theorem sHs : ∀ (ih : IHs) {c : Cfg} {hs : List ExceptHandler} {X : Cx} {E2 : St → XK}, okHs ih c hs = true → Good c W X E2 → PH X hs (lowH X.K W.cls (wpH W ih))
  | .nil, c, hs, X, E2, h, G => by
    simp only [okHs] at h
    cases hs with
    | nil => exact hh_nil
    | cons _ _ => cases h
  | .cons k nm body r, c, hs, X, E2, h, G => by
    unfold okHs at h
    split at h
    · rename_i x px nmE bodyE hp rest
      simp only [Bool.and_eq_true, Bool.not_eq_true'] at h
      obtain ⟨⟨⟨⟨⟨⟨h1, h2⟩, h3⟩, h4⟩, h5⟩, h6⟩, h7⟩ := h
      obtain ⟨m1, m2, m3⟩ := G.exc k x (beq_iff_eq.mp h1)
      have hB := fun v => sSs body h6 (G.caught v)
      have hR := sHs r h7 G
      cases bodyE with
      | nil => cases h5
      | cons b0 suite =>
        cases nm with
        | none =>
          cases nmE with
          | none => exact hh_an (G.gl h2) m1 m3 hB hR h3
          | some n => cases h4
        | some j =>
          cases nmE with
          | none => cases h4
          | some n =>
            simp only [Bool.and_eq_true, beq_iff_eq] at h4
            exact hh_as (G.gl h2) m1 m3 G.ndX (by rw [G.N]; exact h4.1) (by rw [G.sc]; exact h4.2) hB hR h3
    · cases h
end
end
end L2
set_option Elab.async false
set_option linter.all false
set_option maxRecDepth 100000
set_option maxHeartbeats 4000000
namespace L2
open PySem PySem.Spec PyProof.Rows
theorem ixc {α : Type} {P : Nat → α → Prop} {a : α} {r : List α} (h0 : P 0 a) (hr : ∀ i x, r[i]? = some x → P (i + 1) x) : ∀ i x, (a :: r)[i]? = some x → P i x
  | 0, x, h => by cases h; exact h0
  | i + 1, x, h => hr i x h
theorem ixn {α : Type} {P : Nat → α → Prop} : ∀ i x, ([] : List α)[i]? = some x → P i x := fun i x h => by simp at h
theorem ltc {P : Nat → Prop} {n : Nat} (h0 : P 0) (hr : ∀ i, i < n → P (i + 1)) : ∀ i, i < n + 1 → P i
  | 0, _ => h0
  | i + 1, h => hr i (Nat.lt_of_succ_lt_succ h)
theorem ltn {P : Nat → Prop} : ∀ i, i < 0 → P i := fun i h => absurd h (Nat.not_lt_zero _)
theorem memc {α : Type} {P : α → Prop} {a : α} {r : List α} (h0 : P a) (hr : ∀ x ∈ r, P x) : ∀ x ∈ a :: r, P x := fun x h => (List.mem_cons.mp h).elim (fun e => e ▸ h0) (hr x)
theorem memn {α : Type} {P : α → Prop} : ∀ x ∈ ([] : List α), P x := fun x h => nomatch h
theorem us0 {P : List Value → Prop} (h : P []) : ∀ us : List Value, us.length = 0 → P us := fun us e => (List.eq_nil_of_length_eq_zero e) ▸ h
theorem usS {n : Nat} {P : List Value → Prop} (h : ∀ a, ∀ us : List Value, us.length = n → P (a :: us)) : ∀ us : List Value, us.length = n + 1 → P us := fun us e => by
  cases us with
  | nil => cases e
  | cons a r => exact h a r (Nat.succ.inj e)
structure FB where
  np : Nat
  nl : Nat
  cl : Bool
  body : ISs
noncomputable def startN (nl : Nat) (ds : List D) : St3 := ds.map some ++ List.replicate (nl - ds.length) none
noncomputable def wpCall (T : List FB) (B : WB) : Nat → Nat → List D → MH → VK3 → XN → Prop
  | 0, _, _, _, _, _ => False
  | n + 1, f, ds, M, Q, E => match T[f]? with
    | none => False
    | some fb => ds.length = fb.np ∧ wpSs { toWB := B, call := wpCall T B n } fb.body { nx := fun _ M' => Q .non (kp fb.cl M M'), rt := fun v M' => Q v (kp fb.cl M M') } (fun _ i M' => E i (keepM M M')) (startN fb.nl ds) M
structure FL where
  name : Str
  qual : Str
  glob : Bool
  cl : Bool
  st : Stmt
  N : List Str
  ps : List Str
  body : ISs
noncomputable def scopeB (N ps : List Str) (sc : Scope) : Bool := (sc.kind == .function) && !sc.isCoroutine && !sc.isGenerator && decide N.Nodup && (N.take ps.length == ps) &&
  ps.all (fun x => sc.names.lookup x == some .local || sc.names.lookup x == some .cell) && sc.names.all (fun y => y.2 != .free)
theorem scopeB_of {N ps : List Str} {sc : Scope} (h : scopeB N ps sc = true) : FnScope N ps sc := by
  unfold scopeB at h
  simp only [Bool.and_eq_true, Bool.not_eq_true', beq_iff_eq, decide_eq_true_eq, List.all_eq_true, Bool.or_eq_true, bne_iff_ne] at h
  obtain ⟨⟨⟨⟨⟨⟨h1, h2⟩, h3⟩, h4⟩, h5⟩, h6⟩, h7⟩ := h
  exact ⟨h1, h2, h3, h4, h5, h6, h7⟩
structure NM where
  exc : List Str
  kln : List Str
  gln : List Str
  xin : List (Nat × Nat)
noncomputable def FL.cfg (l : FL) (fns : List (Option Str × Nat)) (n : NM) : Cfg := { N := l.N, sc := defScope l.st, fns := fns, exc := n.exc, kln := n.kln, gln := n.gln, xin := n.xin, calm := true, own := true, tr := true, fn := true }
noncomputable def FL.fb (l : FL) : FB := ⟨l.ps.length, l.N.length, l.cl, l.body⟩
noncomputable def FL.ok (l : FL) (fns : List (Option Str × Nat)) (n : NM) : Bool := scopeB l.N l.ps (defScope l.st) && okSs l.body (l.cfg fns n) (defBody l.st)
noncomputable def fnsOf (L : List FL) : List (Option Str × Nat) := L.map fun l => (if l.glob = true then some l.name else none, l.ps.length)
structure Top (K : PySem.W.Frag) (mg : Str → Option Value) (L : List FL) (n : NM) (B : WB) : Prop where
  ok : ∀ l ∈ L, l.ok (fnsOf L) n = true
  fn : ∀ f l, L[f]? = some l → ∃ fd, Fun K l.name l.qual l.st (B.fad f) fd ∧ (l.glob = true → mg l.name = some (.ref (B.fad f))) ∧ ∀ us : List Value, us.length = l.ps.length → bindArgs fd ⟨us, []⟩ = pure (l.ps.zip us)
  exi : ∀ i, i < B.ne → ExcI K (B.cls i) ∧ PySem.W.kitOne K (.ref (B.cls i)) (.type "ValueError") = some true ∧ ∀ j x, n.exc[j]? = some x → PySem.W.kitOne K (.ref (B.cls i)) (.ref (B.cls j)) = some (B.sub i j)
  exc : ∀ i x, n.exc[i]? = some x → mg x = some (.ref (B.cls i)) ∧ (n.xin.lookup i = none → ExcC K (B.cls i)) ∧ ∀ j, j < B.ne → PySem.W.exmOne K (.ref (B.cls j)) (.ref (B.cls i)) = some (B.sub j i)
  kok : ∀ i, i < B.nk → KOk K B B.fad i
  kin : ∀ i, i < B.nk → ∃ f, B.ini i = some f
  kfi : ∀ i f, i < B.nk → B.ini i = some f → f < L.length
  kfm : ∀ i m f, i < B.nk → B.mth i m = some f → f < L.length
  knm : ∀ i x, n.kln[i]? = some x → mg x = some (.ref (B.kls i)) ∧ i < B.nk
  glo : ∀ k x, n.gln[k]? = some x → ∃ u v, mg x = some u ∧ RelV v u ∧ ∀ H, Den K H (B.glo k) v
  bi : ∀ x ∈ biNames, mg x = none
  dig : NoDg K
  xi : ∀ i f, n.xin.lookup i = some f → B.xin i = some f ∧ ∃ fI fd ps, XIni K (B.cls i) fI (fnm f) ∧ Binds K fd ps [] ∧ ∀ (P : Program) (w : World) (base : Heap), FnOk P w K mg base (CX1 P w) 1 fI fd ps (spIni (B.cls i) (fnm f))
  xn : ∀ i f, i < B.ne → B.xin i = some f → NoAttr K (B.cls i) (fnm f)
section
variable {P : Program} {w : World} {K : PySem.W.Frag} {mg : Str → Option Value} {base : Heap} {L : List FL} {nm : NM} {B : WB}
theorem fn_sound (T : Top K mg L nm B) : ∀ (n f : Nat) (l : FL), L[f]? = some l → ∀ (fd : FuncData), Fun K l.name l.qual l.st (B.fad f) fd → FnOk P w K mg base (CX1 P w) (2 * n + 2) (B.fad f) fd l.ps (spX K B.cls (wpCall (L.map FL.fb) B n f)) := by
  intro n
  induction n with
  | zero =>
    intro f l hl fd F
    exact ⟨fun vs H Q E ⟨_, _, _, _, _, _, h, _⟩ => h.elim, fun A outer s H args us vs Q E hr e0 hb r ⟨_, _, _, _, _, _, h, _⟩ => h.elim⟩
  | succ n ih =>
    intro f l hl fd F
    have hT : (L.map FL.fb)[f]? = some l.fb := by rw [List.getElem?_map, hl]; rfl
    have hm : l ∈ L := List.mem_of_getElem? hl
    have okl := T.ok l hm
    unfold FL.ok at okl
    rw [Bool.and_eq_true] at okl
    have S := scopeB_of okl.1
    obtain ⟨oc, od, kV, doc, pm, an, cdv, ct, osl, rfl, lk, hcd⟩ := F.ex
    have un : ∀ ds M Q E, wpCall (L.map FL.fb) B (n + 1) f ds M Q E → ds.length = l.ps.length ∧ wpSs { toWB := B, call := wpCall (L.map FL.fb) B n } l.body { nx := fun _ M' => Q .non (kp l.cl M M'), rt := fun v M' => Q v (kp l.cl M M') } (fun _ i M' => E i (keepM M M')) (startN l.N.length ds) M := fun ds M Q E h => by
      simp only [wpCall, hT] at h
      exact h
    show FnOk P w K mg base (CX1 P w) (2 * n + 3 + 1) _ _ _ _
    refine fn_of lk hcd S (fun vs H Q E h => ?_) fun A outer s H vs Q E hr hsp => ?_
    · obtain ⟨ds, M, Q3, E3, dl, _, h, _⟩ := h
      rw [← dl.length]; exact (un _ _ _ _ h).1
    · obtain ⟨ds, M, Q3, E3, dl, rm, h, back, lkE⟩ := hsp
      obtain ⟨_, h⟩ := un _ _ _ _ h
      have len : (fnsOf L).length = L.length := by unfold fnsOf; rw [List.length_map]
      have G : Good (l.cfg (fnsOf L) nm) { toWB := B, call := wpCall (L.map FL.fb) B n } (cxOf (CX1 P w) P w K mg base l.N l.qual (defScope l.st) (B.fad f) cdv A outer s H E) (fun _ => E) := by
        refine ⟨rfl, S.nd, rfl, hr.units, fun _ => rfl, fun _ _ => rfl, (fun _ z => nomatch z), fun _ => ⟨own1, E, rfl, raises1, raisesD1, hr.mono (by omega)⟩, fun _ => ⟨rfl, rfl, rfl⟩, fun _ => ⟨2 * n + 2, hr, fun g hg => ?_⟩, fun g x k hg => ?_, T.kok, T.kin, fun i g hi q => ?_, fun i m g hi q => ?_, T.knm, T.glo, T.exc, T.exi, (fun i f hi => ?_), T.xn, T.bi, T.dig, fun pins σ H' s' e s'' I hc => pass1 pins σ H' s' e s'' I hc⟩
        · have hg : g < (fnsOf L).length := hg
          rw [len] at hg
          obtain ⟨fd2, F2, _, b2⟩ := T.fn g L[g] (by simp [hg])
          exact ⟨fd2, _, F2.kp, .all b2, ih g L[g] (by simp [hg]) fd2 F2⟩
        · have hg : (fnsOf L)[g]? = some (some x, k) := hg
          unfold fnsOf at hg
          rw [List.getElem?_map] at hg
          cases q : L[g]? with
          | none => rw [q] at hg; cases hg
          | some l2 =>
            rw [q] at hg
            obtain ⟨fd2, F2, m2, b2⟩ := T.fn g l2 q
            have e : ((if l2.glob = true then some l2.name else none), l2.ps.length) = (some x, k) := Option.some.inj hg
            by_cases z : l2.glob = true
            · rw [if_pos z] at e
              cases e
              exact m2 z
            · rw [if_neg z] at e
              cases e
        · show g < (fnsOf L).length
          rw [len]; exact T.kfi i g hi q
        · show g < (fnsOf L).length
          rw [len]; exact T.kfm i m g hi q
        · obtain ⟨a, fI, fd3, ps3, x3, b3, F3⟩ := T.xi i f hi
          exact ⟨a, fI, fd3, ps3, x3, b3, F3 P w base⟩
      exact ⟨_, sSs l.body okl.2 G, startN l.N.length ds, M, _, _, rm, denS_start dl, fun σ3 σ i M' H' t _ rm' q dx xd => lkE i _ H' t (rm'.sub fun _ _ z => keepM_get z) q dx xd, h,
        ⟨fun σ' H' σ3' M' rm' ds' tm q => back _ _ _ _ den_none (rm'.sub fun _ _ z => kp_get z) tm q, fun v H' d M' dv rm' tm q => back _ _ _ _ dv (rm'.sub fun _ _ z => kp_get z) tm q, fun _ _ _ _ _ _ _ z => z.elim, fun _ _ _ _ _ _ _ z => z.elim⟩⟩
end
noncomputable abbrev scr (ns : List Int) : D := .rol (ns.map D.int)
theorem walkD {l : PySem.W.OpenLaw} {k f : Nat} {q : Program} {loose : List Str} {XP : (Str → Option Value) → Heap → Prop} {YP : World → Heap → Prop} {d : DefRec} {K : Params → PySem.W.Frag} {fl : FL} {x : Str} {L : List FL} {nm : NM} {BB : (Nat → Addr) → (Nat → Addr) → (Nat → Addr) → WB}
    (hn : l.most = some 63) (hdf : d.params.defaults = []) (hr : Room (2 * k + 2) callerA) (hY : ∀ (w : World) (h : Heap), YP w h → (K w.params).In h) (hf : L[f]? = some fl) (hps : fl.ps = [x]) (hname : fl.name = d.name) (hgl : fl.glob = true)
    (T : ∀ (w : World) (mg : Str → Option Value) (h : Heap), (K w.params).In h → h.Ns mainGlobals mg → ∃ cls kls fad, Top (K w.params) mg L nm (BB cls kls fad))
    (main : ∀ (cls kls fad : Nat → Addr) (ns : List Int), ns.length ≤ 63 → wpCall (L.map FL.fb) (BB cls kls fad) k f [scr ns] (fun _ => none) (fun d _ => d = .bl true) (fun _ _ => False)) :
    PySem.W.WalkO q loose XP YP l.row.toRowW d [] (fun f vs => PySem.call f vs) := by
  refine Att.attach_call hn hdf fun w s₀ s₁ mg mb fa o pm cd doc a vs ns G Y ho hd hcd hmg hobj hints hlen hg => ?_
  have KX := hY w _ Y
  obtain ⟨cls, kls, fad, T⟩ := T w mg _ KX G.T.g
  obtain ⟨fd, F, m1, b1⟩ := T.fn f fl hf
  have m1 := m1 hgl
  rw [hname, hmg] at m1
  have m1 := Value.ref.inj (Option.some.inj m1)
  subst m1
  refine law_call (K := K w.params) (CX := CX1 l.prog w) (fd := fd) (x := x) (sp := spX (K w.params) (BB cls kls fad).cls (wpCall (L.map FL.fb) (BB cls kls fad) k f)) KX G.T.g G.T.b G.T.builtins G.T.nolimit hg hobj hints (Nat.le_trans hlen (by decide)) hr (fun base kb gb => by rw [← hps]; exact fn_sound T k f fl hf fd F) (fun s u => ?_) (fun H hO hS => ?_) fun H e s' h => ?_
  · have hb := b1 [u] (by rw [hps]; rfl)
    rw [hps] at hb
    exact .of_eq hb
  · have sq : SqF (K w.params) H a (ns.map V.int) := by
      cases hk : (K w.params).lookup a with
      | some ob =>
        have e := KX a ob hk
        rw [hobj] at e
        cases e
        exact .inr ⟨vs, _, hk, by rw [hints.length]; exact Nat.le_trans hlen (by decide), vals_ints hints⟩
      | none =>
        rcases hS with (h | ⟨ob, h⟩) | ⟨ob, _, _, h, _⟩
        · rcases hO a with z | ⟨o2, xs, z⟩
          · rw [h] at z; cases z
          · rw [h] at z; cases z
        · exact .inl ⟨ob, h⟩
        · rw [hk] at h; cases h
    refine ⟨[scr ns], fun _ => none, fun d _ => d = .bl true, fun _ _ => False, .one ⟨a, _, rfl, sq, .of_int⟩, fun a o e => (by cases e), main cls kls fad ns hlen, fun v H' d M' dv _ _ q => ?_, fun _ _ _ _ _ h => h.elim⟩
    subst q; exact dv
  · obtain ⟨_, _, _, _, _, _, _, _, _, _, _, _, _, he⟩ := h
    exact he
theorem Fun.bindsE {K : PySem.W.Frag} {x qual : Str} {st : Stmt} {f : Addr} {fd : FuncData} {ps : List Str} (F : Fun K x qual st f fd)
    (h : ∀ (kV doc pm : Value) (an : Option Addr) (cdv ct : Value) (us : List Value), us.length = ps.length → bindArgs (PySem.W.fnOf x qual (defArgs st) (defBody st) (defScope st) .none kV doc pm an cdv ct) ⟨us, []⟩ = pure (ps.zip us)) : ∀ us : List Value, us.length = ps.length → bindArgs fd ⟨us, []⟩ = pure (ps.zip us) := by
  obtain ⟨oc, od, kV, doc, pm, an, cdv, ct, osl, rfl, lk, hcd⟩ := F.ex
  exact h kV doc pm an cdv ct
end L2
set_option Elab.async false
set_option linter.all false
set_option maxRecDepth 100000
set_option maxHeartbeats 4000000
namespace L2
theorem cdivb {i j : Int} (h1 : 0 < j) (h2 : j < 10 ^ 250) : CDivB i j = True := by
  refine eq_true ⟨h1, lt_big ?_⟩
  omega
theorem cmulb {i j : Int} (h1 : -(10 ^ 240) < i) (h2 : i < 10 ^ 240) (h3 : -(10 ^ 240) < j) (h4 : j < 10 ^ 240) : CMulB i j = True := by
  refine eq_true ⟨lt_big ?_, lt_big ?_⟩ <;> omega
theorem cpow {i j : Int} (h1 : 0 ≤ j) (h2 : j ≤ 1000000) (h3 : i.natAbs < 2 ^ 64) : CPow i j = True := eq_true ⟨h1, h2, h3⟩
theorem atI0 {α : Type} (a : α) (l : List α) : atI (a :: l) 0 = some a := by simp [atI, ixN]
theorem atI1 {α : Type} (a b : α) (l : List α) : atI (a :: b :: l) 1 = some b := atI_nat (j := 1) rfl
theorem atI2 {α : Type} (a b c : α) (l : List α) : atI (a :: b :: c :: l) 2 = some c := atI_nat (j := 2) rfl
theorem atI3 {α : Type} (a b c d : α) (l : List α) : atI (a :: b :: c :: d :: l) 3 = some d := atI_nat (j := 3) rfl
end L2
set_option Elab.async false
set_option linter.all false
set_option maxRecDepth 100000
set_option maxHeartbeats 4000000
namespace L2
open PySem
section
variable {W : WC} {σ : St3} {M : MH} {Q : VK3} {E : XN} {y0 y1 y2 y3 y4 y5 y6 y7 y8 y9 y10 y11 y12 y13 : Option D} {v : D}
@[simp ↓] theorem r_v0 : wpE W (.var 0) (some v :: σ) M Q E = Q v M := rfl
@[simp ↓] theorem r_v1 : wpE W (.var 1) (y0 :: some v :: σ) M Q E = Q v M := rfl
@[simp ↓] theorem r_v2 : wpE W (.var 2) (y0 :: y1 :: some v :: σ) M Q E = Q v M := rfl
@[simp ↓] theorem r_v3 : wpE W (.var 3) (y0 :: y1 :: y2 :: some v :: σ) M Q E = Q v M := rfl
@[simp ↓] theorem r_v4 : wpE W (.var 4) (y0 :: y1 :: y2 :: y3 :: some v :: σ) M Q E = Q v M := rfl
@[simp ↓] theorem r_v5 : wpE W (.var 5) (y0 :: y1 :: y2 :: y3 :: y4 :: some v :: σ) M Q E = Q v M := rfl
@[simp ↓] theorem r_v6 : wpE W (.var 6) (y0 :: y1 :: y2 :: y3 :: y4 :: y5 :: some v :: σ) M Q E = Q v M := rfl
@[simp ↓] theorem r_v7 : wpE W (.var 7) (y0 :: y1 :: y2 :: y3 :: y4 :: y5 :: y6 :: some v :: σ) M Q E = Q v M := rfl
@[simp ↓] theorem r_v8 : wpE W (.var 8) (y0 :: y1 :: y2 :: y3 :: y4 :: y5 :: y6 :: y7 :: some v :: σ) M Q E = Q v M := rfl
@[simp ↓] theorem r_v9 : wpE W (.var 9) (y0 :: y1 :: y2 :: y3 :: y4 :: y5 :: y6 :: y7 :: y8 :: some v :: σ) M Q E = Q v M := rfl
@[simp ↓] theorem r_v10 : wpE W (.var 10) (y0 :: y1 :: y2 :: y3 :: y4 :: y5 :: y6 :: y7 :: y8 :: y9 :: some v :: σ) M Q E = Q v M := rfl
@[simp ↓] theorem r_v11 : wpE W (.var 11) (y0 :: y1 :: y2 :: y3 :: y4 :: y5 :: y6 :: y7 :: y8 :: y9 :: y10 :: some v :: σ) M Q E = Q v M := rfl
@[simp ↓] theorem r_v12 : wpE W (.var 12) (y0 :: y1 :: y2 :: y3 :: y4 :: y5 :: y6 :: y7 :: y8 :: y9 :: y10 :: y11 :: some v :: σ) M Q E = Q v M := rfl
@[simp ↓] theorem r_v13 : wpE W (.var 13) (y0 :: y1 :: y2 :: y3 :: y4 :: y5 :: y6 :: y7 :: y8 :: y9 :: y10 :: y11 :: y12 :: some v :: σ) M Q E = Q v M := rfl
@[simp ↓] theorem r_con : wpE W (.con v) σ M Q E = Q v M := rfl
@[simp ↓] theorem r_bin {op a b} : wpE W (.bin op a b) σ M Q E = wpE W a σ M (fun x M1 => wpE W b σ M1 (fun y M2 => rBin op x y M2 Q) E) E := rfl
@[simp ↓] theorem r_neg {a} : wpE W (.neg a) σ M Q E = wpE W a σ M (fun x M1 => rNeg x M1 Q) E := rfl
@[simp ↓] theorem r_cat {fz a b} : wpE W (.cat fz a b) σ M Q E = wpE W a σ M (fun x M1 => wpE W b σ M1 (fun y M2 => rCat3 fz x y M2 Q) E) E := rfl
@[simp ↓] theorem r_cmp {op a b} : wpE W (.cmp op a b) σ M Q E = wpE W a σ M (fun x M1 => wpE W b σ M1 (fun y M2 => rCmp op x y M2 Q) E) E := rfl
@[simp ↓] theorem r_chain {op op' a b c} : wpE W (.chain op op' a b c) σ M Q E = wpE W a σ M (fun x M1 => wpE W b σ M1 (fun y M2 => rCmp op x y M2 fun r M3 => match r with
    | .bl k => if k = true then wpE W c σ M3 (fun z M4 => rCmp op' y z M4 Q) E else Q (.bl false) M3
    | _ => False) E) E := rfl
@[simp ↓] theorem r_and {a b} : wpE W (.and a b) σ M Q E = wpE W a σ M (fun x M1 => match x with
    | .bl c => if c = true then wpE W b σ M1 Q E else Q (.bl false) M1
    | _ => False) E := rfl
@[simp ↓] theorem r_or {a b} : wpE W (.or a b) σ M Q E = wpE W a σ M (fun x M1 => match x with
    | .bl c => if c = true then Q (.bl true) M1 else wpE W b σ M1 Q E
    | _ => False) E := rfl
@[simp ↓] theorem r_not {a} : wpE W (.not a) σ M Q E = wpE W a σ M (fun x M1 => match x with
    | .bl c => Q (.bl (!c)) M1
    | _ => False) E := rfl
@[simp ↓] theorem r_lst {fz es} : wpE W (.lst fz es) σ M Q E = wpA W es σ M (fun xs M1 => newL fz xs M1 Q) E := rfl
@[simp ↓] theorem r_ix {a b} : wpE W (.ix a b) σ M Q E = wpE W a σ M (fun x M1 => wpE W b σ M1 (fun y M2 => rIx3 x y M2 Q) E) E := rfl
@[simp ↓] theorem r_sl {fz a lo hi} : wpE W (.sl fz a lo hi) σ M Q E = wpE W a σ M (fun x M1 => wpO W lo σ M1 (fun l M2 => wpO W hi σ M2 (fun h M3 => rSl3 fz x l h M3 Q) E) E) E := rfl
@[simp ↓] theorem r_call {f es} : wpE W (.call f es) σ M Q E = wpA W es σ M (fun xs M1 => W.call f xs M1 Q E) E := rfl
@[simp ↓] theorem r_bi {b es} : wpE W (.bi b es) σ M Q E = wpA W es σ M (fun xs M1 => rBi b xs M1 Q) E := rfl
@[simp ↓] theorem r_isB {e t} : wpE W (.isB e t) σ M Q E = wpE W e σ M (fun x M1 => isBT t x M1 Q) E := rfl
@[simp ↓] theorem r_isC {e c} : wpE W (.isC e c) σ M Q E = wpE W e σ M (fun x M1 => isCT W.ne W.cls (fun i => W.sub i c) x M1 Q) E := rfl
@[simp ↓] theorem xf_put {B : WB} {f c g : Nat} {y : D} {a : Addr} {v : PySem.Value} : rXf B f (.ref a) (put M a (.exc ⟨c, some (g, y)⟩ v)) Q = ((v = .ref (B.cls c) ∧ c < B.ne ∧ B.xin c = some f) ∧ g = f ∧ Q y (put M a (.exc ⟨c, some (g, y)⟩ v))) := by
  simp [rXf, put_same]
@[simp ↓] theorem r_glo {k} : wpE W (.glo k) σ M Q E = Q (W.glo k) M := rfl
@[simp ↓] theorem r_bm {b o es} : wpE W (.bm b o es) σ M Q E = wpE W o σ M (fun x M1 => tyB b x M1 = true ∧ wpA W es σ M1 (fun xs M2 => rBm b x xs M2 Q) E) E := rfl
@[simp] theorem keep_self : keepM M M = M := by
  funext a; unfold keepM; split <;> simp_all
@[simp] theorem keep_new {M' : MH} {p : Addr} {o : DO} (h : M p = none) : keepM M (put M' p o) = keepM M M' := by
  funext a; unfold keepM put; split
  · rename_i x e
    split
    · rename_i z; subst z; rw [h] at e; cases e
    · rfl
  · rfl
@[simp] theorem keep_del {M' : MH} {p : Addr} (h : M p = none) : keepM M (L2.del M' p) = keepM M M' := by
  funext a; unfold keepM L2.del; split
  · rename_i x e
    split
    · rename_i z; subst z; rw [h] at e; cases e
    · rfl
  · rfl
@[simp] theorem keep_put {M' : MH} {p : Addr} {o u : DO} (h : M p = some u) : keepM M (put M' p o) = put (keepM M M') p o := by
  funext a; unfold keepM put
  by_cases z : a = p
  · subst z; simp [h]
  · simp [z]
@[simp] theorem keep_pp {M' : MH} {p : Addr} {o u : DO} : keepM (put M p o) (put M' p u) = put (keepM M M') p u := by
  funext a; unfold keepM put
  by_cases z : a = p
  · subst z; simp
  · simp [z]
@[simp] theorem kp_true {M' : MH} : kp true M M' = keepM M M' := rfl
@[simp] theorem kp_false {M' : MH} : kp false M M' = M' := rfl
@[simp ↓] theorem has_some {f : Nat} {R : Nat → Prop} : rHas (some f) R = R f := rfl
@[simp ↓] theorem fld_obj {B : WB} {f i C ns ds} : rFld B f (.obj i C ns ds) M Q = ((C = B.kls i ∧ i < B.nk ∧ B.fok i f = true) ∧ rGet f ns ds M Q) := rfl
@[simp ↓] theorem fld_ins {B : WB} {f i C ns ds} {a : Addr} : rFld B f (.ref a) (put M a (.ins i C ns ds)) Q = ((C = B.kls i ∧ i < B.nk ∧ B.fok i f = true) ∧ rGet f ns ds (put M a (.ins i C ns ds)) Q) := by
  simp [rFld, put_same]
@[simp ↓] theorem get_cons {f n ns d ds} : rGet f (n :: ns) (d :: ds) M Q = if n = f then Q d M else rGet f ns ds M Q := by
  unfold rGet
  rw [lookN]
  by_cases h : n = f
  · rw [if_pos h, if_pos h]
  · rw [if_neg h, if_neg h]
@[simp ↓] theorem mth_obj {B : WB} {m i C ns ds} {R : Nat → Prop} : rMth B m (.obj i C ns ds) M R = ((C = B.kls i ∧ i < B.nk ∧ lookN m ns ds = none) ∧ rHas (B.mth i m) R) := rfl
@[simp ↓] theorem mth_ins {B : WB} {m i C ns ds} {a : Addr} {R : Nat → Prop} : rMth B m (.ref a) (put M a (.ins i C ns ds)) R = ((C = B.kls i ∧ i < B.nk ∧ lookN m ns ds = none) ∧ rHas (B.mth i m) R) := by
  simp [rMth, put_same]
@[simp] theorem lookN_nil {f : Nat} {ds : List D} : lookN f [] ds = none := by unfold lookN; rfl
@[simp] theorem lookN_cons {f n : Nat} {ns : List Nat} {d : D} {ds : List D} : lookN f (n :: ns) (d :: ds) = if n = f then some d else lookN f ns ds := by rw [lookN]
@[simp ↓] theorem isk_obj {B : WB} {j i C ns ds} : isKT B j (.obj i C ns ds) M Q = ((C = B.kls i ∧ i < B.nk ∧ j < B.nk) ∧ Q (.bl (B.ksub i j)) M) := rfl
@[simp] theorem putN1_nil {f : Nat} : putN1 f [] = [f] := rfl
@[simp] theorem putN1_cons {f n : Nat} {ns : List Nat} : putN1 f (n :: ns) = if n = f then n :: ns else n :: putN1 f ns := rfl
@[simp] theorem putN2_nil {f : Nat} {y : D} {ds : List D} : putN2 f y [] ds = [y] := by unfold putN2; rfl
@[simp] theorem putN2_cons {f n : Nat} {ns : List Nat} {y d : D} {ds : List D} : putN2 f y (n :: ns) (d :: ds) = if n = f then y :: ds else d :: putN2 f y ns ds := by rw [putN2]
@[simp ↓] theorem frz_lst {a : Addr} {ds} (h : M a = none) : frzX Q (.ref a) (put M a (.lst ds)) = Q (.rol ds) M := by
  simp only [frzX, put_same, del_put h]
@[simp ↓] theorem frz_ins {a : Addr} {i C ns ds} (h : M a = none) : frzX Q (.ref a) (put M a (.ins i C ns ds)) = frzF ds M (fun r M' => Q (.obj i C ns r) M') := by
  simp only [frzX, put_same, del_put h]
@[simp ↓] theorem frzF_nil {R : List D → MH → Prop} : frzF [] M R = R [] M := rfl
@[simp ↓] theorem frzF_int {i ds} {R : List D → MH → Prop} : frzF (.int i :: ds) M R = frzF ds M (fun r M' => R (.int i :: r) M') := rfl
@[simp ↓] theorem frzF_bl {i ds} {R : List D → MH → Prop} : frzF (.bl i :: ds) M R = frzF ds M (fun r M' => R (.bl i :: r) M') := rfl
@[simp ↓] theorem frzF_non {ds} {R : List D → MH → Prop} : frzF (.non :: ds) M R = frzF ds M (fun r M' => R (.non :: r) M') := rfl
@[simp ↓] theorem frzF_str {i ds} {R : List D → MH → Prop} : frzF (.str i :: ds) M R = frzF ds M (fun r M' => R (.str i :: r) M') := rfl
@[simp ↓] theorem frzF_tup {i ds} {R : List D → MH → Prop} : frzF (.tup i :: ds) M R = frzF ds M (fun r M' => R (.tup i :: r) M') := rfl
@[simp ↓] theorem frzF_rol {i ds} {R : List D → MH → Prop} : frzF (.rol i :: ds) M R = frzF ds M (fun r M' => R (.rol i :: r) M') := rfl
@[simp ↓] theorem sl_tup' {fz ds lo hi} : rSl3 fz (.tup ds) lo hi M Q = (whole ds.length lo hi = false ∧ Q (.tup (cutD ds lo hi)) M) := rfl
@[simp ↓] theorem sl_str' {fz z lo hi} : rSl3 fz (.str z) lo hi M Q = (z.length ≤ sizeLine ∧ Q (.str (Txt.slice z lo hi)) M) := rfl
@[simp ↓] theorem sl_rol' {ds lo hi} : rSl3 true (.rol ds) lo hi M Q = ((cutD ds lo hi).length ≤ sizeLine ∧ Q (.rol (cutD ds lo hi)) M) := rfl
@[simp ↓] theorem cat_tup {fz a b} : rCat3 fz (.tup a) (.tup b) M Q = ((a.isEmpty = false ∧ a.length + b.length ≤ sizeLine) ∧ Q (.tup (a ++ b)) M) := rfl
@[simp ↓] theorem bin_tup {a b} : rBin .Add (.tup a) (.tup b) M Q = ((a.isEmpty = false ∧ a.length + b.length ≤ sizeLine) ∧ Q (.tup (a ++ b)) M) := rfl
@[simp ↓] theorem add_tup {a b} : rAddD (.tup a) (.tup b) M Q = ((a.isEmpty = false ∧ a.length + b.length ≤ sizeLine) ∧ Q (.tup (a ++ b)) M) := rfl
@[simp] theorem tyB_clear {x} : tyB .clear x M = isLstM x M := rfl
@[simp] theorem tyB_extend {x} : tyB .extend x M = isLstM x M := rfl
theorem bm_clear {a : Addr} {ds} (h : M a = some (.lst ds)) : rBm .clear (.ref a) [] M Q = Q .non (put M a (.lst [])) := by simp [rBm, h]
@[simp ↓] theorem dct_put {p : Addr} {i : Int} {y : D} : rDct p (.int i) y (put M p (.dk [] [])) Q = Q (.ref p) (put M p (.dk [.inl i] [y])) := by
  simp [rDct, put_same, put_put]
@[simp ↓] theorem isb_dk {t} {p : Addr} {ks ds} : isBT t (.ref p) (put M p (.dk ks ds)) Q = Q (.bl (match t with | .dict => true | _ => false)) (put M p (.dk ks ds)) := by
  cases t <;> simp [isBT, put_same]
@[simp ↓] theorem is_exc_put {ne : Nat} {cls : Nat → Addr} {r : Nat → Bool} {a : Addr} {c : Nat} {pl : Option (Nat × D)} : isCT ne cls r (.ref a) (put M a (.exc ⟨c, pl⟩ (.ref (cls c)))) Q = (c < ne ∧ Q (.bl (r c)) (put M a (.exc ⟨c, pl⟩ (.ref (cls c))))) := by
  simp [isCT, put_same]
@[simp ↓] theorem h_nil {i De} : wpH W .nil i De σ M = False := rfl
@[simp ↓] theorem h_cons0 {c body r i De} : wpH W (.cons c none body r) i De σ M = (i.c < W.ne ∧ if W.sub i.c c = true then wpSs W body De (fun _ _ _ => False) σ M else wpH W r i De σ M) := rfl
@[simp ↓] theorem h_cons1 {c j body r i De} : wpH W (.cons c (some j) body r) i De σ M = (i.c < W.ne ∧ if W.sub i.c c = true then (∀ a, M a = none → wpSs W body (goes3 De j) (fun _ _ _ => False) (σ.set j (some (.ref a))) (put M a (.exc i (.ref (W.cls i.c))))) else wpH W r i De σ M) := rfl
@[simp ↓] theorem rev_rol {ds} : rRev true (.rol ds) M Q = (ds.reverse.length ≤ sizeLine ∧ Q (.rol ds.reverse) M) := rfl
noncomputable def compI (W : WC) (tg : ITg) (cond : ITO) (elt : IE) (S : MH → Prop) (p : Addr) (Q : VK3) : List D → List D → St3 → MH → Prop := wpComp (wpG tg) (fun σ M Q => wpTO W cond σ M Q (fun _ _ => False)) (fun σ M Q => wpE W elt σ M Q (fun _ _ => False)) S p Q
noncomputable def compG (W : WC) (tg : ITg) (cond : ITO) (elt : IE) (S : MH → Prop) (Q : VK3) (ds : List D) (σ : St3) (M : MH) : Prop := ∀ p, M p = none → compI W tg cond elt S p (frzQ Q) ds [] σ (put M p (.lst []))
@[simp ↓] theorem r_compT {N js tg it cond elt} : wpE W (.comp true N js tg it cond elt) σ M Q E = wpI W it σ M (fun ds S M1 => compG W tg cond elt S Q ds (compSt3 js σ) M1) E := rfl
@[simp ↓] theorem r_compF {N js tg it cond elt} : wpE W (.comp false N js tg it cond elt) σ M Q E = wpI W it σ M (fun ds S M1 => ∀ p, M1 p = none → compI W tg cond elt S p Q ds [] (compSt3 js σ) (put M1 p (.lst []))) E := rfl
variable {QB : Bool → MH → Prop}
@[simp ↓] theorem tt_val {e} : wpT W (.val e) σ M QB E = wpE W e σ M (fun x M1 => match x with
    | .bl k => QB k M1
    | _ => False) E := rfl
@[simp ↓] theorem tt_cmp {op a b} : wpT W (.cmp op a b) σ M QB E = wpE W a σ M (fun x M1 => wpE W b σ M1 (fun y M2 => rCmp op x y M2 fun r M3 => match r with
    | .bl k => QB k M3
    | _ => False) E) E := rfl
@[simp ↓] theorem tt_chain3 {op op' op'' a b c d} : wpT W (.chain3 op op' op'' a b c d) σ M QB E = wpE W a σ M (fun x M1 => wpE W b σ M1 (fun y M2 => rCmp op x y M2 fun r M3 => match r with
    | .bl k => if k = true then wpE W c σ M3 (fun z M4 => rCmp op' y z M4 fun r M5 => match r with
      | .bl k => if k = true then wpE W d σ M5 (fun u M6 => rCmp op'' z u M6 fun r M7 => match r with
        | .bl k => QB k M7
        | _ => False) E else QB false M5
      | _ => False) E else QB false M3
    | _ => False) E) E := rfl
@[simp ↓] theorem tt_chain {op op' a b c} : wpT W (.chain op op' a b c) σ M QB E = wpE W a σ M (fun x M1 => wpE W b σ M1 (fun y M2 => rCmp op x y M2 fun r M3 => match r with
    | .bl k => if k = true then wpE W c σ M3 (fun z M4 => rCmp op' y z M4 fun r M5 => match r with
      | .bl k => QB k M5
      | _ => False) E else QB false M3
    | _ => False) E) E := rfl
@[simp ↓] theorem tt_and {a b} : wpT W (.and a b) σ M QB E = wpT W a σ M (fun c M1 => if c = true then wpT W b σ M1 QB E else QB false M1) E := rfl
@[simp ↓] theorem tt_or {a b} : wpT W (.or a b) σ M QB E = wpT W a σ M (fun c M1 => if c = true then QB true M1 else wpT W b σ M1 QB E) E := rfl
@[simp ↓] theorem tt_not {a} : wpT W (.not a) σ M QB E = wpT W a σ M (fun c M1 => QB (!c) M1) E := rfl
variable {QL : List D → MH → Prop}
@[simp ↓] theorem a_nil' : wpA W .nil σ M QL E = QL [] M := rfl
@[simp ↓] theorem a_cons' {e r} : wpA W (.cons e r) σ M QL E = wpE W e σ M (fun x M1 => wpA W r σ M1 (fun xs M2 => QL (x :: xs) M2) E) E := rfl
variable {QO : Option Int → MH → Prop}
@[simp ↓] theorem o_no' : wpO W .no σ M QO E = QO none M := rfl
@[simp ↓] theorem o_yes' {e} : wpO W (.yes e) σ M QO E = wpE W e σ M (fun x M1 => match x with
    | .int i => QO (some i) M1
    | _ => False) E := rfl
@[simp ↓] theorem to_no : wpTO W .no σ M QB E = QB true M := rfl
@[simp ↓] theorem to_yes {e} : wpTO W (.yes e) σ M QB E = wpT W e σ M QB E := rfl
variable {R : List D → (MH → Prop) → MH → Prop}
noncomputable def walkQ (R : List D → (MH → Prop) → MH → Prop) : VK3 := fun x M1 => match x with
    | .tup ds => R ds (fun _ => True) M1
    | .rol ds => R ds (fun _ => True) M1
    | .ref a => match M1 a with
      | some (.lst ds) => R ds (fun M => M a = some (.lst ds)) M1
      | _ => False
    | .str z => R (chars z) (fun _ => True) M1
    | _ => False
@[simp ↓] theorem walk_str {z} : walkQ R (.str z) M = R (chars z) (fun _ => True) M := rfl
@[simp ↓] theorem walk_tup {ds} : walkQ R (.tup ds) M = R ds (fun _ => True) M := rfl
@[simp ↓] theorem walk_rol {ds} : walkQ R (.rol ds) M = R ds (fun _ => True) M := rfl
theorem walk_ref {a ds} (h : M a = some (.lst ds)) : walkQ R (.ref a) M = R ds (fun M => M a = some (.lst ds)) M := by
  unfold walkQ; simp only [h]
@[simp ↓] theorem i_seq' {e} : wpI W (.seq e) σ M R E = wpE W e σ M (walkQ R) E := rfl
@[simp ↓] theorem i_rng1' {a} : wpI W (.rng1 a) σ M R E = wpE W a σ M (fun x M1 => match x with
    | .int j => -(2 ^ 62) ≤ j ∧ j < 2 ^ 62 ∧ R (rng 0 j.toNat) (fun _ => True) M1
    | _ => False) E := rfl
end
section
variable {W : WC} {σ : St3} {M : MH} {De : Ends3} {ES : St3 → XN} {x : Option D}
@[simp ↓] theorem q_nil' : wpSs W .nil De ES σ M = De.nx σ M := rfl
@[simp ↓] theorem q_cons' {s r} : wpSs W (.cons s r) De ES (x :: σ) M = wpS W s { De with nx := fun σ' M' => wpSs W r De ES σ' M' } ES (x :: σ) M := rfl
@[simp ↓] theorem q_cons0 {s r} : wpSs W (.cons s r) De ES [] M = wpS W s { De with nx := fun σ' M' => wpSs W r De ES σ' M' } ES [] M := rfl
@[simp ↓] theorem q_set0 {z0 : Option D} {e} : wpS W (.set 0 e) De ES (x :: σ) M = wpE W e (x :: σ) M (fun v M1 => De.nx (some v :: σ) M1) (ES (x :: σ)) := rfl
@[simp ↓] theorem q_set1 {y0 : Option D} {e} : wpS W (.set 1 e) De ES (y0 :: x :: σ) M = wpE W e (y0 :: x :: σ) M (fun v M1 => De.nx (y0 :: some v :: σ) M1) (ES (y0 :: x :: σ)) := rfl
@[simp ↓] theorem q_set2 {y0 y1 : Option D} {e} : wpS W (.set 2 e) De ES (y0 :: y1 :: x :: σ) M = wpE W e (y0 :: y1 :: x :: σ) M (fun v M1 => De.nx (y0 :: y1 :: some v :: σ) M1) (ES (y0 :: y1 :: x :: σ)) := rfl
@[simp ↓] theorem q_set3 {y0 y1 y2 : Option D} {e} : wpS W (.set 3 e) De ES (y0 :: y1 :: y2 :: x :: σ) M = wpE W e (y0 :: y1 :: y2 :: x :: σ) M (fun v M1 => De.nx (y0 :: y1 :: y2 :: some v :: σ) M1) (ES (y0 :: y1 :: y2 :: x :: σ)) := rfl
@[simp ↓] theorem q_set4 {y0 y1 y2 y3 : Option D} {e} : wpS W (.set 4 e) De ES (y0 :: y1 :: y2 :: y3 :: x :: σ) M = wpE W e (y0 :: y1 :: y2 :: y3 :: x :: σ) M (fun v M1 => De.nx (y0 :: y1 :: y2 :: y3 :: some v :: σ) M1) (ES (y0 :: y1 :: y2 :: y3 :: x :: σ)) := rfl
@[simp ↓] theorem q_set5 {y0 y1 y2 y3 y4 : Option D} {e} : wpS W (.set 5 e) De ES (y0 :: y1 :: y2 :: y3 :: y4 :: x :: σ) M = wpE W e (y0 :: y1 :: y2 :: y3 :: y4 :: x :: σ) M (fun v M1 => De.nx (y0 :: y1 :: y2 :: y3 :: y4 :: some v :: σ) M1) (ES (y0 :: y1 :: y2 :: y3 :: y4 :: x :: σ)) := rfl
@[simp ↓] theorem q_set6 {y0 y1 y2 y3 y4 y5 : Option D} {e} : wpS W (.set 6 e) De ES (y0 :: y1 :: y2 :: y3 :: y4 :: y5 :: x :: σ) M = wpE W e (y0 :: y1 :: y2 :: y3 :: y4 :: y5 :: x :: σ) M (fun v M1 => De.nx (y0 :: y1 :: y2 :: y3 :: y4 :: y5 :: some v :: σ) M1) (ES (y0 :: y1 :: y2 :: y3 :: y4 :: y5 :: x :: σ)) := rfl
@[simp ↓] theorem q_set7 {y0 y1 y2 y3 y4 y5 y6 : Option D} {e} : wpS W (.set 7 e) De ES (y0 :: y1 :: y2 :: y3 :: y4 :: y5 :: y6 :: x :: σ) M = wpE W e (y0 :: y1 :: y2 :: y3 :: y4 :: y5 :: y6 :: x :: σ) M (fun v M1 => De.nx (y0 :: y1 :: y2 :: y3 :: y4 :: y5 :: y6 :: some v :: σ) M1) (ES (y0 :: y1 :: y2 :: y3 :: y4 :: y5 :: y6 :: x :: σ)) := rfl
@[simp ↓] theorem q_set8 {y0 y1 y2 y3 y4 y5 y6 y7 : Option D} {e} : wpS W (.set 8 e) De ES (y0 :: y1 :: y2 :: y3 :: y4 :: y5 :: y6 :: y7 :: x :: σ) M = wpE W e (y0 :: y1 :: y2 :: y3 :: y4 :: y5 :: y6 :: y7 :: x :: σ) M (fun v M1 => De.nx (y0 :: y1 :: y2 :: y3 :: y4 :: y5 :: y6 :: y7 :: some v :: σ) M1) (ES (y0 :: y1 :: y2 :: y3 :: y4 :: y5 :: y6 :: y7 :: x :: σ)) := rfl
@[simp ↓] theorem q_set9 {y0 y1 y2 y3 y4 y5 y6 y7 y8 : Option D} {e} : wpS W (.set 9 e) De ES (y0 :: y1 :: y2 :: y3 :: y4 :: y5 :: y6 :: y7 :: y8 :: x :: σ) M = wpE W e (y0 :: y1 :: y2 :: y3 :: y4 :: y5 :: y6 :: y7 :: y8 :: x :: σ) M (fun v M1 => De.nx (y0 :: y1 :: y2 :: y3 :: y4 :: y5 :: y6 :: y7 :: y8 :: some v :: σ) M1) (ES (y0 :: y1 :: y2 :: y3 :: y4 :: y5 :: y6 :: y7 :: y8 :: x :: σ)) := rfl
@[simp ↓] theorem q_set10 {y0 y1 y2 y3 y4 y5 y6 y7 y8 y9 : Option D} {e} : wpS W (.set 10 e) De ES (y0 :: y1 :: y2 :: y3 :: y4 :: y5 :: y6 :: y7 :: y8 :: y9 :: x :: σ) M = wpE W e (y0 :: y1 :: y2 :: y3 :: y4 :: y5 :: y6 :: y7 :: y8 :: y9 :: x :: σ) M (fun v M1 => De.nx (y0 :: y1 :: y2 :: y3 :: y4 :: y5 :: y6 :: y7 :: y8 :: y9 :: some v :: σ) M1) (ES (y0 :: y1 :: y2 :: y3 :: y4 :: y5 :: y6 :: y7 :: y8 :: y9 :: x :: σ)) := rfl
@[simp ↓] theorem q_set11 {y0 y1 y2 y3 y4 y5 y6 y7 y8 y9 y10 : Option D} {e} : wpS W (.set 11 e) De ES (y0 :: y1 :: y2 :: y3 :: y4 :: y5 :: y6 :: y7 :: y8 :: y9 :: y10 :: x :: σ) M = wpE W e (y0 :: y1 :: y2 :: y3 :: y4 :: y5 :: y6 :: y7 :: y8 :: y9 :: y10 :: x :: σ) M (fun v M1 => De.nx (y0 :: y1 :: y2 :: y3 :: y4 :: y5 :: y6 :: y7 :: y8 :: y9 :: y10 :: some v :: σ) M1) (ES (y0 :: y1 :: y2 :: y3 :: y4 :: y5 :: y6 :: y7 :: y8 :: y9 :: y10 :: x :: σ)) := rfl
@[simp ↓] theorem q_set12 {y0 y1 y2 y3 y4 y5 y6 y7 y8 y9 y10 y11 : Option D} {e} : wpS W (.set 12 e) De ES (y0 :: y1 :: y2 :: y3 :: y4 :: y5 :: y6 :: y7 :: y8 :: y9 :: y10 :: y11 :: x :: σ) M = wpE W e (y0 :: y1 :: y2 :: y3 :: y4 :: y5 :: y6 :: y7 :: y8 :: y9 :: y10 :: y11 :: x :: σ) M (fun v M1 => De.nx (y0 :: y1 :: y2 :: y3 :: y4 :: y5 :: y6 :: y7 :: y8 :: y9 :: y10 :: y11 :: some v :: σ) M1) (ES (y0 :: y1 :: y2 :: y3 :: y4 :: y5 :: y6 :: y7 :: y8 :: y9 :: y10 :: y11 :: x :: σ)) := rfl
@[simp ↓] theorem q_set13 {y0 y1 y2 y3 y4 y5 y6 y7 y8 y9 y10 y11 y12 : Option D} {e} : wpS W (.set 13 e) De ES (y0 :: y1 :: y2 :: y3 :: y4 :: y5 :: y6 :: y7 :: y8 :: y9 :: y10 :: y11 :: y12 :: x :: σ) M = wpE W e (y0 :: y1 :: y2 :: y3 :: y4 :: y5 :: y6 :: y7 :: y8 :: y9 :: y10 :: y11 :: y12 :: x :: σ) M (fun v M1 => De.nx (y0 :: y1 :: y2 :: y3 :: y4 :: y5 :: y6 :: y7 :: y8 :: y9 :: y10 :: y11 :: y12 :: some v :: σ) M1) (ES (y0 :: y1 :: y2 :: y3 :: y4 :: y5 :: y6 :: y7 :: y8 :: y9 :: y10 :: y11 :: y12 :: x :: σ)) := rfl
@[simp ↓] theorem q_del0 {z0 : Option D} {a : Addr} : wpS W (.del 0) De ES (some (.ref a) :: σ) M = De.nx (some (.ref a) :: σ) (L2.del M a) := rfl
@[simp ↓] theorem q_del1 {y0 : Option D} {a : Addr} : wpS W (.del 1) De ES (y0 :: some (.ref a) :: σ) M = De.nx (y0 :: some (.ref a) :: σ) (L2.del M a) := rfl
@[simp ↓] theorem q_del2 {y0 y1 : Option D} {a : Addr} : wpS W (.del 2) De ES (y0 :: y1 :: some (.ref a) :: σ) M = De.nx (y0 :: y1 :: some (.ref a) :: σ) (L2.del M a) := rfl
@[simp ↓] theorem q_del3 {y0 y1 y2 : Option D} {a : Addr} : wpS W (.del 3) De ES (y0 :: y1 :: y2 :: some (.ref a) :: σ) M = De.nx (y0 :: y1 :: y2 :: some (.ref a) :: σ) (L2.del M a) := rfl
@[simp ↓] theorem q_del4 {y0 y1 y2 y3 : Option D} {a : Addr} : wpS W (.del 4) De ES (y0 :: y1 :: y2 :: y3 :: some (.ref a) :: σ) M = De.nx (y0 :: y1 :: y2 :: y3 :: some (.ref a) :: σ) (L2.del M a) := rfl
@[simp ↓] theorem q_del5 {y0 y1 y2 y3 y4 : Option D} {a : Addr} : wpS W (.del 5) De ES (y0 :: y1 :: y2 :: y3 :: y4 :: some (.ref a) :: σ) M = De.nx (y0 :: y1 :: y2 :: y3 :: y4 :: some (.ref a) :: σ) (L2.del M a) := rfl
@[simp ↓] theorem q_del6 {y0 y1 y2 y3 y4 y5 : Option D} {a : Addr} : wpS W (.del 6) De ES (y0 :: y1 :: y2 :: y3 :: y4 :: y5 :: some (.ref a) :: σ) M = De.nx (y0 :: y1 :: y2 :: y3 :: y4 :: y5 :: some (.ref a) :: σ) (L2.del M a) := rfl
@[simp ↓] theorem q_del7 {y0 y1 y2 y3 y4 y5 y6 : Option D} {a : Addr} : wpS W (.del 7) De ES (y0 :: y1 :: y2 :: y3 :: y4 :: y5 :: y6 :: some (.ref a) :: σ) M = De.nx (y0 :: y1 :: y2 :: y3 :: y4 :: y5 :: y6 :: some (.ref a) :: σ) (L2.del M a) := rfl
@[simp ↓] theorem q_del8 {y0 y1 y2 y3 y4 y5 y6 y7 : Option D} {a : Addr} : wpS W (.del 8) De ES (y0 :: y1 :: y2 :: y3 :: y4 :: y5 :: y6 :: y7 :: some (.ref a) :: σ) M = De.nx (y0 :: y1 :: y2 :: y3 :: y4 :: y5 :: y6 :: y7 :: some (.ref a) :: σ) (L2.del M a) := rfl
@[simp ↓] theorem q_del9 {y0 y1 y2 y3 y4 y5 y6 y7 y8 : Option D} {a : Addr} : wpS W (.del 9) De ES (y0 :: y1 :: y2 :: y3 :: y4 :: y5 :: y6 :: y7 :: y8 :: some (.ref a) :: σ) M = De.nx (y0 :: y1 :: y2 :: y3 :: y4 :: y5 :: y6 :: y7 :: y8 :: some (.ref a) :: σ) (L2.del M a) := rfl
@[simp ↓] theorem q_del10 {y0 y1 y2 y3 y4 y5 y6 y7 y8 y9 : Option D} {a : Addr} : wpS W (.del 10) De ES (y0 :: y1 :: y2 :: y3 :: y4 :: y5 :: y6 :: y7 :: y8 :: y9 :: some (.ref a) :: σ) M = De.nx (y0 :: y1 :: y2 :: y3 :: y4 :: y5 :: y6 :: y7 :: y8 :: y9 :: some (.ref a) :: σ) (L2.del M a) := rfl
@[simp ↓] theorem q_del11 {y0 y1 y2 y3 y4 y5 y6 y7 y8 y9 y10 : Option D} {a : Addr} : wpS W (.del 11) De ES (y0 :: y1 :: y2 :: y3 :: y4 :: y5 :: y6 :: y7 :: y8 :: y9 :: y10 :: some (.ref a) :: σ) M = De.nx (y0 :: y1 :: y2 :: y3 :: y4 :: y5 :: y6 :: y7 :: y8 :: y9 :: y10 :: some (.ref a) :: σ) (L2.del M a) := rfl
@[simp ↓] theorem q_del12 {y0 y1 y2 y3 y4 y5 y6 y7 y8 y9 y10 y11 : Option D} {a : Addr} : wpS W (.del 12) De ES (y0 :: y1 :: y2 :: y3 :: y4 :: y5 :: y6 :: y7 :: y8 :: y9 :: y10 :: y11 :: some (.ref a) :: σ) M = De.nx (y0 :: y1 :: y2 :: y3 :: y4 :: y5 :: y6 :: y7 :: y8 :: y9 :: y10 :: y11 :: some (.ref a) :: σ) (L2.del M a) := rfl
@[simp ↓] theorem q_del13 {y0 y1 y2 y3 y4 y5 y6 y7 y8 y9 y10 y11 y12 : Option D} {a : Addr} : wpS W (.del 13) De ES (y0 :: y1 :: y2 :: y3 :: y4 :: y5 :: y6 :: y7 :: y8 :: y9 :: y10 :: y11 :: y12 :: some (.ref a) :: σ) M = De.nx (y0 :: y1 :: y2 :: y3 :: y4 :: y5 :: y6 :: y7 :: y8 :: y9 :: y10 :: y11 :: y12 :: some (.ref a) :: σ) (L2.del M a) := rfl
@[simp ↓] theorem goes_nx {j} : (goes3 De j).nx σ M = De.nx (σ.set j none) M := rfl
@[simp ↓] theorem goes_rt {j v} : (goes3 De j).rt v M = De.rt v M := rfl
@[simp ↓] theorem goes_nx' {j} : (goes3 De j).nx = fun σ M => De.nx (σ.set j none) M := rfl
@[simp ↓] theorem goes_rt' {j} : (goes3 De j).rt = De.rt := rfl
noncomputable def fset1 (B : WB) (f : Nat) (y : D) (R : MH → Prop) : VK3 := fun x M2 => match x with
    | .ref a => match M2 a with
      | some (.ins i C ns ds) => (C = B.kls i ∧ i < B.nk ∧ B.fok i f = true ∧ ns.length < 1000) ∧ R (put M2 a (.ins i C (putN1 f ns) (putN2 f y ns ds)))
      | _ => False
    | _ => False
@[simp ↓] theorem fset_put {B : WB} {f : Nat} {y : D} {R : MH → Prop} {a : Addr} {i C ns ds} : fset1 B f y R (.ref a) (put M a (.ins i C ns ds)) = ((C = B.kls i ∧ i < B.nk ∧ B.fok i f = true ∧ ns.length < 1000) ∧ R (put M a (.ins i C (putN1 f ns) (putN2 f y ns ds)))) := by
  simp [fset1, put_same, put_put]
noncomputable def unpQ (is : List Nat) (σ : St3) (k : St3 → MH → Prop) : VK3 := fun x M1 => match x with
    | .tup ds => ds.length = is.length ∧ k ((is.zip ds).foldl (fun σ p => σ.set p.1 (some p.2)) σ) M1
    | _ => False
@[simp ↓] theorem unp_two {i j a b k} : unpQ [i, j] σ k (.tup [a, b]) M = k ((σ.set i (some a)).set j (some b)) M := by
  simp [unpQ]
@[simp ↓] theorem q_expr' {e} : wpS W (.expr e) De ES σ M = wpE W e σ M (fun _ M1 => De.nx σ M1) (ES σ) := rfl
@[simp ↓] theorem q_ret' {e} : wpS W (.ret e) De ES σ M = wpE W e σ M De.rt (ES σ) := rfl
@[simp ↓] theorem q_ifs' {c a b} : wpS W (.ifs c a b) De ES σ M = wpT W c σ M (fun k M1 => if k = true then wpSs W a De ES σ M1 else wpSs W b De ES σ M1) (ES σ) := rfl
noncomputable def forI (W : WC) (tg : ITg) (body : ISs) (ES : St3 → XN) (S : MH → Prop) (De : Ends3) : List D → St3 → MH → Prop := wpFor (wpG tg) (fun D σ M => wpSs W body D ES σ M) S De
@[simp ↓] theorem q_for' {tg it body} : wpS W (.for_ tg it body) De ES σ M = wpI W it σ M (fun ds S M1 => forI W tg body ES S De ds σ M1) (ES σ) := rfl
theorem for_nil {tg body S} : forI W tg body ES S De [] σ M = (S M ∧ De.nx σ M) := rfl
theorem for_cons {tg body S d r} : forI W tg body ES S De (d :: r) σ M = (S M ∧ wpG tg d σ M fun σ2 M2 => wpSs W body { De with nx := forI W tg body ES S De r, ct := forI W tg body ES S De r, bk := De.nx } ES σ2 M2) := rfl
@[simp ↓] theorem q_raise' {c es} : wpS W (.raise c es) De ES σ M = wpA W es σ M (fun xs M1 => xs.length ≤ sizeLine ∧ ES σ ⟨c, none⟩ M1) (ES σ) := rfl
@[simp ↓] theorem q_try' {body hs} : wpS W (.try_ body hs) De ES σ M = wpSs W body De (fun σ' i M' => wpH W hs i De σ' M') σ M := rfl
noncomputable def appQ (W : WC) (e : IE) (De : Ends3) (E : XN) (σ : St3) : VK3 := fun x M1 => match x with
    | .ref a => match M1 a with
      | some (.lst _) => wpE W e σ M1 (fun y M2 => match M2 a with
        | some (.lst ds) => ds.length < sizeLine ∧ De.nx σ (put M2 a (.lst (ds ++ [y])))
        | _ => False) E
      | _ => False
    | _ => False
@[simp ↓] theorem q_app' {o e} : wpS W (.app o e) De ES σ M = wpE W o σ M (appQ W e De (ES σ) σ) (ES σ) := rfl
noncomputable def appQ2 (p : Addr) (De : Ends3) (σ : St3) : VK3 := fun y M2 => match M2 p with
        | some (.lst ds) => ds.length < sizeLine ∧ De.nx σ (put M2 p (.lst (ds ++ [y])))
        | _ => False
@[simp ↓] theorem app_put {e E p ds} : appQ W e De E σ (.ref p) (put M p (.lst ds)) = wpE W e σ (put M p (.lst ds)) (appQ2 p De σ) E := by
  unfold appQ; simp only [put_same]; rfl
@[simp ↓] theorem app2_put {p ds y} : appQ2 p De σ y (put M p (.lst ds)) = (ds.length < sizeLine ∧ De.nx σ (put M p (.lst (ds ++ [y])))) := by
  unfold appQ2; simp only [put_same, put_put]
@[simp ↓] theorem walk_put {R p ds} : walkQ R (.ref p) (put M p (.lst ds)) = R ds (fun M => M p = some (.lst ds)) (put M p (.lst ds)) := walk_ref put_same
@[simp ↓] theorem g_name' {i d k} : wpG (.name i) d σ M k = k (σ.set i (some d)) M := rfl
@[simp ↓] theorem g_tup' {is d k} : wpG (.tup is) d σ M k = unpQ is σ k d M := rfl
end
section
variable {M : MH} {Q : VK3} {i j : Int} {a b : Bool} {x y : D}
@[simp ↓] theorem b_add : rBin .Add (.int i) (.int j) M Q = Q (.int (i + j)) M := rfl
@[simp ↓] theorem b_sub : rBin .Sub (.int i) (.int j) M Q = Q (.int (i - j)) M := rfl
@[simp ↓] theorem b_mul : rBin .Mult (.int i) (.int j) M Q = (CMulB i j ∧ Q (.int (i * j)) M) := rfl
@[simp ↓] theorem b_div : rBin .FloorDiv (.int i) (.int j) M Q = (CDivB i j ∧ Q (.int (i / j)) M) := rfl
@[simp ↓] theorem b_mod : rBin .Mod (.int i) (.int j) M Q = (0 < j ∧ Q (.int (i % j)) M) := rfl
@[simp ↓] theorem b_pow : rBin .Pow (.int i) (.int j) M Q = (CPow i j ∧ Q (.int (i ^ j.toNat)) M) := rfl
@[simp ↓] theorem b_shr : rBin .RShift (.int i) (.int j) M Q = (0 ≤ j ∧ Q (.int (i / 2 ^ j.toNat)) M) := rfl
@[simp ↓] theorem b_and : rBin .BitAnd (.int i) (.int j) M Q = Q (.int (Builtin.bitAnd i j)) M := rfl
@[simp ↓] theorem b_adds {s t : Str} : rBin .Add (.str s) (.str t) M Q = (s.length + t.length ≤ sizeLine ∧ Q (.str (s ++ t)) M) := rfl
@[simp ↓] theorem b_muls {z : Str} : rBin .Mult (.str z) (.int j) M Q = ((0 ≤ j ∧ j ≤ 100000 ∧ z.length ≤ 10) ∧ Q (.str (strRep z j)) M) := rfl
@[simp ↓] theorem c_ins {s t : Str} : rCmp .In (.str s) (.str t) M Q = Q (.bl (strIn s t)) M := by simp [rCmp, rInD, seqOf, lstOf, dGet, asDk, asDt]
@[simp ↓] theorem c_nins {s t : Str} : rCmp .NotIn (.str s) (.str t) M Q = Q (.bl (!strIn s t)) M := by simp [rCmp, rInD, seqOf, lstOf, dGet, asDk, asDt]
@[simp ↓] theorem ix_s {s : Str} : rIx3 (.str s) (.int j) M Q = ((0 ≤ j ∧ j < s.length ∧ j < 2 ^ 63) ∧ Q (.str (chrAt s j.toNat)) M) := by simp [rIx3, seqOf, lstOf, dGet, asDk, asDt]
@[simp ↓] theorem bi_lenD {ks : List (List Int)} {ds : List D} : rBi .len [.dit ks ds] M Q = Q (.int ks.length) M := rfl
@[simp ↓] theorem bi_sortedL {fz x} : rBi (.sortedL fz) [x] M Q = (match lstOf M x with
      | some ds => match listsD ds with
        | some ls => sortLok ls = true ∧ newL fz ((sortLx ls).map fun i => ds.getD i .non) M Q
        | none => False
      | none => False) := rfl
@[simp ↓] theorem bi_lens {s : Str} : rBi .len [.str s] M Q = (s.length ≤ sizeLine ∧ Q (.int s.length) M) := rfl
@[simp ↓] theorem b_neg : rNeg (.int i) M Q = Q (.int (-i)) M := rfl
@[simp ↓] theorem c_lt : rCmp .Lt (.int i) (.int j) M Q = Q (.bl (decide (i < j))) M := rfl
@[simp ↓] theorem c_le : rCmp .LtE (.int i) (.int j) M Q = Q (.bl (decide (i ≤ j))) M := rfl
@[simp ↓] theorem c_gt : rCmp .Gt (.int i) (.int j) M Q = Q (.bl (decide (j < i))) M := rfl
@[simp ↓] theorem c_ge : rCmp .GtE (.int i) (.int j) M Q = Q (.bl (decide (j ≤ i))) M := rfl
@[simp ↓] theorem c_eqi : rCmp .Eq (.int i) (.int j) M Q = Q (.bl (decide (i = j))) M := by simp [rCmp, rEqD, rs, lstOf, plN, eqD]
@[simp ↓] theorem c_nei : rCmp .NotEq (.int i) (.int j) M Q = Q (.bl (!decide (i = j))) M := by simp [rCmp, rEqD, rs, lstOf, plN, eqD]
@[simp ↓] theorem c_eqb : rCmp .Eq (.bl a) (.bl b) M Q = Q (.bl (a == b)) M := by simp [rCmp, rEqD, rs, lstOf, plN, eqD]
@[simp ↓] theorem c_neb : rCmp .NotEq (.bl a) (.bl b) M Q = Q (.bl (!(a == b))) M := by simp [rCmp, rEqD, rs, lstOf, plN, eqD]
@[simp ↓] theorem c_nes {s t : Str} : rCmp .NotEq (.str s) (.str t) M Q = Q (.bl (!decide (s = t))) M := by simp [rCmp, rEqD, rs, lstOf, plN, eqD]
@[simp ↓] theorem c_eqs {s t : Str} : rCmp .Eq (.str s) (.str t) M Q = Q (.bl (decide (s = t))) M := by simp [rCmp, rEqD, rs, lstOf, plN, eqD]
@[simp ↓] theorem c_isN : rCmp .Is x .non M Q = Q (.bl x.isN) M := by simp [rCmp, rIsD]
@[simp ↓] theorem c_isNN : rCmp .IsNot x .non M Q = Q (.bl (!x.isN)) M := by simp [rCmp, rIsD]
@[simp ↓] theorem c_isB : rCmp .Is (.bl a) (.bl b) M Q = Q (.bl (a == b)) M := by simp [rCmp, rIsD]
@[simp ↓] theorem c_isnB : rCmp .IsNot (.bl a) (.bl b) M Q = Q (.bl (!(a == b))) M := by simp [rCmp, rIsD]
@[simp] theorem isN_int : (D.int i).isN = false := rfl
@[simp] theorem isN_non : D.non.isN = true := rfl
@[simp] theorem isN_tup {ds} : (D.tup ds).isN = false := rfl
@[simp] theorem isN_rol {ds} : (D.rol ds).isN = false := rfl
@[simp] theorem isN_bl : (D.bl a).isN = false := rfl
@[simp ↓] theorem ix_t0 {d l} : rIx3 (.tup (d :: l)) (.int 0) M Q = Q d M := by simp [rIx3, seqOf, atI0]
@[simp ↓] theorem ix_t1 {d e l} : rIx3 (.tup (d :: e :: l)) (.int 1) M Q = Q e M := by simp [rIx3, seqOf, atI1]
@[simp ↓] theorem ix_t2 {d e f l} : rIx3 (.tup (d :: e :: f :: l)) (.int 2) M Q = Q f M := by simp [rIx3, seqOf, atI2]
@[simp ↓] theorem ix_t3 {d e f g l} : rIx3 (.tup (d :: e :: f :: g :: l)) (.int 3) M Q = Q g M := by simp [rIx3, seqOf, atI3]
@[simp ↓] theorem ix_t4 {d e f g h l} : rIx3 (.tup (d :: e :: f :: g :: h :: l)) (.int 4) M Q = Q h M := by
  have : atI (d :: e :: f :: g :: h :: l) 4 = some h := atI_nat (j := 4) rfl
  simp [rIx3, seqOf, this]
theorem ix_ref {a : Addr} {ds y} (h : M a = some (.lst ds)) : rIx3 (.ref a) y M Q = rIx3 (.rol ds) y M Q := by
  cases y <;> simp [rIx3, seqOf, lstOf, h]
@[simp ↓] theorem ix_put {a : Addr} {ds y} : rIx3 (.ref a) y (put M a (.lst ds)) Q = rIx3 (.rol ds) y (put M a (.lst ds)) Q := ix_ref put_same
@[simp ↓] theorem cat_put {a : Addr} {fz ds es} : rCat3 fz (.ref a) (.rol es) (put M a (.lst ds)) Q = newL fz (ds ++ es) (put M a (.lst ds)) Q := by simp [rCat3, lstOf, put_same]
@[simp] theorem res_put {a : Addr} {ds} : res (put M a (.lst ds)) (.ref a) = .rol ds := by simp [res, lstOf, put_same]
@[simp ↓] theorem eq_put {a : Addr} {ds es} : rCmp .Eq (.ref a) (.rol es) (put M a (.lst ds)) Q = rCmp .Eq (.rol ds) (.rol es) (put M a (.lst ds)) Q := by
  simp [rCmp, rEqD, rs, lstOf, put_same]
@[simp ↓] theorem ne_put {a : Addr} {ds es} : rCmp .NotEq (.ref a) (.rol es) (put M a (.lst ds)) Q = rCmp .NotEq (.rol ds) (.rol es) (put M a (.lst ds)) Q := by
  simp [rCmp, rEqD, rs, lstOf, put_same]
@[simp ↓] theorem ix_r0 {d l} : rIx3 (.rol (d :: l)) (.int 0) M Q = Q d M := by simp [rIx3, seqOf, lstOf, atI0]
@[simp ↓] theorem ix_r1 {d e l} : rIx3 (.rol (d :: e :: l)) (.int 1) M Q = Q e M := by simp [rIx3, seqOf, lstOf, atI1]
@[simp ↓] theorem ix_r2 {d e f l} : rIx3 (.rol (d :: e :: f :: l)) (.int 2) M Q = Q f M := by simp [rIx3, seqOf, lstOf, atI2]
@[simp ↓] theorem ix_r3 {d e f g l} : rIx3 (.rol (d :: e :: f :: g :: l)) (.int 3) M Q = Q g M := by simp [rIx3, seqOf, lstOf, atI3]
@[simp ↓] theorem bi_lenT {ds} : rBi .len [.tup ds] M Q = Q (.int ds.length) M := rfl
@[simp ↓] theorem bi_lenR {ds} : rBi .len [.rol ds] M Q = Q (.int ds.length) M := rfl
@[simp ↓] theorem bi_min : rBi .min [.int i, .int j] M Q = Q (.int (if j < i then j else i)) M := rfl
@[simp ↓] theorem new_t {ds} : newL true ds M Q = (ds.length ≤ sizeLine ∧ Q (.rol ds) M) := by simp [newL]
@[simp ↓] theorem cat_rr {ds es} : rCat3 true (.rol ds) (.rol es) M Q = ((ds ++ es).length ≤ sizeLine ∧ Q (.rol (ds ++ es)) M) := by simp [rCat3, lstOf, newL]
@[simp ↓] theorem new_f {ds} : newL false ds M Q = (ds.length ≤ sizeLine ∧ ∀ p, M p = none → Q (.ref p) (put M p (.lst ds))) := by simp [newL]
@[simp ↓] theorem cat_rrF {ds es} : rCat3 false (.rol ds) (.rol es) M Q = ((ds ++ es).length ≤ sizeLine ∧ ∀ p, M p = none → Q (.ref p) (put M p (.lst (ds ++ es)))) := by simp [rCat3, lstOf, newL]
theorem sizeK {n : Nat} (h : n ≤ 1000) : (n ≤ sizeLine) = True := eq_true (Nat.le_trans h (by decide))
@[simp ↓] theorem mm_rol {mx dflt ds} : rMM mx dflt (.rol ds) M Q = (match intsD ds with
    | some [] => dflt = true ∧ Q .non M
    | some (n :: ns) => Q (.int (ns.foldl (mmI mx) n)) M
    | none => False) := rfl
@[simp ↓] theorem sl_r {ds l h} : rSl3 true (.rol ds) l h M Q = ((cutD ds l h).length ≤ sizeLine ∧ Q (.rol (cutD ds l h)) M) := by simp [rSl3, lstOf, newL]
@[simp ↓] theorem isb_int {t} : isBT t (.int i) M Q = Q (.bl (match t with | .int => true | _ => false)) M := rfl
@[simp ↓] theorem isb_bl {t} : isBT t (.bl a) M Q = Q (.bl (match t with | .int => true | .bool => true | _ => false)) M := rfl
@[simp ↓] theorem isb_non {t} : isBT t .non M Q = Q (.bl false) M := rfl
@[simp ↓] theorem isb_tup {t ds} : isBT t (.tup ds) M Q = Q (.bl (match t with | .tuple => true | _ => false)) M := rfl
@[simp ↓] theorem isb_rol {t ds} : isBT t (.rol ds) M Q = Q (.bl (match t with | .list => true | _ => false)) M := rfl
@[simp ↓] theorem isb_str {t} {s : Str} : isBT t (.str s) M Q = Q (.bl (match t with | .str => true | _ => false)) M := rfl
end
section
variable {W : WC} {tg : ITg} {cond : ITO} {elt : IE} {p : Addr} {Q : VK3} {σ : St3} {M : MH} {ys : List D}
@[simp ↓] theorem frz_put {ds} : frzQ Q (.ref p) (put M p (.lst ds)) = Q (.rol ds) (L2.del (put M p (.lst ds)) p) := by
  simp only [frzQ, put_same]
noncomputable def Fm (M : MH) : Prop := ∃ n, ∀ p, n ≤ p → M p = none
theorem Fm.nil : Fm (fun _ => none) := ⟨0, fun _ _ => rfl⟩
theorem fresh_imp {M : MH} (h : Fm M) {p : Prop} : (∀ a : Addr, M a = none → p) = p := propext ⟨fun f => let ⟨n, k⟩ := h; f n (k n (Nat.le_refl _)), fun f _ _ => f⟩
theorem Fm.put {M : MH} (h : Fm M) (p : Addr) (o : DO) : Fm (put M p o) := by
  obtain ⟨n, h⟩ := h
  refine ⟨max n (p + 1), fun q hq => ?_⟩
  rw [put_ne (Nat.ne_of_gt (Nat.lt_of_succ_le (Nat.le_trans (Nat.le_max_right n (p + 1)) hq)))]
  exact h q (Nat.le_trans (Nat.le_max_left _ _) hq)
theorem fresh_eq {M : MH} (hM : Fm M) {P : Addr → Prop} {q : Prop} (h : ∀ p, M p = none → P p = q) : (∀ p, M p = none → P p) = q := by
  rw [← fresh_imp hM (p := q)]
  exact forall_congr fun p => implies_congr_ctx rfl fun hp => h p hp
theorem at_ex {cs : List Int} {i : Int} (h1 : -(cs.length : Int) ≤ i) (h2 : i < cs.length) : ∃ x, atI (cs.map D.int) i = some (.int x) := by
  unfold atI ixN
  rw [List.length_map]
  by_cases h : 0 ≤ i
  · have hk : i.toNat < cs.length := by omega
    rw [if_pos h, if_pos h2]
    exact ⟨cs[i.toNat], by simp [List.getElem?_eq_getElem hk]⟩
  · have hk : (i + cs.length).toNat < cs.length := by omega
    rw [if_neg h, if_pos h1]
    exact ⟨cs[(i + cs.length).toNat], by simp [List.getElem?_eq_getElem hk]⟩
theorem ix_at {ds : List D} {i : Int} {x : D} {M : MH} {Q : VK3} (h : atI ds i = some x) : rIx3 (.rol ds) (.int i) M Q = Q x M := by simp [rIx3, seqOf, lstOf, h]
noncomputable def Ext (M M' : MH) : Prop := Fm M' ∧ ∀ a o, M a = some o → M' a = some o
theorem Ext.put {M : MH} (hM : Fm M) {p : Addr} (h : M p = none) (o : DO) : Ext M (put M p o) := ⟨hM.put _ _, fun a u e => by rw [put_ne (fun z => by rw [z, h] at e; cases e)]; exact e⟩
theorem Ext.refl {M : MH} (hM : Fm M) : Ext M M := ⟨hM, fun _ _ h => h⟩
section
variable {W : WC} {σ : St3} {M : MH} {Q : VK3} {tg : ITg} {cond : ITO} {elt : IE} {p : Addr} {S : MH → Prop}
theorem comp_nilS {ys : List D} (hp : M p = none) (hS : S (put M p (.lst ys))) : compI W tg cond elt S p (frzQ Q) [] ys σ (put M p (.lst ys)) = Q (.rol ys) M := by
  show (S (put M p (.lst ys)) ∧ frzQ Q (.ref p) (put M p (.lst ys))) = _
  simp [frzQ, put_same, hS, del_put hp]
theorem comp_consS {d : D} {r ys : List D} : compI W tg cond elt S p Q (d :: r) ys σ M = (S M ∧ ys.length < sizeLine ∧ wpG tg d σ M fun σ2 M2 => wpTO W cond σ2 M2 (fun b M3 => if b = true then wpE W elt σ2 M3 (fun y M4 => M4 p = some (.lst ys) ∧ compI W tg cond elt S p Q r (ys ++ [y]) σ2 (put M4 p (.lst (ys ++ [y])))) (fun _ _ => False) else compI W tg cond elt S p Q r ys σ2 M3) (fun _ _ => False)) := rfl
theorem comp_any (P : St3 → Prop) (st : D → St3) (c : D → Bool) (f : D → D) : ∀ (ds ys : List D) (σ : St3) {M : MH}, P σ → Fm M → M p = none → ys.length + ds.length < sizeLine → (∀ M', Ext M M' → S M') →
    (∀ d ∈ ds, P (st d) ∧ ∀ σ, P σ → ∀ (M : MH) (k : St3 → MH → Prop), wpG tg d σ M k = k (st d) M) →
    (∀ d ∈ ds, ∀ M', Ext M M' → ∀ Q : Bool → MH → Prop, wpTO W cond (st d) M' Q (fun _ _ => False) = Q (c d) M') →
    (∀ d ∈ ds, c d = true → ∀ M', Ext M M' → ∀ Q, wpE W elt (st d) M' Q (fun _ _ => False) = Q (f d) M') →
    compI W tg cond elt S p (frzQ Q) ds ys σ (put M p (.lst ys)) = Q (.rol (ys ++ (ds.filter c).map f)) M
  | [], ys, σ, M, h0, hM, hp, hl, hS, hg, hc, he => by rw [comp_nilS hp (hS _ (.put hM hp _))]; simp
  | d :: ds, ys, σ, M, h0, hM, hp, hl, hS, hg, hc, he => by
    have hl' : ys.length + (ds.length + 1) < sizeLine := hl
    obtain ⟨g1, g2⟩ := hg d List.mem_cons_self
    rw [comp_consS, g2 σ h0, hc d List.mem_cons_self _ (.put hM hp _), eq_true (hS _ (.put hM hp _)), true_and]
    cases q : c d with
    | true =>
      rw [if_pos rfl, he d List.mem_cons_self q _ (.put hM hp _), put_same, put_put]
      rw [comp_any P st c f ds (ys ++ [f d]) (st d) g1 hM hp (by rw [List.length_append, List.length_singleton]; omega) hS (fun e h => hg e (List.mem_cons_of_mem _ h)) (fun e h => hc e (List.mem_cons_of_mem _ h)) (fun e h => he e (List.mem_cons_of_mem _ h))]
      simp only [List.filter_cons, q, if_true, List.map_cons, List.append_assoc, List.singleton_append, true_and]
      rw [eq_true (show ys.length < sizeLine by omega), true_and]
    | false =>
      rw [if_neg Bool.false_ne_true]
      rw [comp_any P st c f ds ys (st d) g1 hM hp (by omega) hS (fun e h => hg e (List.mem_cons_of_mem _ h)) (fun e h => hc e (List.mem_cons_of_mem _ h)) (fun e h => he e (List.mem_cons_of_mem _ h))]
      simp only [List.filter_cons, q, Bool.false_eq_true, if_false]
      rw [eq_true (show ys.length < sizeLine by omega), true_and]
theorem compG_gen {ds : List D} (P : St3 → Prop) (st : D → St3) (c : D → Bool) (f : D → D) (h0 : P σ) (hM : Fm M) (hl : ds.length < 10000)
    (hg : ∀ d ∈ ds, P (st d) ∧ ∀ σ, P σ → ∀ (M : MH) (k : St3 → MH → Prop), wpG tg d σ M k = k (st d) M)
    (hc : ∀ d ∈ ds, ∀ M', Ext M M' → ∀ Q : Bool → MH → Prop, wpTO W cond (st d) M' Q (fun _ _ => False) = Q (c d) M')
    (he : ∀ d ∈ ds, c d = true → ∀ M', Ext M M' → ∀ Q, wpE W elt (st d) M' Q (fun _ _ => False) = Q (f d) M') (hS : ∀ M', Ext M M' → S M' := by exact fun _ _ => trivial) :
    compG W tg cond elt S Q ds σ M = Q (.rol ((ds.filter c).map f)) M := by
  have hl' : ([] : List D).length + ds.length < sizeLine := by rw [List.length_nil, Nat.zero_add]; exact Nat.lt_trans hl (by decide)
  exact fresh_eq hM fun p hp => by
    rw [comp_any P st c f ds [] σ h0 hM hp hl' hS hg hc he]
    simp
theorem compG_filter {rest : St3} {x : Option D} {ds : List D} (c : D → Bool) (f : D → D) (hM : Fm M) (hl : ds.length < 10000)
    (hc : ∀ d ∈ ds, ∀ M', Ext M M' → ∀ Q : Bool → MH → Prop, wpTO W cond (some d :: rest) M' Q (fun _ _ => False) = Q (c d) M')
    (he : ∀ d ∈ ds, c d = true → ∀ M', Ext M M' → ∀ Q, wpE W elt (some d :: rest) M' Q (fun _ _ => False) = Q (f d) M') (hS : ∀ M', Ext M M' → S M' := by exact fun _ _ => trivial) :
    compG W (.name 0) cond elt S Q ds (x :: rest) M = Q (.rol ((ds.filter c).map f)) M :=
  compG_gen (fun σ => ∃ y, σ = y :: rest) (fun d => some d :: rest) c f ⟨x, rfl⟩ hM hl (fun d _ => ⟨⟨_, rfl⟩, fun σ ⟨y, e⟩ M k => by subst e; rfl⟩) hc he hS
end
variable {body : ISs} {ES : St3 → XN} {De : Ends3}
end
end L2
set_option Elab.async false
set_option linter.all false
set_option maxRecDepth 100000
set_option maxHeartbeats 4000000
namespace L2
open PySem PySem.NumText PyProof.Rows StrLaws
end L2
set_option Elab.async false
set_option linter.all false
set_option maxRecDepth 100000
set_option maxHeartbeats 4000000
namespace G
open PySem L2
noncomputable def top (i : Nat) : Stmt := PySem.Challenge.pw_driftmeet_k62_choices_of_liars.main.body.getD i (.Pass ⟨0, 0, 0, 0⟩)
noncomputable def b_grown_lists_f0 : ISs := .cons (.expr (.bm .extend (.var 2) (.cons (.comp true ["hand", "one"] [none, some 3] (.name 0) (.seq (.var 1)) (.yes (.or (.cmp .Eq (.bi .len (.cons (.var 1) (.nil))) (.con (.int 0))) (.cmp .Gt (.var 0) (.ix (.var 1) (.neg (.con (.int 1))))))) (.cat false (.var 1) (.lst true (.cons (.var 0) (.nil))))) (.nil)))) (.nil)
noncomputable def b_grown_lists : ISs := .cons (.set 2 (.lst false (.nil))) (.cons (.for_ (.name 3) (.seq (.var 0)) b_grown_lists_f0) (.cons (.ret (.var 2)) (.nil)))
noncomputable def b_choices_f0 : ISs := .cons (.set 4 (.call 0 (.cons (.var 4) (.cons (.var 3) (.nil))))) (.nil)
noncomputable def b_choices : ISs := .cons (.ifs (.not (.chain3 .LtE .Lt .LtE (.con (.int 0)) (.var 1) (.var 0) (.glo 0))) (.cons (.raise 2 (.cons (.con (.str "there are one to six hands, and one of them asks")) (.nil))) (.nil)) (.nil)) (.cons (.ifs (.cmp .Lt (.var 2) (.con (.int 0))) (.cons (.raise 1 (.cons (.con (.str "many is below nought")) (.nil))) (.nil)) (.nil)) (.cons (.set 3 (.comp true ["hand", "asker"] [none, some 1] (.name 0) (.rng1 (.var 0)) (.yes (.cmp .NotEq (.var 0) (.var 1))) (.var 0))) (.cons (.set 4 (.lst false (.cons (.lst false (.nil)) (.nil)))) (.cons (.for_ (.name 5) (.rng1 (.bi .min (.cons (.var 2) (.cons (.bi .len (.cons (.var 3) (.nil))) (.nil))))) b_choices_f0) (.cons (.ret (.var 4)) (.nil))))))
noncomputable def b_law_cell_at : ISs := .cons (.ifs (.cmp .Lt (.var 1) (.bi .len (.cons (.var 0) (.nil)))) (.cons (.ret (.ix (.var 0) (.var 1))) (.nil)) (.nil)) (.cons (.ret (.con (.int 0))) (.nil))
noncomputable def b_law_stream_f0 : ISs := .cons (.set 3 (.bin .Mod (.bin .Add (.bin .Add (.bin .Mult (.var 3) (.var 3)) (.bin .Mult (.con (.int 48271)) (.var 3))) (.var 4)) (.bin .Add (.bin .Pow (.con (.int 10)) (.con (.int 40))) (.con (.int 121))))) (.cons (.app (.var 2) (.var 3)) (.nil))
noncomputable def b_law_stream : ISs := .cons (.set 2 (.lst false (.nil))) (.cons (.set 3 (.bin .Add (.bin .Mod (.var 0) (.bin .Add (.bin .Pow (.con (.int 10)) (.con (.int 40))) (.con (.int 121)))) (.con (.int 48271)))) (.cons (.for_ (.name 4) (.rng1 (.bin .Add (.var 1) (.con (.int 4)))) b_law_stream_f0) (.cons (.ret (.sl true (.var 2) (.yes (.con (.int 4))) (.no))) (.nil))))
noncomputable def b_law_choices_f0 : ISs := .cons (.set 6 (.comp true ["_law_hand", "_law_mask"] [none, some 5] (.name 0) (.seq (.var 3)) (.yes (.cmp .Eq (.bin .BitAnd (.bin .RShift (.var 1) (.var 0)) (.con (.int 1))) (.con (.int 1)))) (.var 0))) (.cons (.ifs (.and (.cmp .Eq (.bi .len (.cons (.var 6) (.nil))) (.bi .min (.cons (.var 2) (.cons (.bi .len (.cons (.var 3) (.nil))) (.nil))))) (.cmp .NotIn (.var 6) (.var 4))) (.cons (.app (.var 4) (.var 6)) (.nil)) (.nil)) (.nil))
noncomputable def b_law_choices : ISs := .cons (.set 3 (.comp true ["_law_hand", "_law_asker"] [none, some 1] (.name 0) (.rng1 (.var 0)) (.yes (.cmp .NotEq (.var 0) (.var 1))) (.var 0))) (.cons (.set 4 (.lst false (.nil))) (.cons (.for_ (.name 5) (.rng1 (.con (.int 64))) b_law_choices_f0) (.cons (.ret (.bi (.sortedL true) (.cons (.var 4) (.nil)))) (.nil))))
noncomputable def b_law_number : ISs := .cons (.ifs (.cmp .Eq (.bin .Mod (.var 0) (.con (.int 7))) (.con (.int 3))) (.cons (.ret (.bin .Sub (.bin .Mod (.bin .FloorDiv (.var 0) (.con (.int 7))) (.bin .Mult (.con (.int 2)) (.bin .Pow (.con (.int 10)) (.con (.int 30))))) (.bin .Pow (.con (.int 10)) (.con (.int 30))))) (.nil)) (.nil)) (.cons (.ret (.bin .Add (.var 1) (.bin .Mod (.bin .FloorDiv (.var 0) (.con (.int 7))) (.bin .Add (.bin .Sub (.var 2) (.var 1)) (.con (.int 1)))))) (.nil))
noncomputable def b_law_word : ISs := .cons (.set 3 (.con .non)) (.cons (.try_ (.cons (.expr (.call 1 (.cons (.var 0) (.cons (.var 1) (.cons (.var 2) (.nil)))))) (.nil)) (.cons 0 (some 4) (.cons (.set 3 (.var 4)) (.nil)) (.nil))) (.cons (.ret (.var 3)) (.nil)))
noncomputable def b_law_lists_f0 : ISs := .cons (.ifs (.or (.not (.val (.isB (.var 2) .int))) (.val (.isB (.var 2) .bool))) (.cons (.ret (.con (.bl false))) (.nil)) (.nil)) (.nil)
noncomputable def b_law_lists_f1 : ISs := .cons (.ifs (.not (.val (.isB (.var 1) .list))) (.cons (.ret (.con (.bl false))) (.nil)) (.nil)) (.cons (.for_ (.name 2) (.seq (.var 1)) b_law_lists_f0) (.nil))
noncomputable def b_law_lists : ISs := .cons (.ifs (.not (.val (.isB (.var 0) .list))) (.cons (.ret (.con (.bl false))) (.nil)) (.nil)) (.cons (.for_ (.name 1) (.seq (.var 0)) b_law_lists_f1) (.cons (.ret (.con (.bl true))) (.nil)))
noncomputable def b_law : ISs := .cons (.set 1 (.call 5 (.cons (.call 2 (.cons (.var 0) (.cons (.con (.int 0)) (.nil)))) (.cons (.neg (.con (.int 2))) (.cons (.con (.int 8)) (.nil)))))) (.cons (.set 2 (.call 5 (.cons (.call 2 (.cons (.var 0) (.cons (.con (.int 1)) (.nil)))) (.cons (.neg (.con (.int 2))) (.cons (.con (.int 8)) (.nil)))))) (.cons (.set 3 (.call 5 (.cons (.call 2 (.cons (.var 0) (.cons (.con (.int 2)) (.nil)))) (.cons (.neg (.con (.int 3))) (.cons (.con (.int 8)) (.nil)))))) (.cons (.ifs (.cmp .Gt (.bin .Mod (.call 2 (.cons (.var 0) (.cons (.con (.int 3)) (.nil)))) (.con (.int 3))) (.con (.int 0))) (.cons (.set 1 (.bin .Add (.con (.int 1)) (.bin .Mod (.call 2 (.cons (.var 0) (.cons (.con (.int 0)) (.nil)))) (.con (.int 6))))) (.cons (.set 2 (.bin .Mod (.call 2 (.cons (.var 0) (.cons (.con (.int 1)) (.nil)))) (.var 1))) (.nil))) (.nil)) (.cons (.set 4 (.call 6 (.cons (.var 1) (.cons (.var 2) (.cons (.var 3) (.nil)))))) (.cons (.ifs (.or (.not (.chain .LtE .LtE (.con (.int 1)) (.var 1) (.con (.int 6)))) (.not (.chain .LtE .Lt (.con (.int 0)) (.var 2) (.var 1)))) (.cons (.ret (.and (.isC (.var 4) 2) (.not (.isC (.var 4) 1)))) (.nil)) (.nil)) (.cons (.ifs (.cmp .Lt (.var 3) (.con (.int 0))) (.cons (.ret (.and (.isC (.var 4) 1) (.not (.isC (.var 4) 2)))) (.nil)) (.nil)) (.cons (.ifs (.cmp .IsNot (.var 4) (.con .non)) (.cons (.ret (.con (.bl false))) (.nil)) (.nil)) (.cons (.set 5 (.call 4 (.cons (.var 1) (.cons (.var 2) (.cons (.var 3) (.nil)))))) (.cons (.set 6 (.call 1 (.cons (.var 1) (.cons (.var 2) (.cons (.var 3) (.nil)))))) (.cons (.ifs (.or (.not (.val (.call 7 (.cons (.var 6) (.nil))))) (.cmp .NotEq (.var 6) (.var 5))) (.cons (.ret (.con (.bl false))) (.nil)) (.nil)) (.cons (.app (.ix (.var 6) (.con (.int 0))) (.con (.int 7))) (.cons (.expr (.bm .clear (.var 6) (.nil))) (.cons (.ret (.and (.cmp .Eq (.call 1 (.cons (.var 1) (.cons (.var 2) (.cons (.var 3) (.nil))))) (.var 5)) (.cmp .Eq (.call 1 (.cons (.var 1) (.cons (.var 2) (.cons (.con (.int 0)) (.nil))))) (.lst true (.cons (.lst true (.nil)) (.nil)))))) (.nil))))))))))))))
noncomputable def l_grown_lists : FL := { name := "grown_lists", qual := "grown_lists", glob := true, cl := false, st := top 6, N := ["some", "others", "told", "one"], ps := ["some", "others"], body := b_grown_lists }
noncomputable def l_choices : FL := { name := "choices", qual := "choices", glob := true, cl := false, st := top 7, N := ["hands", "asker", "many", "others", "told", "step"], ps := ["hands", "asker", "many"], body := b_choices }
noncomputable def l_law_cell_at : FL := { name := "_law_cell_at", qual := "_law_cell_at", glob := true, cl := true, st := top 9, N := ["_law_script", "_law_k"], ps := ["_law_script", "_law_k"], body := b_law_cell_at }
noncomputable def l_law_stream : FL := { name := "_law_stream", qual := "_law_stream", glob := true, cl := true, st := top 10, N := ["_law_cell", "_law_many", "_law_found", "_law_number_here", "_law_k"], ps := ["_law_cell", "_law_many"], body := b_law_stream }
noncomputable def l_law_choices : FL := { name := "_law_choices", qual := "_law_choices", glob := true, cl := true, st := top 11, N := ["_law_hands", "_law_asker", "_law_many", "_law_others", "_law_found", "_law_mask", "_law_some"], ps := ["_law_hands", "_law_asker", "_law_many"], body := b_law_choices }
noncomputable def l_law_number : FL := { name := "_law_number", qual := "_law_number", glob := true, cl := true, st := top 12, N := ["_law_cell", "_law_low", "_law_high"], ps := ["_law_cell", "_law_low", "_law_high"], body := b_law_number }
noncomputable def l_law_word : FL := { name := "_law_word", qual := "_law_word", glob := true, cl := false, st := top 13, N := ["_law_hands", "_law_asker", "_law_many", "_law_word_here", "e"], ps := ["_law_hands", "_law_asker", "_law_many"], body := b_law_word }
noncomputable def l_law_lists : FL := { name := "_law_lists", qual := "_law_lists", glob := true, cl := true, st := top 14, N := ["_law_found", "_law_some", "_law_hand"], ps := ["_law_found"], body := b_law_lists }
noncomputable def l_law : FL := { name := "law", qual := "law", glob := true, cl := true, st := top 15, N := ["_law_script", "_law_hands", "_law_asker", "_law_many", "_law_word_here", "_law_due", "_law_found"], ps := ["_law_script"], body := b_law }
noncomputable def L : List FL := [l_grown_lists, l_choices, l_law_cell_at, l_law_stream, l_law_choices, l_law_number, l_law_word, l_law_lists, l_law]
noncomputable def xinT : List (Nat × Nat) := []
noncomputable def nm : NM := ⟨["DriftError", "NoNumber", "NoHand"], [], ["MOST_HANDS"], xinT⟩
noncomputable def xin (i : Nat) : Option Nat := xinT.lookup i
noncomputable def subT : List (List Bool) := [[true, false, false], [true, true, false], [true, false, true]]
noncomputable def sub (i j : Nat) : Bool := (subT.getD i []).getD j false
noncomputable def ksubT : List (List Bool) := []
noncomputable def ksub (i j : Nat) : Bool := (ksubT.getD i []).getD j false
noncomputable def fokT : List (List Nat) := []
noncomputable def fok (i f : Nat) : Bool := (fokT.getD i []).contains f
noncomputable def mthT : List (List (Nat × Nat)) := []
noncomputable def mth (i m : Nat) : Option Nat := (mthT.getD i []).lookup m
noncomputable def iniT : List Nat := []
noncomputable def ini (i : Nat) : Option Nat := iniT[i]?
noncomputable def gloT : List D := [.int 6]
noncomputable def glo (k : Nat) : D := gloT.getD k .non
noncomputable def B (cls kls fad : Nat → Addr) : WB := { ne := 3, cls := cls, sub := sub, nk := 0, kls := kls, ksub := ksub, fok := fok, mth := mth, ini := ini, xin := xin, glo := glo, fad := fad }
section
variable {cls kls fad : Nat → Addr}
@[simp] theorem B_ne : (B cls kls fad).ne = 3 := rfl
@[simp] theorem B_cls : (B cls kls fad).cls = cls := rfl
@[simp] theorem B_sub : (B cls kls fad).sub = sub := rfl
@[simp] theorem B_nk : (B cls kls fad).nk = 0 := rfl
@[simp] theorem B_kls : (B cls kls fad).kls = kls := rfl
@[simp] theorem B_ksub : (B cls kls fad).ksub = ksub := rfl
@[simp] theorem B_fok : (B cls kls fad).fok = fok := rfl
@[simp] theorem B_mth : (B cls kls fad).mth = mth := rfl
@[simp] theorem B_ini : (B cls kls fad).ini = ini := rfl
@[simp] theorem B_xin : (B cls kls fad).xin = xin := rfl
@[simp] theorem B_glo : (B cls kls fad).glo = glo := rfl
end
@[simp] theorem sub_0_0 : sub 0 0 = true := rfl
@[simp] theorem sub_0_1 : sub 0 1 = false := rfl
@[simp] theorem sub_0_2 : sub 0 2 = false := rfl
@[simp] theorem sub_1_0 : sub 1 0 = true := rfl
@[simp] theorem sub_1_1 : sub 1 1 = true := rfl
@[simp] theorem sub_1_2 : sub 1 2 = false := rfl
@[simp] theorem sub_2_0 : sub 2 0 = true := rfl
@[simp] theorem sub_2_1 : sub 2 1 = false := rfl
@[simp] theorem sub_2_2 : sub 2 2 = true := rfl
@[simp] theorem glo_0 : glo 0 = .int 6 := rfl
noncomputable def T : List FB := [⟨2, 4, false, b_grown_lists⟩, ⟨3, 6, false, b_choices⟩, ⟨2, 2, true, b_law_cell_at⟩, ⟨2, 5, true, b_law_stream⟩, ⟨3, 7, true, b_law_choices⟩, ⟨3, 3, true, b_law_number⟩, ⟨3, 5, false, b_law_word⟩, ⟨1, 3, true, b_law_lists⟩, ⟨1, 7, true, b_law⟩]
theorem T_eq : L.map FL.fb = T := rfl
section
variable {B : WB} {M : MH} {Q : VK3} {E : XN} {n : Nat}
theorem u_grown_lists {x0 x1 : D} : wpCall T B (n + 1) 0 [x0, x1] M Q E = wpSs { toWB := B, call := wpCall T B n } b_grown_lists { nx := fun _ M' => Q .non M', rt := fun v M' => Q v M' } (fun _ i M' => E i (keepM M M')) [some x0, some x1, none, none] M := propext ⟨fun h => h.2, fun h => ⟨rfl, h⟩⟩
theorem u_choices {x0 x1 x2 : D} : wpCall T B (n + 1) 1 [x0, x1, x2] M Q E = wpSs { toWB := B, call := wpCall T B n } b_choices { nx := fun _ M' => Q .non M', rt := fun v M' => Q v M' } (fun _ i M' => E i (keepM M M')) [some x0, some x1, some x2, none, none, none] M := propext ⟨fun h => h.2, fun h => ⟨rfl, h⟩⟩
theorem u_law_cell_at {x0 x1 : D} : wpCall T B (n + 1) 2 [x0, x1] M Q E = wpSs { toWB := B, call := wpCall T B n } b_law_cell_at { nx := fun _ M' => Q .non (keepM M M'), rt := fun v M' => Q v (keepM M M') } (fun _ i M' => E i (keepM M M')) [some x0, some x1] M := propext ⟨fun h => h.2, fun h => ⟨rfl, h⟩⟩
theorem u_law_choices {x0 x1 x2 : D} : wpCall T B (n + 1) 4 [x0, x1, x2] M Q E = wpSs { toWB := B, call := wpCall T B n } b_law_choices { nx := fun _ M' => Q .non (keepM M M'), rt := fun v M' => Q v (keepM M M') } (fun _ i M' => E i (keepM M M')) [some x0, some x1, some x2, none, none, none, none] M := propext ⟨fun h => h.2, fun h => ⟨rfl, h⟩⟩
theorem u_law_number {x0 x1 x2 : D} : wpCall T B (n + 1) 5 [x0, x1, x2] M Q E = wpSs { toWB := B, call := wpCall T B n } b_law_number { nx := fun _ M' => Q .non (keepM M M'), rt := fun v M' => Q v (keepM M M') } (fun _ i M' => E i (keepM M M')) [some x0, some x1, some x2] M := propext ⟨fun h => h.2, fun h => ⟨rfl, h⟩⟩
theorem u_law_word {x0 x1 x2 : D} : wpCall T B (n + 1) 6 [x0, x1, x2] M Q E = wpSs { toWB := B, call := wpCall T B n } b_law_word { nx := fun _ M' => Q .non M', rt := fun v M' => Q v M' } (fun _ i M' => E i (keepM M M')) [some x0, some x1, some x2, none, none] M := propext ⟨fun h => h.2, fun h => ⟨rfl, h⟩⟩
theorem u_law_lists {x0 : D} : wpCall T B (n + 1) 7 [x0] M Q E = wpSs { toWB := B, call := wpCall T B n } b_law_lists { nx := fun _ M' => Q .non (keepM M M'), rt := fun v M' => Q v (keepM M M') } (fun _ i M' => E i (keepM M M')) [some x0, none, none] M := propext ⟨fun h => h.2, fun h => ⟨rfl, h⟩⟩
theorem u_law {x0 : D} : wpCall T B (n + 1) 8 [x0] M Q E = wpSs { toWB := B, call := wpCall T B n } b_law { nx := fun _ M' => Q .non (keepM M M'), rt := fun v M' => Q v (keepM M M') } (fun _ i M' => E i (keepM M M')) [some x0, none, none, none, none, none, none] M := propext ⟨fun h => h.2, fun h => ⟨rfl, h⟩⟩
end
theorem ok_grown_lists : l_grown_lists.ok (fnsOf L) nm = true := by decide +kernel
theorem ok_choices : l_choices.ok (fnsOf L) nm = true := by decide +kernel
theorem ok_law_cell_at : l_law_cell_at.ok (fnsOf L) nm = true := by decide +kernel
theorem ok_law_stream : l_law_stream.ok (fnsOf L) nm = true := by decide +kernel
theorem ok_law_choices : l_law_choices.ok (fnsOf L) nm = true := by decide +kernel
theorem ok_law_number : l_law_number.ok (fnsOf L) nm = true := by decide +kernel
theorem ok_law_word : l_law_word.ok (fnsOf L) nm = true := by decide +kernel
theorem ok_law_lists : l_law_lists.ok (fnsOf L) nm = true := by decide +kernel
theorem ok_law : l_law.ok (fnsOf L) nm = true := by decide +kernel
theorem top_mk {K : PySem.W.Frag} {h : Heap} {mg : Str → Option Value} {f0 f1 f2 f3 f4 f5 f6 f7 f8 : Addr} {c0 c1 c2 : Addr} (X : K.In h) (Gn : h.Ns mainGlobals mg)
    {od0 an0 : Option Addr} {sl0 : Array (Option Value)} {oc0 kV0 dc0 pm0 cd0 ct0 : Value}
    (a0 : PySem.W.nsIn K mainGlobals "grown_lists" = some (some (.ref f0)))
    (l0 : K.lookup f0 = some ⟨oc0, od0, .func (PySem.W.fnOf "grown_lists" "grown_lists" (defArgs (top 6)) (defBody (top 6)) (defScope (top 6)) .none kV0 dc0 pm0 an0 cd0 ct0), sl0⟩)
    (d0 : PySem.W.codeIn K cd0 "grown_lists" = true)
    (k0 : PySem.W.keepIn K (.ref f0) = true)
    {od1 an1 : Option Addr} {sl1 : Array (Option Value)} {oc1 kV1 dc1 pm1 cd1 ct1 : Value}
    (a1 : PySem.W.nsIn K mainGlobals "choices" = some (some (.ref f1)))
    (l1 : K.lookup f1 = some ⟨oc1, od1, .func (PySem.W.fnOf "choices" "choices" (defArgs (top 7)) (defBody (top 7)) (defScope (top 7)) .none kV1 dc1 pm1 an1 cd1 ct1), sl1⟩)
    (d1 : PySem.W.codeIn K cd1 "choices" = true)
    (k1 : PySem.W.keepIn K (.ref f1) = true)
    {od2 an2 : Option Addr} {sl2 : Array (Option Value)} {oc2 kV2 dc2 pm2 cd2 ct2 : Value}
    (a2 : PySem.W.nsIn K mainGlobals "_law_cell_at" = some (some (.ref f2)))
    (l2 : K.lookup f2 = some ⟨oc2, od2, .func (PySem.W.fnOf "_law_cell_at" "_law_cell_at" (defArgs (top 9)) (defBody (top 9)) (defScope (top 9)) .none kV2 dc2 pm2 an2 cd2 ct2), sl2⟩)
    (d2 : PySem.W.codeIn K cd2 "_law_cell_at" = true)
    (k2 : PySem.W.keepIn K (.ref f2) = true)
    {od3 an3 : Option Addr} {sl3 : Array (Option Value)} {oc3 kV3 dc3 pm3 cd3 ct3 : Value}
    (a3 : PySem.W.nsIn K mainGlobals "_law_stream" = some (some (.ref f3)))
    (l3 : K.lookup f3 = some ⟨oc3, od3, .func (PySem.W.fnOf "_law_stream" "_law_stream" (defArgs (top 10)) (defBody (top 10)) (defScope (top 10)) .none kV3 dc3 pm3 an3 cd3 ct3), sl3⟩)
    (d3 : PySem.W.codeIn K cd3 "_law_stream" = true)
    (k3 : PySem.W.keepIn K (.ref f3) = true)
    {od4 an4 : Option Addr} {sl4 : Array (Option Value)} {oc4 kV4 dc4 pm4 cd4 ct4 : Value}
    (a4 : PySem.W.nsIn K mainGlobals "_law_choices" = some (some (.ref f4)))
    (l4 : K.lookup f4 = some ⟨oc4, od4, .func (PySem.W.fnOf "_law_choices" "_law_choices" (defArgs (top 11)) (defBody (top 11)) (defScope (top 11)) .none kV4 dc4 pm4 an4 cd4 ct4), sl4⟩)
    (d4 : PySem.W.codeIn K cd4 "_law_choices" = true)
    (k4 : PySem.W.keepIn K (.ref f4) = true)
    {od5 an5 : Option Addr} {sl5 : Array (Option Value)} {oc5 kV5 dc5 pm5 cd5 ct5 : Value}
    (a5 : PySem.W.nsIn K mainGlobals "_law_number" = some (some (.ref f5)))
    (l5 : K.lookup f5 = some ⟨oc5, od5, .func (PySem.W.fnOf "_law_number" "_law_number" (defArgs (top 12)) (defBody (top 12)) (defScope (top 12)) .none kV5 dc5 pm5 an5 cd5 ct5), sl5⟩)
    (d5 : PySem.W.codeIn K cd5 "_law_number" = true)
    (k5 : PySem.W.keepIn K (.ref f5) = true)
    {od6 an6 : Option Addr} {sl6 : Array (Option Value)} {oc6 kV6 dc6 pm6 cd6 ct6 : Value}
    (a6 : PySem.W.nsIn K mainGlobals "_law_word" = some (some (.ref f6)))
    (l6 : K.lookup f6 = some ⟨oc6, od6, .func (PySem.W.fnOf "_law_word" "_law_word" (defArgs (top 13)) (defBody (top 13)) (defScope (top 13)) .none kV6 dc6 pm6 an6 cd6 ct6), sl6⟩)
    (d6 : PySem.W.codeIn K cd6 "_law_word" = true)
    (k6 : PySem.W.keepIn K (.ref f6) = true)
    {od7 an7 : Option Addr} {sl7 : Array (Option Value)} {oc7 kV7 dc7 pm7 cd7 ct7 : Value}
    (a7 : PySem.W.nsIn K mainGlobals "_law_lists" = some (some (.ref f7)))
    (l7 : K.lookup f7 = some ⟨oc7, od7, .func (PySem.W.fnOf "_law_lists" "_law_lists" (defArgs (top 14)) (defBody (top 14)) (defScope (top 14)) .none kV7 dc7 pm7 an7 cd7 ct7), sl7⟩)
    (d7 : PySem.W.codeIn K cd7 "_law_lists" = true)
    (k7 : PySem.W.keepIn K (.ref f7) = true)
    {od8 an8 : Option Addr} {sl8 : Array (Option Value)} {oc8 kV8 dc8 pm8 cd8 ct8 : Value}
    (a8 : PySem.W.nsIn K mainGlobals "law" = some (some (.ref f8)))
    (l8 : K.lookup f8 = some ⟨oc8, od8, .func (PySem.W.fnOf "law" "law" (defArgs (top 15)) (defBody (top 15)) (defScope (top 15)) .none kV8 dc8 pm8 an8 cd8 ct8), sl8⟩)
    (d8 : PySem.W.codeIn K cd8 "law" = true)
    (k8 : PySem.W.keepIn K (.ref f8) = true)
    (e0 : PySem.W.nsIn K mainGlobals "DriftError" = some (some (.ref c0)))
    (x0 : PySem.W.excIn K c0 bmV "ValueError.__new__" = true)
    (e1 : PySem.W.nsIn K mainGlobals "NoNumber" = some (some (.ref c1)))
    (x1 : PySem.W.excIn K c1 bmV "ValueError.__new__" = true)
    (e2 : PySem.W.nsIn K mainGlobals "NoHand" = some (some (.ref c2)))
    (x2 : PySem.W.excIn K c2 bmV "ValueError.__new__" = true)
    (m0_0 : PySem.W.exmOne K (.ref c0) (.ref c0) = some true)
    (m0_1 : PySem.W.exmOne K (.ref c0) (.ref c1) = some false)
    (m0_2 : PySem.W.exmOne K (.ref c0) (.ref c2) = some false)
    (m1_0 : PySem.W.exmOne K (.ref c1) (.ref c0) = some true)
    (m1_1 : PySem.W.exmOne K (.ref c1) (.ref c1) = some true)
    (m1_2 : PySem.W.exmOne K (.ref c1) (.ref c2) = some false)
    (m2_0 : PySem.W.exmOne K (.ref c2) (.ref c0) = some true)
    (m2_1 : PySem.W.exmOne K (.ref c2) (.ref c1) = some false)
    (m2_2 : PySem.W.exmOne K (.ref c2) (.ref c2) = some true)
    (hd0 : PySem.W.hasDictIn K c0 = true)
    (ga0 : PySem.W.findIn K (.ref c0) "__getattribute__" = some (some (.builtin "BaseException.__getattribute__")))
    (gn0 : PySem.W.findIn K (.ref c0) "__getattr__" = some none)
    (cl0 : PySem.W.findIn K (.ref c0) "__class__" = some (some (.builtin "object.__class__")))
    (mo0 : PySem.W.mroIn K c0 (.type "object") = some true)
    (mb0 : PySem.W.mroIn K c0 (.type "BaseException") = some true)
    (kv0 : PySem.W.kitOne K (.ref c0) (.type "ValueError") = some true)
    (k0_0 : PySem.W.kitOne K (.ref c0) (.ref c0) = some true)
    (k0_1 : PySem.W.kitOne K (.ref c0) (.ref c1) = some false)
    (k0_2 : PySem.W.kitOne K (.ref c0) (.ref c2) = some false)
    (hd1 : PySem.W.hasDictIn K c1 = true)
    (ga1 : PySem.W.findIn K (.ref c1) "__getattribute__" = some (some (.builtin "BaseException.__getattribute__")))
    (gn1 : PySem.W.findIn K (.ref c1) "__getattr__" = some none)
    (cl1 : PySem.W.findIn K (.ref c1) "__class__" = some (some (.builtin "object.__class__")))
    (mo1 : PySem.W.mroIn K c1 (.type "object") = some true)
    (mb1 : PySem.W.mroIn K c1 (.type "BaseException") = some true)
    (kv1 : PySem.W.kitOne K (.ref c1) (.type "ValueError") = some true)
    (k1_0 : PySem.W.kitOne K (.ref c1) (.ref c0) = some true)
    (k1_1 : PySem.W.kitOne K (.ref c1) (.ref c1) = some true)
    (k1_2 : PySem.W.kitOne K (.ref c1) (.ref c2) = some false)
    (hd2 : PySem.W.hasDictIn K c2 = true)
    (ga2 : PySem.W.findIn K (.ref c2) "__getattribute__" = some (some (.builtin "BaseException.__getattribute__")))
    (gn2 : PySem.W.findIn K (.ref c2) "__getattr__" = some none)
    (cl2 : PySem.W.findIn K (.ref c2) "__class__" = some (some (.builtin "object.__class__")))
    (mo2 : PySem.W.mroIn K c2 (.type "object") = some true)
    (mb2 : PySem.W.mroIn K c2 (.type "BaseException") = some true)
    (kv2 : PySem.W.kitOne K (.ref c2) (.type "ValueError") = some true)
    (k2_0 : PySem.W.kitOne K (.ref c2) (.ref c0) = some true)
    (k2_1 : PySem.W.kitOne K (.ref c2) (.ref c1) = some false)
    (k2_2 : PySem.W.kitOne K (.ref c2) (.ref c2) = some true)
    (sn : PySem.W.specialIn K (.builtin "object.__class__") "__get__" = some (some (.builtin "getset_descriptor.__get__")))
    (st : PySem.W.takesIn K (.builtin "object.__class__") = some true)
    {qt0 : Tok}
    (gl0 : PySem.W.nsIn K mainGlobals "MOST_HANDS" = some (some (.int (6) qt0)))
    (z0 : PySem.W.nsIn K mainGlobals "len" = some none)
    (z1 : PySem.W.nsIn K mainGlobals "abs" = some none)
    (z2 : PySem.W.nsIn K mainGlobals "max" = some none)
    (z3 : PySem.W.nsIn K mainGlobals "min" = some none)
    (z4 : PySem.W.nsIn K mainGlobals "str" = some none)
    (z5 : PySem.W.nsIn K mainGlobals "list" = some none)
    (z6 : PySem.W.nsIn K mainGlobals "tuple" = some none)
    (z7 : PySem.W.nsIn K mainGlobals "isinstance" = some none)
    (z8 : PySem.W.nsIn K mainGlobals "range" = some none)
    (z9 : PySem.W.nsIn K mainGlobals "int" = some none)
    (z10 : PySem.W.nsIn K mainGlobals "bool" = some none)
    (z11 : PySem.W.nsIn K mainGlobals "dict" = some none)
    (z12 : PySem.W.nsIn K mainGlobals "ValueError" = some none)
    (z13 : PySem.W.nsIn K mainGlobals "enumerate" = some none)
    (z14 : PySem.W.nsIn K mainGlobals "all" = some none)
    (z15 : PySem.W.nsIn K mainGlobals "any" = some none)
    (z16 : PySem.W.nsIn K mainGlobals "sum" = some none)
    (z17 : PySem.W.nsIn K mainGlobals "zip" = some none)
    (z18 : PySem.W.nsIn K mainGlobals "reversed" = some none)
    (z19 : PySem.W.nsIn K mainGlobals "sorted" = some none)
    (dg1 : PySem.W.nsIn K cStatics "sys.int_max_str_digits" = some none)
    : ∃ cls kls fad, Top K mg L nm (B cls kls fad) := by
  refine ⟨fun i => match i with | 0 => c0 | 1 => c1 | _ => c2, fun _ => 0, fun i => match i with | 0 => f0 | 1 => f1 | 2 => f2 | 3 => f3 | 4 => f4 | 5 => f5 | 6 => f6 | 7 => f7 | _ => f8, ⟨?_, ?_, ?_, ?_, ?_, ?_, ?_, ?_, ?_, ?_, ?_, dg1, ?_, ?_⟩⟩
  · exact memc ok_grown_lists (memc ok_choices (memc ok_law_cell_at (memc ok_law_stream (memc ok_law_choices (memc ok_law_number (memc ok_law_word (memc ok_law_lists (memc ok_law (memn)))))))))
  · refine ixc ?_ (ixc ?_ (ixc ?_ (ixc ?_ (ixc ?_ (ixc ?_ (ixc ?_ (ixc ?_ (ixc ?_ (ixn)))))))))
    · exact ⟨_, fun_mk (st := top 6) l0 d0 k0, (fun z => PySem.W.mg_of X Gn a0), (fun_mk (st := top 6) l0 d0 k0).bindsE fun _ _ _ _ _ _ => usS fun _ => usS fun _ => us0 rfl⟩
    · exact ⟨_, fun_mk (st := top 7) l1 d1 k1, (fun z => PySem.W.mg_of X Gn a1), (fun_mk (st := top 7) l1 d1 k1).bindsE fun _ _ _ _ _ _ => usS fun _ => usS fun _ => usS fun _ => us0 rfl⟩
    · exact ⟨_, fun_mk (st := top 9) l2 d2 k2, (fun z => PySem.W.mg_of X Gn a2), (fun_mk (st := top 9) l2 d2 k2).bindsE fun _ _ _ _ _ _ => usS fun _ => usS fun _ => us0 rfl⟩
    · exact ⟨_, fun_mk (st := top 10) l3 d3 k3, (fun z => PySem.W.mg_of X Gn a3), (fun_mk (st := top 10) l3 d3 k3).bindsE fun _ _ _ _ _ _ => usS fun _ => usS fun _ => us0 rfl⟩
    · exact ⟨_, fun_mk (st := top 11) l4 d4 k4, (fun z => PySem.W.mg_of X Gn a4), (fun_mk (st := top 11) l4 d4 k4).bindsE fun _ _ _ _ _ _ => usS fun _ => usS fun _ => usS fun _ => us0 rfl⟩
    · exact ⟨_, fun_mk (st := top 12) l5 d5 k5, (fun z => PySem.W.mg_of X Gn a5), (fun_mk (st := top 12) l5 d5 k5).bindsE fun _ _ _ _ _ _ => usS fun _ => usS fun _ => usS fun _ => us0 rfl⟩
    · exact ⟨_, fun_mk (st := top 13) l6 d6 k6, (fun z => PySem.W.mg_of X Gn a6), (fun_mk (st := top 13) l6 d6 k6).bindsE fun _ _ _ _ _ _ => usS fun _ => usS fun _ => usS fun _ => us0 rfl⟩
    · exact ⟨_, fun_mk (st := top 14) l7 d7 k7, (fun z => PySem.W.mg_of X Gn a7), (fun_mk (st := top 14) l7 d7 k7).bindsE fun _ _ _ _ _ _ => usS fun _ => us0 rfl⟩
    · exact ⟨_, fun_mk (st := top 15) l8 d8 k8, (fun z => PySem.W.mg_of X Gn a8), (fun_mk (st := top 15) l8 d8 k8).bindsE fun _ _ _ _ _ _ => usS fun _ => us0 rfl⟩
  · refine ltc ?_ (ltc ?_ (ltc ?_ (ltn)))
    · exact ⟨⟨hd0, ga0, gn0, cl0, sn, st, mo0, mb0⟩, kv0, ixc k0_0 (ixc k0_1 (ixc k0_2 (ixn)))⟩
    · exact ⟨⟨hd1, ga1, gn1, cl1, sn, st, mo1, mb1⟩, kv1, ixc k1_0 (ixc k1_1 (ixc k1_2 (ixn)))⟩
    · exact ⟨⟨hd2, ga2, gn2, cl2, sn, st, mo2, mb2⟩, kv2, ixc k2_0 (ixc k2_1 (ixc k2_2 (ixn)))⟩
  · refine ixc ?_ (ixc ?_ (ixc ?_ (ixn)))
    · exact ⟨PySem.W.mg_of X Gn e0, (fun z => x0), ltc m0_0 (ltc m1_0 (ltc m2_0 (ltn)))⟩
    · exact ⟨PySem.W.mg_of X Gn e1, (fun z => x1), ltc m0_1 (ltc m1_1 (ltc m2_1 (ltn)))⟩
    · exact ⟨PySem.W.mg_of X Gn e2, (fun z => x2), ltc m0_2 (ltc m1_2 (ltc m2_2 (ltn)))⟩
  · intro i hi
    exact absurd hi (Nat.not_lt_zero _)
  · intro i hi
    match i, hi with
    | n + 0, hi => exact absurd hi (by show ¬ n + 0 < 0; omega)
  · intro i f hi hf
    match i, hi with
    | n + 0, hi => exact absurd hi (by show ¬ n + 0 < 0; omega)
  · intro i m f hi hm
    match i, hi with
    | n + 0, hi => exact absurd hi (by show ¬ n + 0 < 0; omega)
  · intro i x hi
    simp [nm] at hi
  · intro k x hi
    match k, hi with
    | 0, hi => cases hi; exact ⟨_, .int (6), PySem.W.mg_of X Gn gl0, ⟨_, rfl⟩, fun H => rfl⟩
    | n + 1, hi => simp [nm] at hi
  · exact memc (PySem.W.mg_none_of X Gn z0) (memc (PySem.W.mg_none_of X Gn z1) (memc (PySem.W.mg_none_of X Gn z2) (memc (PySem.W.mg_none_of X Gn z3) (memc (PySem.W.mg_none_of X Gn z4) (memc (PySem.W.mg_none_of X Gn z5) (memc (PySem.W.mg_none_of X Gn z6) (memc (PySem.W.mg_none_of X Gn z7) (memc (PySem.W.mg_none_of X Gn z8) (memc (PySem.W.mg_none_of X Gn z9) (memc (PySem.W.mg_none_of X Gn z10) (memc (PySem.W.mg_none_of X Gn z11) (memc (PySem.W.mg_none_of X Gn z12) (memc (PySem.W.mg_none_of X Gn z13) (memc (PySem.W.mg_none_of X Gn z14) (memc (PySem.W.mg_none_of X Gn z15) (memc (PySem.W.mg_none_of X Gn z16) (memc (PySem.W.mg_none_of X Gn z17) (memc (PySem.W.mg_none_of X Gn z18) (memc (PySem.W.mg_none_of X Gn z19) (memn))))))))))))))))))))
  · intro i f hx
    cases (show ([] : List (Nat × Nat)).lookup i = some f from hx)
  · intro i f hi hx
    cases (show ([] : List (Nat × Nat)).lookup i = some f from hx)
end G
set_option Elab.async false
set_option linter.all false
set_option maxRecDepth 100000
set_option maxHeartbeats 4000000
namespace G
open L2
section
variable {cls kls fad : Nat → PySem.Addr} {M : MH} {Q : VK3} {E : XN} {n : Nat} {p q a : PySem.Addr}
noncomputable abbrev LL := List (List Int)
noncomputable def Own (M : MH) : List PySem.Addr → LL → Prop
  | [], ls => ls = []
  | q :: qs, ls => ∃ l r, ls = l :: r ∧ M q = some (.lst (l.map D.int)) ∧ Own M qs r
theorem Own.imp {M M' : MH} : ∀ {qs : List PySem.Addr} {ls : LL}, (∀ q ∈ qs, ∀ o, M q = some o → M' q = some o) → Own M qs ls → Own M' qs ls
  | [], _, _, h => h
  | q :: qs, _, k, h => by
    obtain ⟨l, r, e, g, t⟩ := h
    exact ⟨l, r, e, k q List.mem_cons_self _ g, t.imp fun q' hq => k q' (List.mem_cons_of_mem _ hq)⟩
theorem Own.ext {M M' : MH} (x : Ext M M') {qs : List PySem.Addr} {ls : LL} (h : Own M qs ls) : Own M' qs ls := h.imp fun q _ o e => x.2 q o e
theorem Own.app {M : MH} : ∀ {qs : List PySem.Addr} {ls : LL} {qs' : List PySem.Addr} {ls' : LL}, Own M qs ls → Own M qs' ls' → Own M (qs ++ qs') (ls ++ ls')
  | [], _, _, _, h, h' => by rw [show _ = [] from h]; exact h'
  | q :: qs, _, _, _, h, h' => by
    obtain ⟨l, r, rfl, g, t⟩ := h
    exact ⟨l, r ++ _, rfl, g, t.app h'⟩
theorem Own.len {M : MH} : ∀ {qs : List PySem.Addr} {ls : LL}, Own M qs ls → qs.length = ls.length
  | [], _, h => by rw [show _ = [] from h]; rfl
  | q :: qs, _, h => by
    obtain ⟨l, r, rfl, g, t⟩ := h
    rw [List.length_cons, List.length_cons, t.len]
theorem Own.some {M : MH} : ∀ {qs : List PySem.Addr} {ls : LL}, Own M qs ls → ∀ q ∈ qs, ∃ o, M q = some o
  | [], _, _, q, m => nomatch m
  | q :: qs, _, h, q', m => by
    obtain ⟨l, r, rfl, g, t⟩ := h
    rcases List.mem_cons.mp m with rfl | m
    · exact ⟨_, g⟩
    · exact t.some q' m
noncomputable def okB (l : List Int) (x : Int) : Bool := match atI (l.map D.int) (-1) with
  | some (.int y) => decide (y < x)
  | _ => true
noncomputable def new (l os : List Int) : LL := (os.filter (okB l)).map fun x => l ++ [x]
noncomputable def cond : ITO := .yes (.or (.cmp .Eq (.bi .len (.cons (.var 1) (.nil))) (.con (.int 0))) (.cmp .Gt (.var 0) (.ix (.var 1) (.neg (.con (.int 1))))))
noncomputable def elt : IE := .cat false (.var 1) (.lst true (.cons (.var 0) (.nil)))
theorem t_cond {W : WC} {l : List Int} {x : Int} {QB : Bool → MH → Prop} {E : XN} (h : M q = some (.lst (l.map D.int))) : wpTO W cond [some (.int x), some (.ref q)] M QB E = QB (okB l x) M := by
  have hl : ∀ {Q : VK3}, rBi .len [.ref q] M Q = Q (.int l.length) M := fun {Q} => by simp [rBi, seqOf, lstOf, h]
  unfold cond okB
  by_cases z : l.length = 0
  · have e : l = [] := List.length_eq_zero_iff.mp z
    subst e
    have : atI ([] : List D) (-1) = none := rfl
    simp [hl, this]
  · obtain ⟨y, hy⟩ := at_ex (cs := l) (i := -1) (by omega) (by omega)
    have e1 : ∀ {Q : VK3}, rIx3 (.ref q) (.int (-1)) M Q = Q (.int y) M := fun {Q} => by rw [ix_ref h]; exact ix_at hy
    have z' : ¬ (l = []) := fun w => z (by rw [w]; rfl)
    rw [hy]
    simp [hl, e1, z']
theorem e_elt {W : WC} {l : List Int} {x : Int} {E : XN} (h : M q = some (.lst (l.map D.int))) (hl : l.length ≤ 100) : wpE W elt [some (.int x), some (.ref q)] M Q E = ∀ p, M p = none → Q (.ref p) (put M p (.lst ((l ++ [x]).map D.int))) := by
  unfold elt
  simp [rCat3, lstOf, h, newL, sizeK, sizeK (show l.length + 1 ≤ 1000 by omega)]
theorem g_comp {W : WC} {S : MH → Prop} (hS : ∀ M, S M) {l : List Int} (hl : l.length ≤ 100) : ∀ (os : List Int) (rs : List PySem.Addr) (x : Option D) (M : MH), Fm M → M p = none → M q = some (.lst (l.map D.int)) → rs.length + os.length ≤ 1000 →
    (∀ M' qs, Ext M M' → M' p = none → Own M' qs (new l os) → (∀ q ∈ qs, M q = none) → Q (.ref p) (put M' p (.lst ((rs ++ qs).map D.ref)))) →
    compI W (.name 0) cond elt S p Q (os.map D.int) (rs.map D.ref) [x, some (.ref q)] (put M p (.lst (rs.map D.ref)))
  | [], rs, x, M, hM, hp, hq, hb, h => by
    refine ⟨hS _, ?_⟩
    have := h M [] (.refl hM) hp rfl (fun _ m => nomatch m)
    rw [List.append_nil] at this
    exact this
  | o :: os, rs, x, M, hM, hp, hq, hb, h => by
    have npq : q ≠ p := fun z => by rw [z, hp] at hq; cases hq
    have hq' : put M p (.lst (rs.map D.ref)) q = some (.lst (l.map D.int)) := by rw [put_ne npq]; exact hq
    simp only [List.length_cons] at hb
    refine ⟨hS _, by rw [List.length_map, PySem.sizeLine_eq]; omega, ?_⟩
    show wpTO W cond [some (.int o), some (.ref q)] (put M p (.lst (rs.map D.ref))) _ _
    rw [t_cond hq']
    by_cases k : okB l o = true
    · rw [if_pos k]
      show wpE W elt [some (.int o), some (.ref q)] (put M p (.lst (rs.map D.ref))) _ _
      rw [e_elt hq' hl]
      intro c hc
      have ncp : c ≠ p := fun z => by rw [z, put_same] at hc; cases hc
      have hc' : M c = none := by rw [put_ne ncp] at hc; exact hc
      refine ⟨by rw [put_ne (Ne.symm ncp), put_same], ?_⟩
      have e1 : put (put (put M p (.lst (rs.map D.ref))) c (.lst ((l ++ [o]).map D.int))) p (.lst (rs.map D.ref ++ [.ref c])) = put (put M c (.lst ((l ++ [o]).map D.int))) p (.lst ((rs ++ [c]).map D.ref)) := by
        funext b
        by_cases b1 : b = p
        · rw [b1, put_same, put_same, List.map_append]; rfl
        · rw [put_ne b1, put_ne b1]
          by_cases b2 : b = c
          · rw [b2, put_same, put_same]
          · rw [put_ne b2, put_ne b2, put_ne b1]
      have e2 : rs.map D.ref ++ [.ref c] = (rs ++ [c]).map D.ref := by rw [List.map_append]; rfl
      show compI W (.name 0) cond elt S p Q (os.map D.int) (rs.map D.ref ++ [.ref c]) [some (.int o), some (.ref q)] _
      rw [e1, e2]
      have xt : Ext M (put M c (.lst ((l ++ [o]).map D.int))) := .put hM hc' _
      refine g_comp hS hl os (rs ++ [c]) _ _ xt.1 (by rw [put_ne (Ne.symm ncp)]; exact hp) (xt.2 _ _ hq) (by rw [List.length_append, List.length_singleton]; omega) fun M' qs x' h1 h2 h3 => ?_
      have := h M' (c :: qs) ⟨x'.1, fun b o e => x'.2 b o (xt.2 b o e)⟩ h1 (by
        refine ⟨l ++ [o], new l os, ?_, x'.2 _ _ put_same, h2⟩
        unfold new
        rw [List.filter_cons_of_pos k]
        rfl) (fun b m => by
        rcases List.mem_cons.mp m with rfl | m
        · exact hc'
        · have := h3 b m
          by_cases z : b = c
          · rw [z]; exact hc'
          · rw [put_ne z] at this; exact this)
      rw [List.append_assoc]
      exact this
    · rw [if_neg k]
      refine g_comp hS hl os rs _ M hM hp hq (by omega) fun M' qs x' h1 h2 h3 => h M' qs x' h1 ?_ h3
      unfold new at h2 ⊢
      rw [List.filter_cons_of_neg k]
      exact h2
noncomputable def grow (ls : LL) (os : List Int) : LL := ls.flatMap fun l => new l os
theorem new_len {l os : List Int} : (new l os).length ≤ os.length := by
  unfold new
  rw [List.length_map]
  exact List.length_filter_le _ _
theorem new_in {l os l' : List Int} (h : l' ∈ new l os) : l'.length = l.length + 1 := by
  unfold new at h
  obtain ⟨x, _, rfl⟩ := List.mem_map.mp h
  simp
theorem g_loop {De : Ends3} {ES : St3 → XN} {S : MH → Prop} {p0 : PySem.Addr} {al : List PySem.Addr} {os : List Int} (ho : os.length ≤ 5) (hS : ∀ M, M p0 = some (.lst (al.map D.ref)) → S M) (np : p0 ≠ a) :
    ∀ (qs : List PySem.Addr) (ls : LL) (dn : List PySem.Addr) (dl : LL) (x3 : Option D) (M : MH), Fm M → M p0 = some (.lst (al.map D.ref)) → M a = some (.lst (dn.map D.ref)) → Own M dn dl → a ∉ dn → Own M qs ls → a ∉ qs → (∀ l ∈ ls, l.length ≤ 90) → dn.length + 5 * qs.length ≤ 10000 →
    (∀ M' dn' x3, Fm M' → (∀ b o, b ≠ a → M b = some o → M' b = some o) → M' a = some (.lst (dn'.map D.ref)) → Own M' dn' (dl ++ grow ls os) → De.nx [some (.ref p0), some (.rol (os.map D.int)), some (.ref a), x3] M') →
    forI ⟨(B cls kls fad), wpCall T (B cls kls fad) n⟩ (.name 3) b_grown_lists_f0 ES S De (qs.map D.ref) [some (.ref p0), some (.rol (os.map D.int)), some (.ref a), x3] M
  | [], ls, dn, dl, x3, M, hM, h0, ha, hd, nd, hq, nq, hl, hb, hR => by
    rw [List.map_nil, for_nil]
    refine ⟨hS _ h0, hR M dn x3 hM (fun _ _ _ e => e) ha ?_⟩
    rw [show ls = [] from hq]
    simpa [grow] using hd
  | q :: qs, ls, dn, dl, x3, M, hM, h0, ha, hd, nd, hq, nq, hl, hb, hR => by
    obtain ⟨l, r, rfl, g, t⟩ := hq
    have ih := fun dn dl x3 M => g_loop (De := De) (ES := ES) ho hS np qs r dn dl x3 M
    simp only [List.length_cons] at hb
    rw [List.map_cons, for_cons]
    refine ⟨hS _ h0, ?_⟩
    generalize forI ⟨(B cls kls fad), wpCall T (B cls kls fad) n⟩ (.name 3) b_grown_lists_f0 ES S De (qs.map D.ref) = KK at ih ⊢
    simp only [b_grown_lists_f0]
    simp [tyB, isLstM, ha, compSt3]
    intro c hc
    have nq1 : a ≠ q := fun z => nq (by rw [z]; exact List.mem_cons_self)
    have nq2 : a ∉ qs := fun z => nq (List.mem_cons_of_mem _ z)
    refine g_comp (p := c) (q := q) (rs := []) (fun _ => trivial) (show l.length ≤ 100 by have := hl l List.mem_cons_self; omega) os none M hM hc g (by simp; omega) fun M' q2 x' h1 h2 h3 => ?_
    have e1 : M' a = some (.lst (dn.map D.ref)) := x'.2 _ _ ha
    have n2 : a ∉ q2 := fun z => by have := h3 a z; rw [ha] at this; cases this
    have l2 : q2.length ≤ 5 := by rw [h2.len]; exact Nat.le_trans new_len ho
    rw [List.nil_append, frz_put, del_put h1]
    simp only [rBm, e1, lstOf]
    refine ⟨by rw [List.length_map, List.length_map, PySem.sizeLine_eq]; omega, ?_⟩
    rw [← List.map_append]
    have k1 : ∀ b o, b ≠ a → M b = some o → put M' a (.lst ((dn ++ q2).map D.ref)) b = some o := fun b o nb e => by rw [put_ne nb]; exact x'.2 b o e
    refine ih (dn ++ q2) (dl ++ new l os) (some (.ref q)) _ (x'.1.put _ _) (k1 _ _ np h0) put_same ?_ (by rw [List.mem_append]; exact fun z => z.elim nd n2) (t.imp fun q' m o e => k1 q' o (fun z => nq2 (z ▸ m)) e) nq2 (fun l' m => hl l' (List.mem_cons_of_mem _ m)) (by rw [List.length_append]; omega) fun M2 dn2 x3 f1 f2 f3 f4 => hR M2 dn2 x3 f1 (fun b o nb e => f2 b o nb (k1 b o nb e)) f3 ?_
    · exact (hd.imp fun q' m o e => k1 q' o (fun z => nd (z ▸ m)) e).app (h2.imp fun q' m o e => by
        have nb : q' ≠ a := fun z => n2 (z ▸ m)
        rw [put_ne nb]; exact e)
    · rw [show grow (l :: r) os = new l os ++ grow r os from rfl, ← List.append_assoc]
      exact f4
theorem grow_in {c : Nat} : ∀ {ls : LL} {os : List Int}, (∀ l ∈ ls, l.length ≤ c) → ∀ l ∈ grow ls os, l.length ≤ c + 1 := fun {ls os} h l m => by
  unfold grow at m
  obtain ⟨l', m', m⟩ := List.mem_flatMap.mp m
  have := h l' m'
  have := new_in m
  omega
theorem grow_len : ∀ {ls : LL} {os : List Int}, os.length ≤ 5 → (grow ls os).length ≤ 5 * ls.length
  | [], os, _ => by simp [grow]
  | l :: ls, os, h => by
    have := grow_len (ls := ls) h
    have := new_len (l := l) (os := os)
    rw [show grow (l :: ls) os = new l os ++ grow ls os from rfl, List.length_append, List.length_cons]
    omega
theorem c_grown {p0 : PySem.Addr} {qs : List PySem.Addr} {ls : LL} {os : List Int} (ho : os.length ≤ 5) (hM : Fm M) (h0 : M p0 = some (.lst (qs.map D.ref))) (hq : Own M qs ls) (hl : ∀ l ∈ ls, l.length ≤ 90) (hb : ls.length ≤ 1000)
    (hR : ∀ M' b rs, Ext M M' → M' b = some (.lst (rs.map D.ref)) → Own M' rs (grow ls os) → Q (.ref b) M') : wpCall T (B cls kls fad) (n + 1) 0 [.ref p0, .rol (os.map D.int)] M Q E := by
  simp only [u_grown_lists, b_grown_lists]
  simp
  intro a ha
  have np : p0 ≠ a := fun z => by rw [z, ha] at h0; cases h0
  have xt : Ext M (put M a (.lst [])) := .put hM ha _
  have nq : a ∉ qs := fun z => by
    obtain ⟨o, e⟩ := hq.some a z
    rw [ha] at e; cases e
  have lq := hq.len
  rw [walk_ref (xt.2 _ _ h0)]
  refine g_loop ho (fun _ e => e) np qs ls [] [] none _ xt.1 (xt.2 _ _ h0) put_same rfl (fun z => nomatch z) (hq.ext xt) nq hl (by simp; omega) fun M' dn x3 f1 f2 f3 f4 => ?_
  simp
  exact hR M' a dn ⟨f1, fun b o e => f2 b o (fun z => by rw [z, ha] at e; cases e) (xt.2 b o e)⟩ f3 f4
noncomputable def oths (h a : Int) : List Int := ((List.range h.toNat).map fun i : Nat => (i : Int)).filter fun x => !decide (x = a)
noncomputable def chs (os : List Int) : Nat → LL
  | 0 => [[]]
  | k + 1 => grow (chs os k) os
theorem chs_in {os : List Int} : ∀ k, ∀ l ∈ chs os k, l.length ≤ k
  | 0, l, m => by rw [List.mem_singleton.mp m]; exact Nat.le_refl _
  | k + 1, l, m => grow_in (chs_in k) l m
theorem chs_len {os : List Int} (ho : os.length ≤ 5) : ∀ k, (chs os k).length ≤ 5 ^ k
  | 0 => Nat.le_refl _
  | k + 1 => by
    have := chs_len ho k
    have := grow_len (ls := chs os k) ho
    rw [Nat.pow_succ]
    show (grow (chs os k) os).length ≤ _
    omega
theorem ch_loop {De : Ends3} {ES : St3 → XN} {x0 x1 x2 : Option D} {os : List Int} (ho : os.length ≤ 5) :
    ∀ (ds : List D) (k : Nat) (b : PySem.Addr) (qs : List PySem.Addr) (x5 : Option D) (M : MH), k + ds.length ≤ 5 → Fm M → M b = some (.lst (qs.map D.ref)) → Own M qs (chs os k) →
    (∀ M' b' rs x5, Ext M M' → M' b' = some (.lst (rs.map D.ref)) → Own M' rs (chs os (k + ds.length)) → De.nx [x0, x1, x2, some (.rol (os.map D.int)), some (.ref b'), x5] M') →
    forI ⟨(B cls kls fad), wpCall T (B cls kls fad) (n + 1)⟩ (.name 5) b_choices_f0 ES (fun _ => True) De ds [x0, x1, x2, some (.rol (os.map D.int)), some (.ref b), x5] M
  | [], k, b, qs, x5, M, hk, hM, hb, hq, hR => by
    rw [for_nil]
    exact ⟨trivial, hR M b qs x5 (.refl hM) hb hq⟩
  | d :: ds, k, b, qs, x5, M, hk, hM, hb, hq, hR => by
    simp only [List.length_cons] at hk
    rw [for_cons]
    refine ⟨trivial, ?_⟩
    have ih := fun b qs x5 M => ch_loop (De := De) (ES := ES) (x0 := x0) (x1 := x1) (x2 := x2) ho ds (k + 1) b qs x5 M
    generalize forI ⟨(B cls kls fad), wpCall T (B cls kls fad) (n + 1)⟩ (.name 5) b_choices_f0 ES (fun _ => True) De ds = KK at ih ⊢
    simp only [b_choices_f0]
    simp
    have l5 : 5 ^ k ≤ 5 ^ 4 := Nat.pow_le_pow_right (by decide) (by omega)
    refine c_grown ho hM hb hq (fun l m => by have := chs_in k l m; omega) (by have := chs_len ho k; omega) fun M' b' rs xt e1 e2 => ?_
    refine ih b' rs _ M' (by omega) xt.1 e1 e2 fun M2 b2 r2 x5 x2' f1 f2 => hR M2 b2 r2 x5 ⟨x2'.1, fun c o e => x2'.2 c o (xt.2 c o e)⟩ f1 ?_
    rw [show k + (d :: ds).length = k + 1 + ds.length by rw [List.length_cons]; omega]
    exact f2
noncomputable def ok (h a : Int) : Prop := 0 ≤ a ∧ a < h ∧ h ≤ 6
theorem c_chN {h a m : Int} (hn : ¬ ok h a) : wpCall T (B cls kls fad) (n + 1) 1 [.int h, .int a, .int m] M Q E = E ⟨2, none⟩ M := by
  unfold ok at hn
  simp only [u_choices, b_choices]
  by_cases h1 : 0 ≤ a
  · by_cases h2 : a < h
    · simp [h1, h2, show ¬ h ≤ 6 by omega, sizeK]
    · simp [h1, h2, sizeK]
  · simp [h1, sizeK]
theorem c_chM {h a m : Int} (hn : ok h a) (hm : m < 0) : wpCall T (B cls kls fad) (n + 1) 1 [.int h, .int a, .int m] M Q E = E ⟨1, none⟩ M := by
  obtain ⟨h1, h2, h3⟩ := hn
  simp only [u_choices, b_choices]
  simp [h1, h2, h3, hm, sizeK]
theorem rng_ints {k : Nat} : rng 0 k = ((List.range k).map fun i : Nat => (i : Int)).map D.int := by
  simp [rng]
theorem min_i {i j : Int} : rBi .min [.int i, .int j] M Q = Q (.int (min i j)) M := by
  show Q (.int (if j < i then j else i)) M = _
  have : (if j < i then j else i) = min i j := by split <;> omega
  rw [this]
theorem oth_comp {W : WC} {h a : Int} (hM : Fm M) (hh : h ≤ 6) : compG W (.name 0) (.yes (.cmp .NotEq (.var 0) (.var 1))) (.var 0) (fun _ => True) Q (rng 0 h.toNat) [none, some (.int a)] M = Q (.rol ((oths h a).map D.int)) M := by
  rw [compG_filter (fun d => match d with | .int x => !decide (x = a) | _ => false) (fun d => d) hM (by rw [rng_len]; omega) (fun d hd M' _ Q => by
    obtain ⟨i, _, rfl⟩ := List.mem_map.mp hd
    simp) (fun d hd _ M' _ Q => by simp)]
  rw [rng_ints, List.filter_map, List.map_id']
  rfl
theorem oth_len {h a : Int} (hn : ok h a) : (oths h a).length ≤ 5 := by
  obtain ⟨h1, h2, h3⟩ := hn
  have e : h = 1 ∨ h = 2 ∨ h = 3 ∨ h = 4 ∨ h = 5 ∨ h = 6 := by omega
  have f : a = 0 ∨ a = 1 ∨ a = 2 ∨ a = 3 ∨ a = 4 ∨ a = 5 := by omega
  rcases e with rfl | rfl | rfl | rfl | rfl | rfl <;> rcases f with rfl | rfl | rfl | rfl | rfl | rfl <;> first | decide | omega
theorem c_choices {h a m : Int} (hM : Fm M) (hn : ok h a) (hm : 0 ≤ m) (hR : ∀ M' b rs, Ext M M' → M' b = some (.lst (rs.map D.ref)) → Own M' rs (chs (oths h a) (min m (oths h a).length).toNat) → Q (.ref b) M') :
    wpCall T (B cls kls fad) (n + 2) 1 [.int h, .int a, .int m] M Q E := by
  have ol := oth_len hn
  obtain ⟨h1, h2, h3⟩ := hn
  simp only [u_choices, b_choices]
  simp [h1, h2, h3, show ¬ m < 0 by omega, compSt3]
  refine ⟨by omega, by omega, ?_⟩
  rw [oth_comp hM h3]
  intro p hp
  refine ⟨by decide, fun b hb => ?_⟩
  rw [bi_lenR, min_i, List.length_map]
  have k0 : 0 ≤ min m (oths h a).length := by omega
  have k5 : min m (oths h a).length ≤ 5 := by omega
  refine ⟨by omega, by omega, ?_⟩
  have x1 : Ext M (put M p (.lst [])) := .put hM hp _
  have x2 : Ext (put M p (.lst [])) (put (put M p (.lst [])) b (.lst [.ref p])) := .put x1.1 hb _
  refine ch_loop (n := n) ol _ 0 b [p] none _ (by rw [rng_len]; omega) x2.1 put_same ⟨[], [], rfl, x2.2 _ _ put_same, rfl⟩ fun M' b' rs x5 x' e1 e2 => ?_
  simp
  refine hR M' b' rs ⟨x'.1, fun c o e => x'.2 c o (x2.2 c o (x1.2 c o e))⟩ e1 ?_
  rw [Nat.zero_add, rng_len] at e2
  exact e2
noncomputable def rD (l : List Int) : D := .rol (l.map D.int)
noncomputable def pick (os : List Int) (x : Int) : List Int := os.filter fun o => decide (PySem.Builtin.bitAnd (x / 2 ^ o.toNat) 1 = 1)
noncomputable def dstep (os : List Int) (k : Int) (fs : LL) (x : Int) : LL := if (pick os x).length = k ∧ pick os x ∉ fs then fs ++ [pick os x] else fs
noncomputable def dueF (os : List Int) (k : Int) : LL := ((List.range 64).map fun i : Nat => (i : Int)).foldl (dstep os k) []
noncomputable def due (os : List Int) (k : Int) : LL := (sortLx (dueF os k)).map fun i => (dueF os k).getD i []
theorem all_ok : ∀ h : Fin 7, ∀ a : Fin 6, a.val < h.val → ∀ k : Fin 6, k.val ≤ (oths h.val a.val).length →
    sortLok (dueF (oths h.val a.val) k.val) = true ∧ due (oths h.val a.val) k.val = chs (oths h.val a.val) k.val ∧ 0 < (chs (oths h.val a.val) k.val).length := by decide +kernel
theorem oth_nn {h a : Int} : ∀ o ∈ oths h a, 0 ≤ o := fun o m => by
  unfold oths at m
  obtain ⟨i, _, rfl⟩ := List.mem_map.mp (List.mem_filter.mp m).1
  omega
theorem pick_comp {W : WC} {os : List Int} {x : Int} (hM : Fm M) (ho : os.length ≤ 5) (hn : ∀ o ∈ os, 0 ≤ o) : compG W (.name 0) (.yes (.cmp .Eq (.bin .BitAnd (.bin .RShift (.var 1) (.var 0)) (.con (.int 1))) (.con (.int 1)))) (.var 0) (fun _ => True) Q (os.map D.int) [none, some (.int x)] M = Q (.rol ((pick os x).map D.int)) M := by
  rw [compG_filter (fun d => match d with | .int o => decide (PySem.Builtin.bitAnd (x / 2 ^ o.toNat) 1 = 1) | _ => false) (fun d => d) hM (by rw [List.length_map]; omega) (fun d hd M' _ Q => by
    obtain ⟨o, m, rfl⟩ := List.mem_map.mp hd
    have := hn o m
    simp [this]) (fun d hd _ M' _ Q => by simp)]
  rw [List.filter_map, List.map_id']
  rfl
theorem eqs_int : ∀ {l l' : List Int}, eqDs (l.map D.int) (l'.map D.int) = decide (l = l')
  | [], [] => by simp [eqDs]
  | [], _ :: _ => by simp [eqDs]
  | _ :: _, [] => by simp [eqDs]
  | x :: l, y :: l' => by
    have := eqs_int (l := l) (l' := l')
    simp only [List.map_cons, eqDs, this, eqD]
    by_cases h1 : x = y <;> by_cases h2 : l = l' <;> simp [h1, h2]
theorem pl_int {m : Nat} {l : List Int} : (l.map D.int).all (plN m) = true := by
  rw [List.all_eq_true]
  intro x hx
  obtain ⟨i, _, rfl⟩ := List.mem_map.mp hx
  cases m <;> rfl
theorem pl_rD {m : Nat} {l : List Int} : plN (m + 1) (rD l) = true := pl_int
theorem pls_rD {m : Nat} {fs : LL} : (fs.map rD).all (plN (m + 1)) = true := by
  rw [List.all_eq_true]
  intro x hx
  obtain ⟨i, _, rfl⟩ := List.mem_map.mp hx
  exact pl_rD
theorem nin_rD {l : List Int} {fs : LL} (h : M a = some (.lst (fs.map rD))) : rCmp .NotIn (.rol (l.map D.int)) (.ref a) M Q = Q (.bl (!decide (l ∈ fs))) M := by
  have e : (fs.map rD).any (fun d => eqD d (.rol (l.map D.int))) = decide (l ∈ fs) := by
    rw [List.any_map]
    have : ((fun d => eqD d (.rol (l.map D.int))) ∘ rD) = fun l' => decide (l' = l) := by
      funext l'
      show eqDs (l'.map D.int) (l.map D.int) = _
      exact eqs_int
    rw [this]
    by_cases z : l ∈ fs
    · simp [z]
    · simp [z]
      exact fun x hx e => z (e ▸ hx)
  have p1 : plN 8 (.rol (l.map D.int)) = true := pl_rD
  have p2 : (fs.map rD).all (plN 8) = true := pls_rD
  have r1 : res M (.rol (l.map D.int)) = .rol (l.map D.int) := rfl
  have s1 : seqOf M (.ref a) = some (fs.map rD) := by simp [seqOf, lstOf, h]
  simp only [rCmp, rInD, s1, r1, p1, p2, true_and, e, Bool.true_xor]
theorem d_loop {De : Ends3} {ES : St3 → XN} {x0 x1 : Option D} {m : Int} {os : List Int} (ho : os.length ≤ 5) (hn : ∀ o ∈ os, 0 ≤ o) (hM : Fm M) (ha : M a = none) :
    ∀ (xs : List Int) (fs : LL) (x5 x6 : Option D), fs.length + xs.length ≤ 1000 →
    (∀ x5 x6, De.nx [x0, x1, some (.int m), some (.rol (os.map D.int)), some (.ref a), x5, x6] (put M a (.lst ((xs.foldl (dstep os (min m os.length)) fs).map rD)))) →
    forI ⟨(B cls kls fad), wpCall T (B cls kls fad) n⟩ (.name 5) b_law_choices_f0 ES (fun _ => True) De (xs.map D.int) [x0, x1, some (.int m), some (.rol (os.map D.int)), some (.ref a), x5, x6] (put M a (.lst (fs.map rD)))
  | [], fs, x5, x6, hb, hR => by
    rw [List.map_nil, for_nil]
    exact ⟨trivial, hR _ _⟩
  | x :: xs, fs, x5, x6, hb, hR => by
    simp only [List.length_cons] at hb
    rw [List.map_cons, for_cons]
    refine ⟨trivial, ?_⟩
    have ih := fun fs x5 x6 => d_loop (De := De) (ES := ES) (x0 := x0) (x1 := x1) (m := m) ho hn hM ha xs fs x5 x6
    generalize forI ⟨(B cls kls fad), wpCall T (B cls kls fad) n⟩ (.name 5) b_law_choices_f0 ES (fun _ => True) De (xs.map D.int) = KK at ih ⊢
    have pc := fun {W : WC} {Q : VK3} => pick_comp (W := W) (Q := Q) (x := x) (hM.put a (.lst (fs.map rD))) ho hn
    have pse : put M a (.lst (fs.map rD)) a = some (.lst (fs.map rD)) := put_same
    have ni := fun {l : List Int} {Q : VK3} => nin_rD (l := l) (Q := Q) pse
    have lz : fs.length < PySem.sizeLine := by rw [PySem.sizeLine_eq]; omega
    have mi : (if (os.length : Int) < m then (os.length : Int) else m) = min m os.length := by split <;> omega
    rw [List.foldl_cons] at hR
    simp only [b_law_choices_f0]
    by_cases c1 : ((pick os x).length : Int) = min m os.length
    · by_cases c2 : pick os x ∈ fs
      · have e : dstep os (min m os.length) fs x = fs := if_neg fun z => z.2 c2
        rw [e] at hR
        simp [compSt3, ↓pc, mi, ↓ni, c1, c2]
        exact ih fs _ _ (by omega) hR
      · have e : dstep os (min m os.length) fs x = fs ++ [pick os x] := if_pos ⟨c1, c2⟩
        rw [e] at hR
        have e2 : fs.map rD ++ [.rol ((pick os x).map D.int)] = (fs ++ [pick os x]).map rD := by rw [List.map_append]; rfl
        simp [compSt3, ↓pc, mi, ↓ni, c1, c2, appQ, appQ2, pse, lz, put_put]
        have e2' := e2
        simp only [List.map_append] at e2'
        try rw [e2]
        exact ih _ _ _ (by rw [List.length_append, List.length_singleton]; omega) hR
    · have e : dstep os (min m os.length) fs x = fs := if_neg fun z => c1 z.1
      rw [e] at hR
      simp [compSt3, ↓pc, mi, ↓ni, c1]
      exact ih fs _ _ (by omega) hR
theorem ints_k : ∀ {l : List Int}, intsK (l.map D.int) = some l
  | [] => rfl
  | x :: l => by simp only [List.map_cons, intsK, ints_k (l := l)]
theorem lists_rD : ∀ {fs : LL}, listsD (fs.map rD) = some fs
  | [] => rfl
  | l :: fs => by
    have ih := lists_rD (fs := fs)
    simp only [List.map_cons, rD, listsD, ints_k] at ih ⊢
    rw [ih]
theorem c_due {h a' m : Int} (hM : Fm M) (hn : ok h a') (hk : sortLok (dueF (oths h a') (min m (oths h a').length)) = true) (hR : Q (.rol ((due (oths h a') (min m (oths h a').length)).map rD)) M) : wpCall T (B cls kls fad) (n + 1) 4 [.int h, .int a', .int m] M Q E := by
  have ol := oth_len hn
  obtain ⟨h1, h2, h3⟩ := hn
  simp only [u_law_choices, b_law_choices]
  have oc := fun {W : WC} {Q : VK3} => oth_comp (W := W) (Q := Q) (a := a') hM h3
  simp [compSt3, ↓oc, show -4611686018427387904 ≤ h by omega, show h < 4611686018427387904 by omega]
  intro p hp
  rw [rng_ints]
  refine d_loop ol oth_nn hM hp _ [] none none (by simp) fun x5 x6 => ?_
  rw [show ((List.range 64).map fun i : Nat => (i : Int)).foldl (dstep (oths h a') (min m (oths h a').length)) [] = dueF (oths h a') (min m (oths h a').length) from rfl]
  have so := sortLx_ok hk
  have sl := (lok_le hk).1
  have e1 : lstOf (put M p (.lst ((dueF (oths h a') (min m (oths h a').length)).map rD))) (.ref p) = some ((dueF (oths h a') (min m (oths h a').length)).map rD) := by simp [lstOf, put_same]
  have e2 : ((sortLx (dueF (oths h a') (min m (oths h a').length))).map fun i => ((dueF (oths h a') (min m (oths h a').length)).map rD).getD i .non) = (due (oths h a') (min m (oths h a').length)).map rD := by
    unfold due
    rw [List.map_map]
    refine List.map_congr_left fun i hi => ?_
    have := so.2 i hi
    simp [this]
  have sr : ∀ {Q' : VK3}, rBi (.sortedL true) [.ref p] (put M p (.lst ((dueF (oths h a') (min m (oths h a').length)).map rD))) Q' = Q' (.rol ((due (oths h a') (min m (oths h a').length)).map rD)) (put M p (.lst ((dueF (oths h a') (min m (oths h a').length)).map rD))) := fun {Q'} => by
    simp only [rBi, e1, lists_rD, e2]
    refine propext ⟨fun z => z.2.2, fun z => ⟨hk, ?_, z⟩⟩
    rw [List.length_map]
    unfold due
    rw [List.length_map, so.1, PySem.sizeLine_eq]
    omega
  simp [-bi_sortedL, ↓sr, hp]
  exact hR
theorem c_cell (ns : List Int) (k : Nat) : ∃ x : Int, ∀ {n : Nat} {M : MH} {Q : VK3} {E : XN}, wpCall T (B cls kls fad) (n + 1) 2 [scr ns, .int k] M Q E = Q (.int x) M := by
  by_cases h : k < ns.length
  · obtain ⟨x, hx⟩ := at_ex (cs := ns) (i := k) (by omega) (by omega)
    refine ⟨x, ?_⟩
    intro n M Q E
    simp [u_law_cell_at, b_law_cell_at, scr, ix_at hx, h]
  · refine ⟨0, ?_⟩
    intro n M Q E
    simp [u_law_cell_at, b_law_cell_at, scr, h]
theorem c_number (c lo hi : Int) (h : lo ≤ hi) : ∃ x : Int, ∀ {n : Nat} {M : MH} {Q : VK3} {E : XN}, wpCall T (B cls kls fad) (n + 1) 5 [.int c, .int lo, .int hi] M Q E = Q (.int x) M := by
  have v : CMulB 2 1000000000000000000000000000000 = True := cmulb (by decide) (by decide) (by decide) (by decide)
  by_cases k : c % 7 = 3
  · refine ⟨c / 7 % 2000000000000000000000000000000 - 1000000000000000000000000000000, fun {n M Q E} => ?_⟩
    simp [u_law_number, b_law_number, k, cdivb, cpow, sizeK, v]
  · refine ⟨lo + c / 7 % (hi - lo + 1), fun {n M Q E} => ?_⟩
    simp [u_law_number, b_law_number, k, cdivb, show 0 < hi - lo + 1 by omega]
theorem l_in {De : Ends3} {ES : St3 → XN} {R : Prop} {S : MH → Prop} (hS : S M) {x0 x1 : Option D} : ∀ (l : List Int) (x2 : Option D), (∀ x2, De.nx [x0, x1, x2] M = R) →
    forI ⟨(B cls kls fad), wpCall T (B cls kls fad) n⟩ (.name 2) b_law_lists_f0 ES S De (l.map D.int) [x0, x1, x2] M = R
  | [], x2, h => by
    rw [List.map_nil, for_nil, h]
    simp [hS]
  | i :: l, x2, h => by
    have ih := l_in (De := De) (ES := ES) (x0 := x0) (x1 := x1) hS l (some (.int i)) h
    rw [List.map_cons, for_cons]
    generalize forI ⟨(B cls kls fad), wpCall T (B cls kls fad) n⟩ (.name 2) b_law_lists_f0 ES S De (l.map D.int) = KK at ih ⊢
    simp only [b_law_lists_f0]
    simp [hS, ih]
theorem l_out {De : Ends3} {ES : St3 → XN} {R : Prop} {S : MH → Prop} (hS : S M) {x0 : Option D} : ∀ (qs : List PySem.Addr) (ls : LL) (x1 x2 : Option D), Own M qs ls → (∀ x1 x2, De.nx [x0, x1, x2] M = R) →
    forI ⟨(B cls kls fad), wpCall T (B cls kls fad) n⟩ (.name 1) b_law_lists_f1 ES S De (qs.map D.ref) [x0, x1, x2] M = R
  | [], ls, x1, x2, o, h => by
    rw [List.map_nil, for_nil, h]
    simp [hS]
  | q :: qs, ls, x1, x2, o, h => by
    obtain ⟨l, r, rfl, g, t⟩ := o
    have ih := fun x1 x2 => l_out (De := De) (ES := ES) (x0 := x0) hS qs r x1 x2 t h
    rw [List.map_cons, for_cons]
    generalize forI ⟨(B cls kls fad), wpCall T (B cls kls fad) n⟩ (.name 1) b_law_lists_f1 ES S De (qs.map D.ref) = KK at ih ⊢
    have ib : ∀ {Q : VK3}, isBT .list (.ref q) M Q = Q (.bl true) M := fun {Q} => by simp [isBT, g]
    simp only [b_law_lists_f1]
    simp [hS, ↓ib, walk_ref g]
    refine iff_of_eq (l_in (S := fun M => M q = some (.lst (l.map D.int))) g l x2 fun x2 => ?_)
    simp [ih]
theorem c_lists {qs : List PySem.Addr} {ls : LL} (hb : M p = some (.lst (qs.map D.ref))) (o : Own M qs ls) : wpCall T (B cls kls fad) (n + 1) 7 [.ref p] M Q E = Q (.bl true) M := by
  have ib : ∀ {Q : VK3}, isBT .list (.ref p) M Q = Q (.bl true) M := fun {Q} => by simp [isBT, hb]
  simp only [u_law_lists, b_law_lists]
  simp [↓ib, walk_ref hb]
  refine iff_of_eq (l_out (S := fun M => M p = some (.lst (qs.map D.ref))) hb qs ls none none o fun x1 x2 => ?_)
  simp
theorem res_own {M : MH} : ∀ {qs : List PySem.Addr} {ls : LL}, Own M qs ls → (qs.map D.ref).map (res M) = ls.map rD
  | [], _, h => by rw [show _ = [] from h]; rfl
  | q :: qs, _, h => by
    obtain ⟨l, r, rfl, g, t⟩ := h
    rw [List.map_cons, List.map_cons, res_own t, List.map_cons]
    have : res M (.ref q) = rD l := by simp [res, lstOf, g, rD]
    rw [this]
theorem rs_own {qs : List PySem.Addr} {ls : LL} (hb : M p = some (.lst (qs.map D.ref))) (o : Own M qs ls) : rs M (.ref p) = .rol (ls.map rD) := by
  have e : lstOf M (.ref p) = some (qs.map D.ref) := by simp [lstOf, hb]
  unfold rs
  rw [e]
  show D.rol _ = _
  have r := res_own o
  split
  · rename_i z
    cases qs with
    | nil => rw [show ls = [] from o]; rfl
    | cons q qs => simp [plN] at z
  · rw [r]
theorem rs_rD {ls : LL} : rs M (.rol (ls.map rD)) = .rol (ls.map rD) := by
  unfold rs
  show D.rol _ = _
  rw [if_pos (show (ls.map rD).all (plN 8) = true from pls_rD)]
theorem pl_ls {ls : LL} : plN 8 (.rol (ls.map rD)) = true := pls_rD (m := 6)
theorem ne_own {qs : List PySem.Addr} {ls : LL} (hb : M p = some (.lst (qs.map D.ref))) (o : Own M qs ls) : rCmp .NotEq (.ref p) (.rol (ls.map rD)) M Q = Q (.bl false) M := by
  have p1 := pl_ls (ls := ls)
  have e1 := eqD_refl 8 p1
  show rEqD true _ _ M Q = _
  simp only [rEqD, rs_own hb o, rs_rD, p1, true_and, e1]
  rfl
theorem eq_own {qs : List PySem.Addr} {ls : LL} (hb : M p = some (.lst (qs.map D.ref))) (o : Own M qs ls) : rCmp .Eq (.ref p) (.rol (ls.map rD)) M Q = Q (.bl true) M := by
  have p1 := pl_ls (ls := ls)
  have e1 := eqD_refl 8 p1
  show rEqD false _ _ M Q = _
  simp only [rEqD, rs_own hb o, rs_rD, p1, true_and, e1]
  rfl
theorem c_wordN {h a m : Int} (hM : Fm M) (hn : ¬ ok h a) (hR : ∀ x, M x = none → Q (.ref x) (put M x (.exc ⟨2, none⟩ (.ref (cls 2))))) : wpCall T (B cls kls fad) (n + 2) 6 [.int h, .int a, .int m] M Q E := by
  simp only [u_law_word, b_law_word]
  simp [c_chN hn]
  exact hR
theorem c_wordM {h a m : Int} (hM : Fm M) (hn : ok h a) (hm : m < 0) (hR : ∀ x, M x = none → Q (.ref x) (put M x (.exc ⟨1, none⟩ (.ref (cls 1))))) : wpCall T (B cls kls fad) (n + 2) 6 [.int h, .int a, .int m] M Q E := by
  simp only [u_law_word, b_law_word]
  simp [c_chM hn hm]
  exact hR
theorem c_wordO {h a m : Int} (hM : Fm M) (hn : ok h a) (hm : 0 ≤ m) (hR : ∀ M', Ext M M' → Q .non M') : wpCall T (B cls kls fad) (n + 3) 6 [.int h, .int a, .int m] M Q E := by
  simp only [u_law_word, b_law_word]
  simp
  refine c_choices hM hn hm fun M' b rs x e1 e2 => ?_
  try simp
  exact hR M' x
noncomputable def b_fin : ISs := .cons (.set 4 (.call 6 (.cons (.var 1) (.cons (.var 2) (.cons (.var 3) (.nil)))))) (.cons (.ifs (.or (.not (.chain .LtE .LtE (.con (.int 1)) (.var 1) (.con (.int 6)))) (.not (.chain .LtE .Lt (.con (.int 0)) (.var 2) (.var 1)))) (.cons (.ret (.and (.isC (.var 4) 2) (.not (.isC (.var 4) 1)))) (.nil)) (.nil)) (.cons (.ifs (.cmp .Lt (.var 3) (.con (.int 0))) (.cons (.ret (.and (.isC (.var 4) 1) (.not (.isC (.var 4) 2)))) (.nil)) (.nil)) (.cons (.ifs (.cmp .IsNot (.var 4) (.con .non)) (.cons (.ret (.con (.bl false))) (.nil)) (.nil)) (.cons (.set 5 (.call 4 (.cons (.var 1) (.cons (.var 2) (.cons (.var 3) (.nil)))))) (.cons (.set 6 (.call 1 (.cons (.var 1) (.cons (.var 2) (.cons (.var 3) (.nil)))))) (.cons (.ifs (.or (.not (.val (.call 7 (.cons (.var 6) (.nil))))) (.cmp .NotEq (.var 6) (.var 5))) (.cons (.ret (.con (.bl false))) (.nil)) (.nil)) (.cons (.app (.ix (.var 6) (.con (.int 0))) (.con (.int 7))) (.cons (.expr (.bm .clear (.var 6) (.nil))) (.cons (.ret (.and (.cmp .Eq (.call 1 (.cons (.var 1) (.cons (.var 2) (.cons (.var 3) (.nil))))) (.var 5)) (.cmp .Eq (.call 1 (.cons (.var 1) (.cons (.var 2) (.cons (.con (.int 0)) (.nil))))) (.lst true (.cons (.lst true (.nil)) (.nil)))))) (.nil))))))))))
theorem b_law_eq : b_law = .cons (.set 1 (.call 5 (.cons (.call 2 (.cons (.var 0) (.cons (.con (.int 0)) (.nil)))) (.cons (.neg (.con (.int 2))) (.cons (.con (.int 8)) (.nil)))))) (.cons (.set 2 (.call 5 (.cons (.call 2 (.cons (.var 0) (.cons (.con (.int 1)) (.nil)))) (.cons (.neg (.con (.int 2))) (.cons (.con (.int 8)) (.nil)))))) (.cons (.set 3 (.call 5 (.cons (.call 2 (.cons (.var 0) (.cons (.con (.int 2)) (.nil)))) (.cons (.neg (.con (.int 3))) (.cons (.con (.int 8)) (.nil)))))) (.cons (.ifs (.cmp .Gt (.bin .Mod (.call 2 (.cons (.var 0) (.cons (.con (.int 3)) (.nil)))) (.con (.int 3))) (.con (.int 0))) (.cons (.set 1 (.bin .Add (.con (.int 1)) (.bin .Mod (.call 2 (.cons (.var 0) (.cons (.con (.int 0)) (.nil)))) (.con (.int 6))))) (.cons (.set 2 (.bin .Mod (.call 2 (.cons (.var 0) (.cons (.con (.int 1)) (.nil)))) (.var 1))) (.nil))) (.nil)) (b_fin)))) := rfl
theorem fin {De : Ends3} {ES : St3 → XN} {h a m : Int} {x0 : Option D} (hM : Fm M) (hR : ∀ M', De.rt (.bl true) M') : wpSs ⟨(B cls kls fad), wpCall T (B cls kls fad) 3⟩ b_fin De ES [x0, some (.int h), some (.int a), some (.int m), none, none, none] M := by
  unfold b_fin
  by_cases hn : ok h a
  · have hn' := hn
    obtain ⟨h1, h2, h3⟩ := hn
    by_cases hm : m < 0
    · simp
      refine c_wordM (n := 1) hM hn' hm fun x hx => ?_
      simp [h1, h2, h3, hm, show 1 ≤ h by omega, show ¬ 6 < h by omega, show ¬ h ≤ a by omega, isCT, put_same, hR]
    · have hm' : 0 ≤ m := by omega
      have ol := oth_len hn'
      have ak := all_ok ⟨h.toNat, by omega⟩ ⟨a.toNat, by omega⟩ (by show a.toNat < h.toNat; omega) ⟨(min m (oths h a).length).toNat, by omega⟩
      simp only [Int.toNat_of_nonneg h1, Int.toNat_of_nonneg (show 0 ≤ h by omega), Int.toNat_of_nonneg (show 0 ≤ min m (oths h a).length by omega)] at ak
      obtain ⟨f1, f2, f3⟩ := ak (by omega)
      simp
      refine c_wordO (n := 0) hM hn' hm' fun M1 x1 => ?_
      simp [h1, h2, h3, hm, show 1 ≤ h by omega, show ¬ 6 < h by omega, show ¬ h ≤ a by omega, D.isN]
      refine c_due (n := 2) x1.1 hn' f1 ?_
      refine c_choices (n := 1) x1.1 hn' hm' fun M2 b rs x2 e1 e2 => ?_
      rw [f2]
      have k5 : (min m (oths h a).length).toNat ≤ 5 := by omega
      have hin : ∀ l ∈ chs (oths h a) (min m (oths h a).length).toNat, l.length ≤ 5 := fun l hl => Nat.le_trans (chs_in _ l hl) k5
      generalize hC : chs (oths h a) (min m (oths h a).length).toNat = C at e2 f3 hin
      have cl := fun {Q : VK3} {E : XN} => c_lists (n := 2) (cls := cls) (kls := kls) (fad := fad) (Q := Q) (E := E) e1 e2
      have ne := fun {Q : VK3} => ne_own (Q := Q) e1 e2
      simp [↓cl, ↓ne]
      cases rs with
      | nil => rw [show C = [] from e2] at f3; cases f3
      | cons q rs' =>
        obtain ⟨l, r, eC, g, t⟩ := e2
        have ll : l.length ≤ 5 := hin l (by rw [eC]; exact List.mem_cons_self)
        have nbq : b ≠ q := fun z => by
          rw [z, g] at e1
          cases l with
          | nil => cases e1
          | cons y l => cases e1
        have lz : l.length < PySem.sizeLine := by rw [PySem.sizeLine_eq]; omega
        rw [ix_ref e1, List.map_cons, ix_r0]
        simp [appQ, g, lz]
        have e3 : put M2 q (.lst (l.map D.int ++ [.int 7])) b = some (.lst ((q :: rs').map D.ref)) := by rw [put_ne nbq]; exact e1
        have F4 : Fm (put (put M2 q (.lst (l.map D.int ++ [.int 7]))) b (.lst [])) := (x2.1.put _ _).put _ _
        simp [isLstM, e3, bm_clear e3]
        refine c_choices (n := 1) F4 hn' hm' fun M5 b5 r5 x5 g1 g2 => ?_
        rw [hC] at g2
        have q1 := fun {Q : VK3} => eq_own (Q := Q) g1 g2
        simp [↓q1]
        refine c_choices (n := 1) x5.1 hn' (m := 0) (by omega) fun M6 b6 r6 x6 g3 g4 => ?_
        rw [show (min 0 ((oths h a).length : Int)).toNat = 0 by omega] at g4
        have q2 := fun {Q : VK3} => eq_own (Q := Q) g3 (show Own M6 r6 [[]] from g4)
        simp only [List.map_cons, List.map_nil, rD] at q2
        simp [↓q2]
        exact ⟨by rw [PySem.sizeLine_eq]; omega, hR _⟩
  · simp
    refine c_wordN (n := 1) hM hn fun x hx => ?_
    unfold ok at hn
    by_cases k1 : 1 ≤ h
    · by_cases k2 : 6 < h
      · simp [k1, k2, isCT, put_same, hR]
      · by_cases k3 : 0 ≤ a
        · simp [k1, k2, k3, show h ≤ a by omega, isCT, put_same, hR]
        · simp [k1, k2, k3, isCT, put_same, hR]
    · simp [k1, isCT, put_same, hR]
theorem main (cls kls fad : Nat → PySem.Addr) (ns : List Int) (hl : ns.length ≤ 63) : wpCall (L.map FL.fb) (B cls kls fad) 4 8 [scr ns] (fun _ => none) (fun d _ => d = .bl true) (fun _ _ => False) := by
  rw [T_eq]
  simp only [u_law, b_law_eq]
  obtain ⟨c0, h0⟩ := c_cell (cls := cls) (kls := kls) (fad := fad) ns 0
  obtain ⟨c1, h1⟩ := c_cell (cls := cls) (kls := kls) (fad := fad) ns 1
  obtain ⟨c2, h2⟩ := c_cell (cls := cls) (kls := kls) (fad := fad) ns 2
  obtain ⟨c3, h3⟩ := c_cell (cls := cls) (kls := kls) (fad := fad) ns 3
  obtain ⟨n0, k0⟩ := c_number (cls := cls) (kls := kls) (fad := fad) c0 (-2) 8 (by decide)
  obtain ⟨n1, k1⟩ := c_number (cls := cls) (kls := kls) (fad := fad) c1 (-2) 8 (by decide)
  obtain ⟨n2, k2⟩ := c_number (cls := cls) (kls := kls) (fad := fad) c2 (-3) 8 (by decide)
  have h0' := fun {M : MH} {Q : VK3} {E : XN} => h0 (n := 2) (M := M) (Q := Q) (E := E)
  have h1' := fun {M : MH} {Q : VK3} {E : XN} => h1 (n := 2) (M := M) (Q := Q) (E := E)
  have h2' := fun {M : MH} {Q : VK3} {E : XN} => h2 (n := 2) (M := M) (Q := Q) (E := E)
  have h3' := fun {M : MH} {Q : VK3} {E : XN} => h3 (n := 2) (M := M) (Q := Q) (E := E)
  have k0' := fun {M : MH} {Q : VK3} {E : XN} => k0 (n := 2) (M := M) (Q := Q) (E := E)
  have k1' := fun {M : MH} {Q : VK3} {E : XN} => k1 (n := 2) (M := M) (Q := Q) (E := E)
  have k2' := fun {M : MH} {Q : VK3} {E : XN} => k2 (n := 2) (M := M) (Q := Q) (E := E)
  simp at h0' h1' h2' h3'
  by_cases z : 0 < c3 % 3
  · have z6 : ¬ (1 + c0 % 6 = 0) := by omega
    have z7 : 0 < 1 + c0 % 6 := by omega
    simp [↓h0', ↓h1', ↓h2', ↓h3', ↓k0', ↓k1', ↓k2', z, cdivb, z6, z7]
    exact fin Fm.nil fun _ => rfl
  · simp [↓h0', ↓h1', ↓h2', ↓h3', ↓k0', ↓k1', ↓k2', z, cdivb]
    exact fin Fm.nil fun _ => rfl
end
end G
open PySem PySem.W PyProof.Rows
set_option maxRecDepth 100000 in
set_option maxHeartbeats 0 in
theorem PySem.Challenge.cw_driftmeet_k62_choices_of_liars_holds : PySem.Challenge.rw_driftmeet_k62_choices_of_liars.Holds := by
  w_on; o_law; k_head; (case hw => w_witness2)
  k_fill
  refine L2.walkD (l := PySem.Challenge.rw_driftmeet_k62_choices_of_liars) (k := 4) (f := 8) (fl := G.l_law) (x := "_law_script") (L := G.L) (nm := G.nm) (BB := G.B) rfl rfl ⟨rfl, by decide, by decide⟩ (fun w h Y => PySem.W.kIn_of Y) rfl rfl rfl rfl ?F (fun cls kls fad ns hl => G.main cls kls fad ns hl)
  case F =>
    intro w mg h KX Gn
    refine' G.top_mk KX Gn ?a0 ?l0 ?d0 ?k0 ?a1 ?l1 ?d1 ?k1 ?a2 ?l2 ?d2 ?k2 ?a3 ?l3 ?d3 ?k3 ?a4 ?l4 ?d4 ?k4 ?a5 ?l5 ?d5 ?k5 ?a6 ?l6 ?d6 ?k6 ?a7 ?l7 ?d7 ?k7 ?a8 ?l8 ?d8 ?k8 ?e0 ?x0 ?e1 ?x1 ?e2 ?x2 ?m0_0 ?m0_1 ?m0_2 ?m1_0 ?m1_1 ?m1_2 ?m2_0 ?m2_1 ?m2_2 ?hd0 ?ga0 ?gn0 ?cl0 ?mo0 ?mb0 ?kv0 ?k0_0 ?k0_1 ?k0_2 ?hd1 ?ga1 ?gn1 ?cl1 ?mo1 ?mb1 ?kv1 ?k1_0 ?k1_1 ?k1_2 ?hd2 ?ga2 ?gn2 ?cl2 ?mo2 ?mb2 ?kv2 ?k2_0 ?k2_1 ?k2_2 ?sn ?st ?gl0 ?z0 ?z1 ?z2 ?z3 ?z4 ?z5 ?z6 ?z7 ?z8 ?z9 ?z10 ?z11 ?z12 ?z13 ?z14 ?z15 ?z16 ?z17 ?z18 ?z19 ?dg1
    (case a0 => k_is)
    (case l0 => k_is)
    (case d0 => k_is)
    (case k0 => k_is)
    (case a1 => k_is)
    (case l1 => k_is)
    (case d1 => k_is)
    (case k1 => k_is)
    (case a2 => k_is)
    (case l2 => k_is)
    (case d2 => k_is)
    (case k2 => k_is)
    (case a3 => k_is)
    (case l3 => k_is)
    (case d3 => k_is)
    (case k3 => k_is)
    (case a4 => k_is)
    (case l4 => k_is)
    (case d4 => k_is)
    (case k4 => k_is)
    (case a5 => k_is)
    (case l5 => k_is)
    (case d5 => k_is)
    (case k5 => k_is)
    (case a6 => k_is)
    (case l6 => k_is)
    (case d6 => k_is)
    (case k6 => k_is)
    (case a7 => k_is)
    (case l7 => k_is)
    (case d7 => k_is)
    (case k7 => k_is)
    (case a8 => k_is)
    (case l8 => k_is)
    (case d8 => k_is)
    (case k8 => k_is)
    (case e0 => k_is)
    (case x0 => k_exc)
    (case e1 => k_is)
    (case x1 => k_exc)
    (case e2 => k_is)
    (case x2 => k_exc)
    (case m0_0 => kts_exm)
    (case m0_1 => kts_exm)
    (case m0_2 => kts_exm)
    (case m1_0 => kts_exm)
    (case m1_1 => kts_exm)
    (case m1_2 => kts_exm)
    (case m2_0 => kts_exm)
    (case m2_1 => kts_exm)
    (case m2_2 => kts_exm)
    (case hd0 => k_is)
    (case ga0 => k_is)
    (case gn0 => k_is)
    (case cl0 => k_is)
    (case mo0 => k_is)
    (case mb0 => k_is)
    (case kv0 => kit_is)
    (case k0_0 => kit_is)
    (case k0_1 => kit_is)
    (case k0_2 => kit_is)
    (case hd1 => k_is)
    (case ga1 => k_is)
    (case gn1 => k_is)
    (case cl1 => k_is)
    (case mo1 => k_is)
    (case mb1 => k_is)
    (case kv1 => kit_is)
    (case k1_0 => kit_is)
    (case k1_1 => kit_is)
    (case k1_2 => kit_is)
    (case hd2 => k_is)
    (case ga2 => k_is)
    (case gn2 => k_is)
    (case cl2 => k_is)
    (case mo2 => k_is)
    (case mb2 => k_is)
    (case kv2 => kit_is)
    (case k2_0 => kit_is)
    (case k2_1 => kit_is)
    (case k2_2 => kit_is)
    (case sn => k_is)
    (case st => k_is)
    (case gl0 => k_is)
    (case z0 => k_is)
    (case z1 => k_is)
    (case z2 => k_is)
    (case z3 => k_is)
    (case z4 => k_is)
    (case z5 => k_is)
    (case z6 => k_is)
    (case z7 => k_is)
    (case z8 => k_is)
    (case z9 => k_is)
    (case z10 => k_is)
    (case z11 => k_is)
    (case z12 => k_is)
    (case z13 => k_is)
    (case z14 => k_is)
    (case z15 => k_is)
    (case z16 => k_is)
    (case z17 => k_is)
    (case z18 => k_is)
    (case z19 => k_is)
    (case dg1 => k_is)
