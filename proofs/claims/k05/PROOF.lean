import PyProof.Rows.All
import Wide.All
import OpenK.AllK
import Wide.FinOn
import Lean
import PyProof.EqAt
import PyProof.EqKinds
import PyProof.TupleCall
import PyProof.P3Eq
import PySem.Challenge.RW_laidcells_k05_whole_cells_written_otherw
set_option Elab.async false
set_option linter.all false
set_option maxRecDepth 100000
namespace L2
open PySem PySem.Spec PyProof.Rows
noncomputable abbrev Key := Sum Int Str
noncomputable def keyIs : Key → Value → Bool
  | .inl k, v => Value.isInt k v
  | .inr x, v => Value.isStrOf x v
noncomputable def keyH (w : World) : Key → Int
  | .inl k => hashInt k
  | .inr x => hashStr w x
theorem keyIs_shape : ∀ {k : Key} {v : Value}, keyIs k v = true → (∃ i t, k = Sum.inl i ∧ v = Value.int i t) ∨ (∃ x t, k = Sum.inr x ∧ v = Value.str x t)
  | .inl i, v, h => by
    obtain ⟨t, e⟩ := Value.isInt_shape (k := i) (v := v) h
    exact .inl ⟨i, t, rfl, e⟩
  | .inr x, v, h => by
    obtain ⟨t, e⟩ := Value.isStrOf_shape (x := x) (v := v) h
    exact .inr ⟨x, t, rfl, e⟩
theorem keyIs_int (i : Int) (t : Tok) : keyIs (.inl i) (.int i t) = true := by simp [keyIs, Value.isInt]
theorem keyIs_str (x : Str) (t : Tok) : keyIs (.inr x) (.str x t) = true := by simp [keyIs, Value.isStrOf]
theorem key_ll (a b : Int) : decide ((Sum.inl a : Key) = Sum.inl b) = (a == b) := by
  by_cases e : a = b
  · subst e; simp
  · have h : ¬ (Sum.inl a : Key) = Sum.inl b := fun q => e (Sum.inl.inj q)
    rw [decide_eq_false h]
    exact (beq_eq_false_iff_ne.mpr e).symm
theorem key_rr (a b : Str) : decide ((Sum.inr a : Key) = Sum.inr b) = decide (a = b) := by
  by_cases e : a = b
  · subst e; simp
  · have h : ¬ (Sum.inr a : Key) = Sum.inr b := fun q => e (Sum.inr.inj q)
    rw [decide_eq_false h, decide_eq_false e]
theorem key_lr (a : Int) (b : Str) : decide ((Sum.inl a : Key) = Sum.inr b) = false := decide_eq_false (fun q => nomatch q)
theorem key_rl (a : Str) (b : Int) : decide ((Sum.inr a : Key) = Sum.inl b) = false := decide_eq_false (fun q => nomatch q)
noncomputable def mixKind (prog : Program) (w : World) : PySem.KeyKind prog w Key where
  is := keyIs
  hash := keyH w
  inj := fun v a b ha hb => by
    rcases keyIs_shape ha with ⟨i, t, rfl, rfl⟩ | ⟨x, t, rfl, rfl⟩
    · rcases keyIs_shape hb with ⟨j, u, rfl, e⟩ | ⟨y, u, rfl, e⟩
      · injection e with e1 _; rw [e1]
      · exact nomatch e
    · rcases keyIs_shape hb with ⟨j, u, rfl, e⟩ | ⟨y, u, rfl, e⟩
      · exact nomatch e
      · injection e with e1 _; rw [e1]
  byValue := fun k v h => by
    rcases keyIs_shape h with ⟨i, t, rfl, rfl⟩ | ⟨x, t, rfl, rfl⟩ <;> rfl
  pyHash := fun hv h => by
    rcases keyIs_shape hv with ⟨i, t, rfl, rfl⟩ | ⟨x, t, rfl, rfl⟩
    · exact wpAny_pyHash_int h
    · exact wpAny_pyHash_str h
  eqBool := fun hu hv h => by
    rcases keyIs_shape hu with ⟨i, t, rfl, rfl⟩ | ⟨x, t, rfl, rfl⟩
    · rcases keyIs_shape hv with ⟨j, u, rfl, rfl⟩ | ⟨y, u, rfl, rfl⟩
      · rw [key_ll] at h; exact wpAny_eqBool_int h
      · rw [key_lr] at h; exact SeqAt.EqAt.int_str i t y u _ _ _ _ h
    · rcases keyIs_shape hv with ⟨j, u, rfl, rfl⟩ | ⟨y, u, rfl, rfl⟩
      · rw [key_rl] at h; exact SeqAt.EqAt.str_int x t j u _ _ _ _ h
      · rw [key_rr] at h; exact wpAny_eqBool_str h
  «strs» := fun k x t v h => by
    rcases keyIs_shape h with ⟨i, u, rfl, e⟩ | ⟨y, u, rfl, e⟩
    · exact nomatch e
    · injection e with e1 _
      subst e1
      cases v <;> rfl
theorem mixKind_int (prog : Program) (w : World) (i : Int) (t : Tok) : (mixKind prog w).is (.inl i) (.int i t) = true := keyIs_int i t
theorem mixKind_str (prog : Program) (w : World) (x : Str) (t : Tok) : (mixKind prog w).is (.inr x) (.str x t) = true := keyIs_str x t
end L2
namespace L2
open PySem PySem.Spec PyProof.Rows
inductive V where
  | non | bl (b : Bool) | int (i : Int) | str (x : Str) | byt (b : Array UInt8) | flt (b : UInt64) | ref (a : Addr) | ty (n : String)
  deriving DecidableEq
noncomputable def RelV : V → Value → Prop
  | .non, u => u = Value.none
  | .bl b, u => u = Value.bool b
  | .int i, u => ∃ t, u = Value.int i t
  | .str x, u => ∃ t, u = Value.str x t
  | .byt b, u => ∃ t, u = Value.bytes b t
  | .flt b, u => ∃ t, u = Value.float b t
  | .ref a, u => u = Value.ref a
  | .ty n, u => u = Value.type n
noncomputable abbrev Vals : List V → List Value → Prop := Paired RelV
theorem Vals.length {xs : List V} {us : List Value} (r : Vals xs us) : xs.length = us.length := Paired.length r
theorem Vals.get : ∀ {xs : List V} {us : List Value} {i : Nat} {x : V}, Vals xs us → xs[i]? = some x → ∃ u, us[i]? = some u ∧ RelV x u
  | _, _, _, _, .nil, e => by simp at e
  | _, _, 0, _, .cons r _, e => by simp at e; subst e; exact ⟨_, rfl, r⟩
  | _, _, i + 1, x, .cons _ t, e => by
    obtain ⟨u, h1, h2⟩ := Vals.get (i := i) (x := x) t (by simpa using e)
    exact ⟨u, by simpa using h1, h2⟩
theorem Vals.set {x : V} {u : Value} (r : RelV x u) : ∀ {xs : List V} {us : List Value} (i : Nat), Vals xs us → Vals (xs.set i x) (us.set i u)
  | _, _, _, .nil => .nil
  | _, _, 0, .cons _ t => .cons r t
  | _, _, i + 1, .cons q t => .cons q (Vals.set r i t)
theorem Vals.append : ∀ {xs ys : List V} {us ws : List Value}, Vals xs us → Vals ys ws → Vals (xs ++ ys) (us ++ ws)
  | _, _, _, _, .nil, s => s
  | _, _, _, _, .cons r t, s => .cons r (Vals.append t s)
theorem Vals.take : ∀ {xs : List V} {us : List Value} (n : Nat), Vals xs us → Vals (xs.take n) (us.take n)
  | _, _, 0, _ => .nil
  | _, _, _ + 1, .nil => .nil
  | _, _, n + 1, .cons r t => .cons r (Vals.take n t)
theorem Vals.drop : ∀ {xs : List V} {us : List Value} (n : Nat), Vals xs us → Vals (xs.drop n) (us.drop n)
  | _, _, 0, r => r
  | _, _, _ + 1, .nil => .nil
  | _, _, n + 1, .cons _ t => Vals.drop n t
noncomputable def RelO : Option V → Option Value → Prop
  | some v, some u => RelV v u
  | none, none => True
  | _, _ => False
noncomputable def KV {κ : Type} : List (κ × V) → List (κ × Value) → Prop := Paired fun (p : κ × V) (q : κ × Value) => p.1 = q.1 ∧ RelV p.2 q.2
noncomputable def kV : Key → V
  | .inl i => .int i
  | .inr x => .str x
inductive HO where
  | lst (xs : List V)
  | tup (xs : List V)
  | dK (kvs : List (Key × V)) | dT (kvs : List (List Key × V))
  | set (S : Int → Bool) (n : Nat)
  | ins (C dx : Addr) (fs : List (Str × V))
  | own (x : Addr)
  | xd (fs : List (Str × V))
  | met (f x : Addr)
  | rng (lo hi : Int)
  | frz (o : Obj) (u : HO)
  | tbl (ps : Array Value)
  | ext (φ : Heap → Prop)
noncomputable abbrev Hp := Addr → Option HO
noncomputable def upd (H : Hp) (a : Addr) (o : HO) : Hp := fun b => if b = a then some o else H b
theorem upd_same {H : Hp} {a : Addr} {o : HO} : upd H a o a = some o := by unfold upd; rw [if_pos rfl]
theorem upd_ne {H : Hp} {a b : Addr} {o : HO} (h : b ≠ a) : upd H a o b = H b := by unfold upd; rw [if_neg h]
theorem upd_upd {H : Hp} {a : Addr} {o u : HO} : upd (upd H a o) a u = upd H a u := by
  funext b; unfold upd; split <;> rfl
theorem ne_of {H : Hp} {a b : Addr} {o u : HO} (h : H a = some o) (h' : H b = some u) (d : o ≠ u) : a ≠ b := by
  intro e; subst e; rw [h] at h'; exact d (Option.some.inj h')
theorem ne_of_none {H : Hp} {a b : Addr} {o : HO} (h : H a = some o) (h' : H b = none) : a ≠ b := by
  intro e; subst e; rw [h] at h'; cases h'
section
variable (P : Program) (w : World)
noncomputable def IsTupN (h : Heap) (a : Addr) (items : Array Value) : Prop := IsTup h a items ∧ ∃ o, h.get? a = some o ∧ o.dict = none
theorem IsTupN.new (h : Heap) (items : Array Value) : IsTupN (h.push { cls := .type "tuple", data := .seq items }) h.objs.size items := ⟨IsTup.new _ _, _, Heap.get?_push_size _ rfl, rfl⟩
noncomputable def ObjOk (H : Hp) (h : Heap) (a : Addr) : HO → Prop
  | .lst xs => xs.length ≤ sizeLine ∧ ∃ (its : List Value) (n : Nat), Vals xs its ∧ h.get? a = some { cls := .type "list", data := .seq its.toArray n }
  | .tup xs => xs.length ≤ sizeLine ∧ ∃ its : List Value, Vals xs its ∧ IsTupN h a its.toArray
  | .dK kvs => kvs.length ≤ sizeLine ∧ (a == sysModules) = false ∧ ∃ vs, KV kvs vs ∧ h.DictOf (mixKind P w) a vs
  | .dT kvs => kvs.length ≤ sizeLine ∧ (a == sysModules) = false ∧ ∃ xs : List (List Key × Addr × Value),
      Paired (fun (p : List Key × V) (q : List Key × Addr × Value) => p.1 = q.1 ∧ H q.2.1 = some (.tup (p.1.map kV)) ∧ RelV p.2 q.2.2) kvs xs ∧
      ∃ o es ep, h.get? a = some o ∧ o.ExactDict ∧ o.data = .dict es ep ∧ es.toList = xs.map (entryOfKey (tupleKind (mixKind P w))) ∧ (xs.map (·.1)).Nodup
  | .set S n => h.SetOf (intKind P w) a S n
  | .ins C dx fs => H dx = some (.own a) ∧ fs.length ≤ 1000 ∧ dx ≠ a ∧ h.get? a = some (PySem.W.instObj C dx) ∧
      ∃ mA, h.Ns1 dx mA ∧ (∀ f, RelO (fs.lookup f) (mA f)) ∧ PySem.Within mA (fs.map (·.1))
  | .own _ => ∃ o, h.get? a = some o
  | .xd fs => ∃ mA, h.Ns1 a mA ∧ ∀ f, RelO (fs.lookup f) (mA f)
  | .rng lo hi => ∃ t u v, h.get? a = some { cls := .type "range", data := .fields #[.int lo t, .int hi u, .int 1 v] }
  | .frz o u => h.get? a = some o ∧ ObjOk H h a u
  | .tbl ps => h.get? a = some { cls := .none, data := .fields ps }
  | .met f x => h.get? a = some (PySem.W.methodObj (.ref f) (.ref x))
  | .ext φ => φ h ∧ (∃ o, h.get? a = some o) ∧ ∀ h1 h2 : Heap, φ h1 → (∀ o, h1.get? a = some o → h2.get? a = some o) → φ h2
noncomputable def HOk (H : Hp) (h : Heap) : Prop := ∀ a o, H a = some o → ObjOk P w H h a o
end
section
variable {P : Program} {w : World} {H H' : Hp} {h h' : Heap} {a : Addr} {o : HO}
theorem ObjOk.lt (x : ObjOk P w H h a o) : a < h.objs.size := by
  cases o with
  | lst xs => obtain ⟨_, _, _, _, e⟩ := x; exact Heap.lt_size e
  | tup xs => obtain ⟨_, _, _, p, _⟩ := x; exact p.lt
  | dK kvs => obtain ⟨_, _, _, _, o, _, _, e, _⟩ := x; exact Heap.lt_size e
  | dT kvs => obtain ⟨_, _, _, _, o, _, _, e, _⟩ := x; exact Heap.lt_size e
  | set S n => obtain ⟨o, _, _, _, e, _⟩ := x; exact Heap.lt_size e
  | ins C dx fs => obtain ⟨_, _, _, e, _⟩ := x; exact Heap.lt_size e
  | own y => obtain ⟨_, e⟩ := x; exact Heap.lt_size e
  | xd fs => obtain ⟨_, ⟨_, _, _, e, _⟩, _⟩ := x; exact Heap.lt_size e
  | rng lo hi => obtain ⟨_, _, _, e⟩ := x; exact Heap.lt_size e
  | frz ob u => obtain ⟨e, _⟩ := x; exact Heap.lt_size e
  | tbl ps => exact Heap.lt_size (show h.get? a = some _ from x)
  | met f y => exact Heap.lt_size (show h.get? a = some _ from x)
  | ext φ => obtain ⟨_, ⟨_, e⟩, _⟩ := x; exact Heap.lt_size e
theorem Paired.mapP {α β : Type} {F G : α → β → Prop} : ∀ {l₁ : List α} {l₂ : List β}, Paired F l₁ l₂ → (∀ a b, F a b → G a b) → Paired G l₁ l₂
  | _, _, .nil, _ => .nil
  | _, _, .cons r t, f => .cons (f _ _ r) (Paired.mapP t f)
theorem ObjOk.stay (x : ObjOk P w H h a o) (k : ∀ b u, (b = a ∨ H b = some (.own a)) → h.get? b = some u → h'.get? b = some u)
    (ho : ∀ b, H b = some (.own a) → H' b = some (.own a)) (ht : ∀ b xs, H b = some (.tup xs) → H' b = some (.tup xs)) : ObjOk P w H' h' a o := by
  induction o with
  | lst xs => obtain ⟨z, its, n, r, e⟩ := x; exact ⟨z, its, n, r, k _ _ (.inl rfl) e⟩
  | tup xs => obtain ⟨z, its, r, ⟨ob, e, c⟩, o2, e2, c2⟩ := x; exact ⟨z, its, r, ⟨ob, k _ _ (.inl rfl) e, c⟩, o2, k _ _ (.inl rfl) e2, c2⟩
  | dK kvs => obtain ⟨z, y, vs, r, ob, es, ep, e, c⟩ := x; exact ⟨z, y, vs, r, ob, es, ep, k _ _ (.inl rfl) e, c⟩
  | dT kvs =>
    obtain ⟨z, y, xs, r, ob, es, ep, e, c⟩ := x
    exact ⟨z, y, xs, Paired.mapP r fun p q z => ⟨z.1, ht _ _ z.2.1, z.2.2⟩, ob, es, ep, k _ _ (.inl rfl) e, c⟩
  | set S n => obtain ⟨ob, es, ep, t, e, c⟩ := x; exact ⟨ob, es, ep, t, k _ _ (.inl rfl) e, c⟩
  | ins C dx fs =>
    obtain ⟨d, z, ne, e, mA, ⟨od, es, ep, e2, c⟩, r⟩ := x
    exact ⟨ho _ d, z, ne, k _ _ (.inl rfl) e, mA, ⟨od, es, ep, k _ _ (.inr d) e2, c⟩, r⟩
  | own y => obtain ⟨ob, e⟩ := x; exact ⟨ob, k _ _ (.inl rfl) e⟩
  | xd fs => obtain ⟨mA, ⟨od, es, ep, e, c⟩, r⟩ := x; exact ⟨mA, ⟨od, es, ep, k _ _ (.inl rfl) e, c⟩, r⟩
  | rng lo hi => obtain ⟨t, u, v, e⟩ := x; exact ⟨t, u, v, k _ _ (.inl rfl) e⟩
  | frz ob u ih => obtain ⟨e, q⟩ := x; exact ⟨k _ _ (.inl rfl) e, ih q⟩
  | tbl ps =>
    have e : h.get? a = some { cls := .none, data := .fields ps } := x
    show h'.get? a = some { cls := .none, data := .fields ps }
    exact k a _ (.inl rfl) e
  | met f y =>
    have e : h.get? a = some (PySem.W.methodObj (.ref f) (.ref y)) := x
    show h'.get? a = some (PySem.W.methodObj (.ref f) (.ref y))
    exact k a _ (.inl rfl) e
  | ext φ => obtain ⟨p, ⟨o, e⟩, st⟩ := x; exact ⟨st _ _ p fun o q => k _ _ (.inl rfl) q, ⟨o, k _ _ (.inl rfl) e⟩, st⟩
theorem HOk.lt (x : HOk P w H h) (e : H a = some o) : a < h.objs.size := (x a o e).lt
theorem HOk.fresh (x : HOk P w H h) (e : h.objs.size ≤ a) : H a = none := by
  cases q : H a with
  | none => rfl
  | some u => exact absurd (Nat.lt_of_lt_of_le (x.lt q) e) (Nat.lt_irrefl _)
theorem HOk.kept (x : HOk P w H h) (k : ∀ b u, h.get? b = some u → h'.get? b = some u) : HOk P w H h' := fun a o e =>
  (x a o e).stay (fun b u _ q => k b u q) (fun _ q => q) fun _ _ q => q
theorem HOk.laid (x : HOk P w H h) (k : ∀ b u, h.get? b = some u → h'.get? b = some u) (hp : h.objs.size ≤ a) (new : ObjOk P w (upd H a o) h' a o) : HOk P w (upd H a o) h' := fun b u e => by
  have hn := x.fresh hp
  by_cases hb : b = a
  · subst hb; rw [upd_same] at e; cases e; exact new
  · rw [upd_ne hb] at e
    exact (x b u e).stay (fun c v _ q => k c v q) (fun c q => by rw [upd_ne (ne_of_none q hn)]; exact q) fun c xs q => by rw [upd_ne (ne_of_none q hn)]; exact q
end
noncomputable def Rd (H : Hp) (a : Addr) (u : HO) : Prop := H a = some u ∨ ∃ o, H a = some (.frz o u)
theorem Rd.ok {P : Program} {w : World} {H : Hp} {h : Heap} {a : Addr} {u : HO} (r : Rd H a u) (x : HOk P w H h) : ObjOk P w H h a u := by
  rcases r with r | ⟨o, r⟩
  · exact x a u r
  · obtain ⟨_, q⟩ := x a _ r
    exact q
noncomputable def Mut : Option HO → Prop
  | some (.lst _) => True
  | some (.dK _) => True
  | some (.dT _) => True
  | some (.set _ _) => True
  | some (.ins _ _ _) => True
  | some (.ext _) => True
  | _ => False
section
variable {P : Program} {w : World} {H : Hp} {h h' : Heap} {x e : Addr} {o' : HO}
theorem HOk.write (ok : HOk P w H h) (mu : Mut (H x)) (he : e = x ∨ H e = some (.own x)) (k : ∀ b u, b ≠ e → h.get? b = some u → h'.get? b = some u) (heo : ∃ u, h'.get? e = some u)
    (new : ObjOk P w (upd H x o') h' x o') : HOk P w (upd H x o') h' := fun b u q => by
  have nown : ∀ c y, H c = some (.own y) → c ≠ x := fun c y r z => by subst z; rw [r] at mu; exact mu
  have ntup : ∀ c xs, H c = some (.tup xs) → c ≠ x := fun c xs r z => by subst z; rw [r] at mu; exact mu
  by_cases hb : b = x
  · subst hb; rw [upd_same] at q; cases q; exact new
  · rw [upd_ne hb] at q
    by_cases hbe : b = e
    · have q' : H b = some (.own x) := by
        rcases he with z | z
        · exact absurd (hbe.trans z) hb
        · rw [hbe]; exact z
      rw [q] at q'; cases q'
      obtain ⟨v, hv⟩ := heo
      exact ⟨v, by rw [hbe]; exact hv⟩
    · refine (ok b u q).stay (fun c v hc r => k c v ?_ r) (fun c r => by rw [upd_ne (nown c b r)]; exact r) fun c xs r => by rw [upd_ne (ntup c xs r)]; exact r
      rcases hc with rfl | hc
      · exact hbe
      · rintro rfl
        rcases he with z | z
        · exact nown c b hc z
        · rw [hc] at z; cases z; exact hb rfl
end
structure Un (fs ex : List Addr) (H H' : Hp) (h h' : Heap) : Prop where
  keep : ∀ b o, h.get? b = some o → H b = none → b ∉ fs → b ∉ ex → h'.get? b = some o
  slot : ∀ b o, h.get? b = some o → H b = none → b ∈ fs → b ∉ ex → ∃ sl, h'.get? b = some { o with slots := sl }
  free : ∀ b o, h.get? b = some o → H b = none → b ∉ ex → H' b = none
  there : ∀ b o, h.get? b = some o → b ∉ ex → ∃ o', h'.get? b = some o'
  tups : ∀ b xs, H b = some (.tup xs) → H' b = some (.tup xs)
  frzs : ∀ b o u, H b = some (.frz o u) → H' b = some (.frz o u)
  tbls : ∀ b ps, H b = some (.tbl ps) → ∃ more, H' b = some (.tbl (ps ++ more))
section
variable {fs fs' ex ex' : List Addr} {H H1 H2 : Hp} {h h1 h2 h' : Heap} {a x e : Addr} {o : HO}
theorem Un.any (u : Un fs ex H H1 h h1) {b : Addr} {ob : Obj} (q : h.get? b = some ob) (n : H b = none) (hx : b ∉ ex) : ∃ sl, h1.get? b = some { ob with slots := sl } := by
  by_cases hb : b ∈ fs
  · exact u.slot b ob q n hb hx
  · exact ⟨ob.slots, u.keep b ob q n hb hx⟩
theorem Un.kept (k : ∀ b u, h.get? b = some u → h'.get? b = some u) : Un fs ex H H h h' :=
  ⟨fun b ob q _ _ _ => k b ob q, fun b ob q _ _ _ => ⟨ob.slots, k b ob q⟩, fun _ _ _ n _ => n, fun b ob q _ => ⟨ob, k b ob q⟩, fun _ _ q => q, fun _ _ _ q => q, fun _ ps q => ⟨#[], by rw [q]; simp⟩⟩
theorem Un.refl : Un fs ex H H h h := Un.kept fun _ _ q => q
theorem Un.laid (k : ∀ b u, h.get? b = some u → h'.get? b = some u) (hp : h.objs.size ≤ a) (hn : H a = none) : Un fs ex H (upd H a o) h h' where
  keep := fun b u q _ _ _ => k b u q
  slot := fun b u q _ _ _ => ⟨u.slots, k b u q⟩
  free := fun b u q n _ => by rw [upd_ne (Nat.ne_of_lt (Nat.lt_of_lt_of_le (Heap.lt_size q) hp))]; exact n
  there := fun b u q _ => ⟨u, k b u q⟩
  tups := fun b xs q => by rw [upd_ne (ne_of_none q hn)]; exact q
  frzs := fun b u xs q => by rw [upd_ne (ne_of_none q hn)]; exact q
  tbls := fun b ps q => ⟨#[], by rw [upd_ne (ne_of_none q hn), q]; simp⟩
theorem Un.write (mu : Mut (H x)) (he : e = x ∨ H e = some (.own x)) (k : ∀ b u, b ≠ e → h.get? b = some u → h'.get? b = some u) (heo : ∃ u, h'.get? e = some u) : Un fs ex H (upd H x o) h h' := by
  have hx : ∀ b, H b = none → b ≠ x := fun b n z => by subst z; rw [n] at mu; exact mu
  have hb : ∀ b, H b = none → b ≠ e := fun b n z => by
    subst z
    rcases he with r | r
    · exact hx b n r
    · rw [n] at r; cases r
  have hm : ∀ b u, H b = some u → ¬ Mut (some u) → b ≠ x := fun b u q nm z => by subst z; rw [q] at mu; exact nm mu
  refine ⟨fun b u q n _ _ => k b u (hb b n) q, fun b u q n _ _ => ⟨u.slots, k b u (hb b n) q⟩, fun b u q n _ => by rw [upd_ne (hx b n)]; exact n, fun b u q _ => ?_,
    fun b xs q => by rw [upd_ne (hm b _ q fun z => z)]; exact q, fun b u xs q => by rw [upd_ne (hm b _ q fun z => z)]; exact q, fun b ps q => ⟨#[], by rw [upd_ne (hm b _ q fun z => z), q]; simp⟩⟩
  by_cases hbe : b = e
  · subst hbe; exact heo
  · exact ⟨u, k b u hbe q⟩
end
noncomputable def trk (h : Heap) (H : Hp) : List Addr := (List.range h.objs.size).filter fun a => (H a).isSome
noncomputable def hidT (h : Heap) (H : Hp) : Heap := PySem.W.hideAll h (trk h H)
theorem hidT_size (h : Heap) (H : Hp) : (hidT h H).objs.size = h.objs.size := PySem.W.hideAll_size _ _
theorem hidT_get {h : Heap} {H : Hp} {b : Addr} {o : Obj} (e : h.get? b = some o) (n : H b = none) : (hidT h H).get? b = some o :=
  PySem.W.hideAll_get _ e fun hm => by
    have q : (H b).isSome = true := (List.mem_filter.mp hm).2
    rw [n] at q; simp at q
theorem of_hidT {h : Heap} {H : Hp} {b : Addr} {o : Obj} (e : (hidT h H).get? b = some o) : h.get? b = some o ∧ H b = none := by
  have e' : h.get? b = some o := PySem.W.of_hideAll (trk h H) e
  refine ⟨e', ?_⟩
  cases q : H b with
  | none => rfl
  | some x =>
    have hm : b ∈ trk h H := List.mem_filter.mpr ⟨List.mem_range.mpr (Heap.lt_size e'), by simp [q]⟩
    have z : (hidT h H).get? b = none := PySem.W.hideAll_none (trk h H) hm
    rw [z] at e; cases e
end L2
namespace L2
open PySem PySem.Spec PyProof.Rows
structure Mod (K : PySem.W.Frag) (mg : Str → Option Value) (base : Heap) : Prop where
  kin : K.In base
  glob : base.Ns mainGlobals mg
  blt : ∃ mb, base.Ns builtinsNs mb ∧ ∀ x : Str, x ≠ "__name__" → mb x = bootBuiltins x
  nolimit : base.NoLimit
/-- the context: a def's body (or a comprehension's block) running. base: fixed through the whole law; s₀, H₀: the entry; outer: the frames whose slots others may change (a def's callers); stack: all frames that run;
   ex: iterators that were made ahead of the entry and are walked here (a comprehension's); fn: the names whose cells were made at the entry (a def: all; a comprehension's block: its own); calm: not within an except suite; pn: pins that every state bears; xe: what is wanted of an exception that leaves the code -/
structure Cx where
  prog : Program
  w : World
  K : PySem.W.Frag
  mg : Str → Option Value
  base : Heap
  A : Around
  N : List Str
  s₀ : Shared
  H₀ : Hp
  env : Env
  outer : List Env
  stack : List Env
  ex : List Addr
  fn : Str → Bool
  calm : Bool
  pn : List (Addr × Obj)
  xe : Value → Shared → Prop
noncomputable def frs (l : List Env) : List Addr := l.filterMap (·.frame)
noncomputable abbrev Cx.fs (X : Cx) : List Addr := frs X.outer
noncomputable def Vis (sc : Scope) (x : Str) : Prop := sc.names.lookup x = some .local ∨ sc.names.lookup x = some .cell ∨ sc.names.lookup x = some .free
noncomputable def Loc (sc : Scope) (x : Str) : Prop := sc.names.lookup x = some .local ∨ sc.names.lookup x = some .cell
noncomputable def Look (env : Env) (h : Heap) (m : Str → Option Value) (x : Str) (u : Value) : Prop :=
  (env.kindOf x = some .local ∧ m x = some u) ∨ ((env.kindOf x = some .cell ∨ env.kindOf x = some .free) ∧ ∃ c, env.cells.lookup x = some c ∧ h.IsCell c (some u))
structure Cx.Ok (X : Cx) : Prop where
  mod : Mod X.K X.mg X.base
  kind : X.env.scope.kind = .function
  glob : X.env.globals = mainGlobals
  blt : X.env.builtins = builtinsNs
  above : X.s₀.heap.objs.size ≤ X.env.locals
  inj : ∀ x y c, X.env.cells.lookup x = some c → X.env.cells.lookup y = some c → x = y
  has : ∀ x, (X.env.kindOf x = some .cell ∨ X.env.kindOf x = some .free) → ∃ c, X.env.cells.lookup x = some c
  cab : ∀ x c, X.fn x = true → X.env.cells.lookup x = some c → X.s₀.heap.objs.size ≤ c
  hd : X.calm = true → X.A.handled = none
  frames : X.A.frames = some X.stack
  stk : X.stack = X.outer ∨ (X.stack = X.env :: X.outer ∧ X.env.frame = some X.env.locals)
  exf : ∀ b ∈ X.ex, b ≠ X.env.locals ∧ ∀ x c, X.env.cells.lookup x = some c → c ≠ b
  bs : ∀ b o, X.base.get? b = some o → X.s₀.heap.get? b = some o ∧ X.H₀ b = none
  bsz : X.base.objs.size ≤ X.s₀.heap.objs.size
  noex : ∀ b o, X.base.get? b = some o → b ∉ X.ex
  exfs : ∀ b ∈ X.ex, b ∉ X.fs
  funs : X.s₀.heap.FunFrames X.base X.outer
  frf : ∀ b ∈ X.fs, X.H₀ b = none
structure Inv (X : Cx) (pins : List (Addr × Obj)) (σ : List (Option V)) (H : Hp) (s : Shared) : Prop where
  ok : X.Ok
  os : s.os = X.s₀.os
  bare : AllBare s.gens
  base : Un X.fs X.ex X.H₀ H X.s₀.heap s.heap
  loc : ∃ m, s.heap.Ns X.env.locals m ∧ ∀ (i : Nat) (x : Str) (v : V), X.N[i]? = some x → σ[i]? = some (some v) → Vis X.env.scope x → ∃ u, RelV v u ∧ Look X.env s.heap m x u
  cell : ∀ x c, X.env.cells.lookup x = some c → ∃ v, s.heap.IsCell c v
  free : H X.env.locals = none
  freeC : ∀ x c, X.env.cells.lookup x = some c → H c = none
  pin : ∀ p ∈ X.pn ++ pins, s.heap.get? p.1 = some p.2 ∧ H p.1 = none ∧ p.1 ≠ X.env.locals ∧ p.1 ∉ X.fs ∧ ∀ v, p.2.data ≠ .cell v
  hok : HOk X.prog X.w H s.heap
  len : σ.length = X.N.length
section
variable {X : Cx} {pins : List (Addr × Obj)} {σ : List (Option V)} {H H' : Hp} {s : Shared} {h' : Heap}
theorem Cx.Ok.nofr (ok : X.Ok) {b : Addr} {o : Obj} (e : X.base.get? b = some o) : b ∉ X.fs := fun hb => by
  have := (ok.funs.mem hb).1
  rw [e] at this; cases this
theorem Inv.bs (I : Inv X pins σ H s) : ∀ b o, X.base.get? b = some o → s.heap.get? b = some o ∧ H b = none := fun b o e =>
  ⟨I.base.keep b o (I.ok.bs b o e).1 (I.ok.bs b o e).2 (I.ok.nofr e) (I.ok.noex b o e), I.base.free b o (I.ok.bs b o e).1 (I.ok.bs b o e).2 (I.ok.noex b o e)⟩
theorem Inv.bk (I : Inv X pins σ H s) : ∀ b o, X.base.get? b = some o → s.heap.get? b = some o := fun b o e => (I.bs b o e).1
theorem Inv.mod (I : Inv X pins σ H s) : Mod X.K X.mg X.base := I.ok.mod
theorem Inv.kIn (I : Inv X pins σ H s) : X.K.In s.heap := I.ok.mod.kin.keeps I.bk
theorem Inv.lt (I : Inv X pins σ H s) : X.env.locals < s.heap.objs.size := let ⟨_, hn, _⟩ := I.loc; hn.lt
theorem Inv.sz (I : Inv X pins σ H s) : X.s₀.heap.objs.size ≤ s.heap.objs.size := Nat.le_trans I.ok.above (Nat.le_of_lt I.lt)
theorem Inv.nofs (I : Inv X pins σ H s) {a : Addr} (h : s.heap.objs.size ≤ a) : a ∉ X.fs := fun hb => by
  obtain ⟨_, o, ho, _⟩ := I.ok.funs.mem hb
  exact absurd (Nat.lt_of_lt_of_le (Heap.lt_size ho) (Nat.le_trans I.sz h)) (Nat.lt_irrefl _)
theorem Inv.cne (I : Inv X pins σ H s) : ∀ x c, X.env.cells.lookup x = some c → c ≠ X.env.locals := fun x c e z => by
  obtain ⟨v, o, ho, hd⟩ := I.cell x c e
  obtain ⟨m, ⟨o', es, ep, ho', hd', _⟩, _⟩ := I.loc
  rw [z, ho'] at ho; cases ho; rw [hd'] at hd; cases hd
theorem Inv.funs (I : Inv X pins σ H s) : s.heap.FunFrames X.base X.outer := by
  have all : ∀ (l : List Env), (∀ b ∈ frs l, b ∈ X.fs) → X.s₀.heap.FunFrames X.base l → s.heap.FunFrames X.base l := by
    intro l
    induction l with
    | nil => intro _ _; trivial
    | cons env r ih =>
      intro hs hl
      obtain ⟨hk, ⟨L, o, hf, hn, ho, hd⟩, hr⟩ := hl
      have hL : L ∈ X.fs := hs L (by unfold frs; rw [List.filterMap_cons, hf]; exact List.mem_cons_self)
      obtain ⟨sl, e⟩ := I.base.slot L o ho (I.ok.frf L hL) hL fun z => I.ok.exfs L z hL
      exact ⟨hk, ⟨L, _, hf, hn, e, hd⟩, ih (fun b hb => hs b (by unfold frs; rw [List.filterMap_cons, hf]; exact List.mem_cons_of_mem _ hb)) hr⟩
  exact all X.outer (fun _ hb => hb) I.ok.funs
theorem Inv.stack (I : Inv X pins σ H s) : s.heap.FunFrames X.base X.stack := by
  rcases I.ok.stk with e | ⟨e, hf⟩
  · rw [e]; exact I.funs
  · rw [e]
    obtain ⟨m, hn, _⟩ := I.loc
    refine .cons (by rw [I.ok.kind]; decide) hf hn ?_ I.funs
    exact Heap.get?_none_of_le (Nat.le_trans I.ok.bsz I.ok.above)
theorem Inv.stkSub (I : Inv X pins σ H s) : ∀ b ∈ frs X.stack, b ∈ X.env.locals :: X.fs := fun b hb => by
  rcases I.ok.stk with e | ⟨e, hf⟩
  · rw [e] at hb; exact List.mem_cons_of_mem _ hb
  · rw [e] at hb
    unfold frs at hb
    rw [List.filterMap_cons, hf] at hb
    exact hb
theorem Inv.stkFree (I : Inv X pins σ H s) : ∀ b ∈ frs X.stack, H b = none := fun b hb => by
  rcases List.mem_cons.mp (I.stkSub b hb) with e | hb
  · rw [e]; exact I.free
  · obtain ⟨_, o, ho, _⟩ := I.ok.funs.mem hb
    exact I.base.free b o ho (I.ok.frf b hb) fun z => I.ok.exfs b z hb
theorem Inv.step {g' : Array GenState} {t' : Nat} {d' : Drawn} {ch : List Addr} (I : Inv X pins σ H s)
    (hch : ∀ b ∈ ch, (b ∈ X.ex ∨ X.s₀.heap.objs.size ≤ b) ∧ b ≠ X.env.locals ∧ (∀ x c, X.env.cells.lookup x = some c → c ≠ b) ∧ ∀ p ∈ X.pn ++ pins, p.1 ≠ b)
    (keep : ∀ b o, b ≠ X.env.locals → b ∉ X.fs → b ∉ ch → s.heap.get? b = some o → H b = none → h'.get? b = some o)
    (slot : ∀ b o, b ≠ X.env.locals → b ∈ X.fs → b ∉ ch → s.heap.get? b = some o → H b = none → ∃ sl, h'.get? b = some { o with slots := sl }) (free : ∀ b o, b ∉ ch → s.heap.get? b = some o → H b = none → H' b = none)
    (there : ∀ b o, b ∉ ch → s.heap.get? b = some o → ∃ o', h'.get? b = some o')
    (tups : ∀ b xs, H b = some (.tup xs) → H' b = some (.tup xs)) (frzs : ∀ b o u, H b = some (.frz o u) → H' b = some (.frz o u)) (tbls : ∀ b ps, H b = some (.tbl ps) → ∃ more, H' b = some (.tbl (ps ++ more)))
    (ns : ∀ m, s.heap.Ns X.env.locals m → h'.Ns X.env.locals m) (hok : HOk X.prog X.w H' h') (hg : AllBare g') :
    Inv X pins σ H' { s with heap := h', gens := g', drawn := d', toks := t' } := by
  have neL : ∀ b o, X.s₀.heap.get? b = some o → b ≠ X.env.locals := fun b o e => Nat.ne_of_lt (Nat.lt_of_lt_of_le (Heap.lt_size e) I.ok.above)
  have neC : ∀ b o, X.s₀.heap.get? b = some o → b ∉ X.ex → b ∉ ch := fun b o e hx hb => by
    rcases (hch b hb).1 with z | z
    · exact hx z
    · exact absurd (Nat.lt_of_lt_of_le (Heap.lt_size e) z) (Nat.lt_irrefl _)
  have cellK : ∀ x c, X.env.cells.lookup x = some c → ∀ v, s.heap.IsCell c v → h'.IsCell c v := fun x c e v ⟨o, ho, hd⟩ => by
    have nch : c ∉ ch := fun z => (hch c z).2.2.1 x c e rfl
    by_cases hc : c ∈ X.fs
    · obtain ⟨sl, q⟩ := slot c o (I.cne x c e) hc nch ho (I.freeC x c e)
      exact ⟨_, q, hd⟩
    · exact ⟨o, keep c o (I.cne x c e) hc nch ho (I.freeC x c e), hd⟩
  refine ⟨I.ok, I.os, hg, ⟨fun b o e n hb hx => ?_, fun b o e n hb hx => ?_, fun b o e n hx => ?_, fun b o e hx => ?_, fun b xs e => tups b xs (I.base.tups b xs e), fun b o xs e => frzs b o xs (I.base.frzs b o xs e), fun b ps e => ?_⟩, ?_, fun x c e => ?_, ?_, fun x c e => ?_, fun p hp => ?_, hok, I.len⟩
  · exact keep b o (neL b o e) hb (neC b o e hx) (I.base.keep b o e n hb hx) (I.base.free b o e n hx)
  · obtain ⟨sl, e1⟩ := I.base.slot b o e n hb hx
    obtain ⟨sl', e2⟩ := slot b _ (neL b o e) hb (neC b o e hx) e1 (I.base.free b o e n hx)
    exact ⟨sl', e2⟩
  · obtain ⟨o', e1⟩ := I.base.there b o e hx
    exact free b o' (neC b o e hx) e1 (I.base.free b o e n hx)
  · obtain ⟨o', e1⟩ := I.base.there b o e hx
    exact there b o' (neC b o e hx) e1
  · obtain ⟨m1, e1⟩ := I.base.tbls b ps e
    obtain ⟨m2, e2⟩ := tbls b _ e1
    exact ⟨m1 ++ m2, by rw [e2, Array.append_assoc]⟩
  · obtain ⟨m, hn, hl⟩ := I.loc
    refine ⟨m, ns m hn, fun i x v e1 e2 e3 => ?_⟩
    obtain ⟨u, r, l⟩ := hl i x v e1 e2 e3
    refine ⟨u, r, ?_⟩
    rcases l with l | ⟨k, c, e, z⟩
    · exact .inl l
    · exact .inr ⟨k, c, e, cellK x c e _ z⟩
  · obtain ⟨v, z⟩ := I.cell x c e
    exact ⟨v, cellK x c e v z⟩
  · obtain ⟨m, ⟨o, _, _, ho, _⟩, _⟩ := I.loc
    exact free _ o (fun z => (hch _ z).2.1 rfl) ho I.free
  · obtain ⟨v, o, ho, hd⟩ := I.cell x c e
    exact free c o (fun z => (hch c z).2.2.1 x c e rfl) ho (I.freeC x c e)
  · obtain ⟨e, n, ne, nf, d⟩ := I.pin p hp
    have nch : p.1 ∉ ch := fun z => (hch p.1 z).2.2.2 p hp rfl
    exact ⟨keep p.1 p.2 ne nf nch e n, free p.1 p.2 nch e n, ne, nf, d⟩
theorem Inv.un {t' : Nat} (I : Inv X pins σ H s) (u : Un X.fs [] H H' s.heap h') (hok : HOk X.prog X.w H' h') : Inv X pins σ H' { s with heap := h', toks := t' } := by
  obtain ⟨m, ⟨o, es, ep, ho, r⟩, _⟩ := id I.loc
  obtain ⟨sl, hL⟩ := u.any ho I.free (by simp)
  exact I.step (g' := s.gens) (d' := s.drawn) (ch := []) (fun _ z => nomatch z) (fun b o _ hb _ e n => u.keep b o e n hb (by simp)) (fun b o _ hb _ e n => u.slot b o e n hb (by simp)) (fun b o _ e n => u.free b o e n (by simp)) (fun b o _ e => u.there b o e (by simp)) u.tups u.frzs u.tbls (fun m' hm => by
    obtain ⟨o', es', ep', ho', r'⟩ := hm
    rw [ho] at ho'; cases ho'
    exact ⟨_, es', ep', hL, r'⟩) hok I.bare
theorem Inv.call {g' : Array GenState} {t' : Nat} {d' : Drawn} {ch : List Addr} (I : Inv X pins σ H s) (u : Un (frs X.stack) ch H H' s.heap h') (hok : HOk X.prog X.w H' h') (hg : AllBare g')
    (hch : ∀ b ∈ ch, (b ∈ X.ex ∨ X.s₀.heap.objs.size ≤ b) ∧ b ≠ X.env.locals ∧ (∀ x c, X.env.cells.lookup x = some c → c ≠ b) ∧ ∀ p ∈ X.pn ++ pins, p.1 ≠ b) :
    Inv X pins σ H' { s with heap := h', gens := g', drawn := d', toks := t' } := by
  obtain ⟨m, ⟨o, es, ep, ho, r⟩, _⟩ := id I.loc
  obtain ⟨sl, hL⟩ := u.any ho I.free fun z => (hch _ z).2.1 rfl
  exact I.step (ch := ch) hch (fun b o hL hb hc e n => u.keep b o e n (fun z => (List.mem_cons.mp (I.stkSub b z)).elim hL hb) hc) (fun b o _ _ hc e n => u.any e n hc) (fun b o hc e n => u.free b o e n hc) (fun b o hc e => u.there b o e hc) u.tups u.frzs u.tbls (fun m' hm => by
    obtain ⟨o', es', ep', ho', r'⟩ := hm
    rw [ho] at ho'; cases ho'
    exact ⟨_, es', ep', hL, r'⟩) hok hg
theorem Inv.turned {t' : Nat} {it : Addr} (I : Inv X pins σ H s) (k : ∀ b o, b ≠ it → s.heap.get? b = some o → h'.get? b = some o) (hn : H it = none) (hL : it ≠ X.env.locals)
    (h1 : it ∈ X.ex ∨ X.s₀.heap.objs.size ≤ it) (h2 : ∀ x c, X.env.cells.lookup x = some c → c ≠ it) (h3 : ∀ p ∈ X.pn ++ pins, p.1 ≠ it) : Inv X pins σ H { s with heap := h', toks := t' } := by
  have nit : ∀ b u, H b = some u → b ≠ it := fun b u e z => by rw [z, hn] at e; cases e
  refine I.step (g' := s.gens) (d' := s.drawn) (ch := [it]) (fun b hb => ?_) (fun b o _ _ hc e _ => k b o (fun z => hc (by simp [z])) e) (fun b o _ _ hc e _ => ⟨o.slots, k b o (fun z => hc (by simp [z])) e⟩) (fun _ _ _ _ n => n)
    (fun b o hc e => ⟨o, k b o (fun z => hc (by simp [z])) e⟩) (fun _ _ e => e) (fun _ _ _ e => e) (fun b ps e => ⟨#[], by rw [e]; simp⟩) (fun m hm => ?_) (fun b u e => ?_) I.bare
  · have e : b = it := by simpa using hb
    subst e
    exact ⟨h1, hL, h2, h3⟩
  · obtain ⟨o, es, ep, ho, r⟩ := hm
    exact ⟨o, es, ep, k _ o (Ne.symm hL) ho, r⟩
  · refine (I.hok b u e).stay (fun c v hc q => k c v ?_ q) (fun _ q => q) fun _ _ q => q
    rcases hc with z | z
    · rw [z]; exact nit b u e
    · exact nit c _ z
theorem Inv.tok (I : Inv X pins σ H s) (t : Nat) : Inv X pins σ H { s with toks := t } := I.un (h' := s.heap) (t' := t) Un.refl I.hok
theorem Inv.kept {t' : Nat} (I : Inv X pins σ H s) (k : ∀ b u, s.heap.get? b = some u → h'.get? b = some u) : Inv X pins σ H { s with heap := h', toks := t' } := I.un (Un.kept k) (I.hok.kept k)
theorem Inv.laid {a : Addr} {o : HO} {t' : Nat} (I : Inv X pins σ H s) (k : ∀ b u, s.heap.get? b = some u → h'.get? b = some u) (hp : s.heap.objs.size ≤ a) (new : ObjOk X.prog X.w (upd H a o) h' a o) :
    Inv X pins σ (upd H a o) { s with heap := h', toks := t' } := I.un (Un.laid k hp (I.hok.fresh hp)) (I.hok.laid k hp new)
theorem Inv.write {x e : Addr} {o : HO} {t' : Nat} (I : Inv X pins σ H s) (mu : Mut (H x)) (he : e = x ∨ H e = some (.own x)) (k : ∀ b u, b ≠ e → s.heap.get? b = some u → h'.get? b = some u) (heo : ∃ u, h'.get? e = some u)
    (new : ObjOk X.prog X.w (upd H x o) h' x o) : Inv X pins σ (upd H x o) { s with heap := h', toks := t' } := I.un (Un.write mu he k heo) (I.hok.write mu he k heo new)
theorem Inv.pins_of {pins' : List (Addr × Obj)} (I : Inv X pins σ H s) (h : ∀ p ∈ pins', s.heap.get? p.1 = some p.2 ∧ H p.1 = none ∧ p.1 ≠ X.env.locals ∧ p.1 ∉ X.fs ∧ ∀ v, p.2.data ≠ .cell v) : Inv X pins' σ H s :=
  ⟨I.ok, I.os, I.bare, I.base, I.loc, I.cell, I.free, I.freeC, fun p hp => (List.mem_append.mp hp).elim (fun z => I.pin p (List.mem_append_left _ z)) (h p), I.hok, I.len⟩
theorem nodup_ix {N : List Str} (hN : N.Nodup) {i j : Nat} {x : Str} (a : N[i]? = some x) (b : N[j]? = some x) : i = j := by
  obtain ⟨h1, e1⟩ := List.getElem?_eq_some_iff.mp a
  obtain ⟨h2, e2⟩ := List.getElem?_eq_some_iff.mp b
  exact (List.getElem_inj hN).mp (e1.trans e2.symm)
theorem store_ok2 {M : Model} {A : Around} {E : Value → Shared → Prop} {i : Nat} {x : Str} {v : V} {u : Value} {Q : Unit → Shared → Prop} (I : Inv X pins σ H s) (hN : X.N.Nodup) (hi : X.N[i]? = some x) (hx : Loc X.env.scope x) (r : RelV v u)
    (h : ∀ s', Inv X pins (σ.set i (some v)) H s' → (∃ a, Heap.SameBut a s.heap s'.heap ∧ (a = X.env.locals ∨ X.env.cells.lookup x = some a)) → Q () s') (hf : X.fn x = true ∨ X.env.scope.names.lookup x = some .local := by first | exact .inl rfl | exact .inr rfl | assumption) : wpAny M A (storeName X.env x u) Q E s := by
  obtain ⟨m, hn, hl⟩ := id I.loc
  have hcls : (X.env.scope.kind == .class || (X.env.scope.kind == .module && X.env.locals != X.env.globals)) = false := by rw [I.ok.kind]; rfl
  have hiσ : i < σ.length := by rw [I.len]; exact (List.getElem?_eq_some_iff.mp hi).1
  have cne := I.cne
  have tracked : ∀ {a : Addr} {h' : Heap}, (∃ o, s.heap.get? a = some o ∧ H a = none) → Heap.SameBut a s.heap h' → HOk X.prog X.w H h' := fun {a h'} ha hs b ob e => by
    obtain ⟨_, _, hfree⟩ := ha
    refine (I.hok b ob e).stay (fun c w' hc q => (hs.2 c ?_).trans q) (fun _ q => q) fun _ _ q => q
    rintro rfl
    rcases hc with rfl | hc
    · rw [hfree] at e; cases e
    · rw [hfree] at hc; cases hc
  rcases hx with hk | hk
  · refine wpAny_storeName_local hk hn (fun h' hn' hs => ?_) hcls
    obtain ⟨oL, _, _, hoL, _⟩ := id hn
    refine h _ ⟨I.ok, I.os, I.bare, ⟨fun b o e n hb hx => ?_, fun b o e n hb hx => ?_, I.base.free, fun b o e hx => ?_, I.base.tups, I.base.frzs, I.base.tbls⟩, ⟨_, hn', fun j y v' e1 e2 e3 => ?_⟩, fun y c e => ?_, I.free, I.freeC, fun p hp => ?_, tracked ⟨oL, hoL, I.free⟩ hs, by simpa using I.len⟩ ⟨_, hs, .inl rfl⟩
    · exact (hs.2 b (Nat.ne_of_lt (Nat.lt_of_lt_of_le (Heap.lt_size e) I.ok.above))).trans (I.base.keep b o e n hb hx)
    · obtain ⟨sl, e1⟩ := I.base.slot b o e n hb hx
      exact ⟨sl, (hs.2 b (Nat.ne_of_lt (Nat.lt_of_lt_of_le (Heap.lt_size e) I.ok.above))).trans e1⟩
    · obtain ⟨o', e1⟩ := I.base.there b o e hx
      exact ⟨o', (hs.2 b (Nat.ne_of_lt (Nat.lt_of_lt_of_le (Heap.lt_size e) I.ok.above))).trans e1⟩
    · by_cases hj : j = i
      · subst hj
        rw [hi] at e1; cases e1
        rw [List.getElem?_set_self hiσ] at e2
        cases e2
        exact ⟨u, r, .inl ⟨hk, by simp⟩⟩
      · rw [List.getElem?_set_ne (Ne.symm hj)] at e2
        obtain ⟨u', r', q⟩ := hl j y v' e1 e2 e3
        refine ⟨u', r', ?_⟩
        rcases q with ⟨k, e⟩ | ⟨k, c, e, z⟩
        · refine .inl ⟨k, ?_⟩
          have : y ≠ x := fun e => hj (nodup_ix hN e1 (e ▸ hi))
          simp [this, e]
        · exact .inr ⟨k, c, e, z.sameBut hs (cne y c e)⟩
    · obtain ⟨w', z⟩ := I.cell y c e
      exact ⟨w', z.sameBut hs (cne y c e)⟩
    · obtain ⟨e, n, ne, nf, d⟩ := I.pin p hp
      exact ⟨(hs.2 p.1 ne).trans e, n, ne, nf, d⟩
  · have hfn : X.fn x = true := by
      rcases hf with z | z
      · exact z
      · rw [z] at hk; cases hk
    obtain ⟨c, hc⟩ := I.ok.has x (.inl hk)
    obtain ⟨w', z⟩ := I.cell x c hc
    refine wpAny_storeName_cell I.ok.kind hk hc z (fun h' hc' hs => ?_)
    obtain ⟨oc, hoc, hocd⟩ := id z
    refine h { s with heap := h' } ⟨I.ok, I.os, I.bare, ⟨fun b o e n hb hx => ?_, fun b o e n hb hx => ?_, I.base.free, fun b o e hx => ?_, I.base.tups, I.base.frzs, I.base.tbls⟩, ⟨m, hn.sameBut hs (Ne.symm (cne x c hc)), fun j y v' e1 e2 e3 => ?_⟩, fun y c' e => ?_, I.free, I.freeC, fun p hp => ?_, tracked ⟨oc, hoc, I.freeC x c hc⟩ hs, by simpa using I.len⟩ ⟨c, hs, .inr hc⟩
    · exact (hs.2 b (Nat.ne_of_lt (Nat.lt_of_lt_of_le (Heap.lt_size e) (I.ok.cab x c hfn hc)))).trans (I.base.keep b o e n hb hx)
    · obtain ⟨sl, e1⟩ := I.base.slot b o e n hb hx
      exact ⟨sl, (hs.2 b (Nat.ne_of_lt (Nat.lt_of_lt_of_le (Heap.lt_size e) (I.ok.cab x c hfn hc)))).trans e1⟩
    · obtain ⟨o', e1⟩ := I.base.there b o e hx
      exact ⟨o', (hs.2 b (Nat.ne_of_lt (Nat.lt_of_lt_of_le (Heap.lt_size e) (I.ok.cab x c hfn hc)))).trans e1⟩
    · by_cases hj : j = i
      · subst hj
        rw [hi] at e1; cases e1
        rw [List.getElem?_set_self hiσ] at e2
        cases e2
        exact ⟨u, r, .inr ⟨.inl hk, c, hc, hc'⟩⟩
      · rw [List.getElem?_set_ne (Ne.symm hj)] at e2
        obtain ⟨u', r', q⟩ := hl j y v' e1 e2 e3
        refine ⟨u', r', ?_⟩
        rcases q with q | ⟨k, c', e, z'⟩
        · exact .inl q
        · refine .inr ⟨k, c', e, z'.sameBut hs ?_⟩
          rintro rfl
          exact hj (nodup_ix hN e1 (I.ok.inj _ _ _ e hc ▸ hi))
    · by_cases hcc : c' = c
      · subst hcc; exact ⟨_, hc'⟩
      · obtain ⟨w2, z2⟩ := I.cell y c' e
        exact ⟨w2, z2.sameBut hs hcc⟩
    · obtain ⟨e, n, ne, nf, d⟩ := I.pin p hp
      refine ⟨(hs.2 p.1 ?_).trans e, n, ne, nf, d⟩
      intro q
      rw [q, hoc] at e
      have q' : oc = p.2 := Option.some.inj e
      exact d w' (by rw [← q']; exact hocd)
theorem store_ok {M : Model} {A : Around} {E : Value → Shared → Prop} {i : Nat} {x : Str} {v : V} {u : Value} {Q : Unit → Shared → Prop} (I : Inv X pins σ H s) (hN : X.N.Nodup) (hi : X.N[i]? = some x) (hx : Loc X.env.scope x) (r : RelV v u)
    (h : ∀ s', Inv X pins (σ.set i (some v)) H s' → Q () s') (hf : X.fn x = true ∨ X.env.scope.names.lookup x = some .local := by first | exact .inl rfl | exact .inr rfl | assumption) : wpAny M A (storeName X.env x u) Q E s :=
  store_ok2 I hN hi hx r (fun s' I' _ => h s' I') hf
theorem Inv.call' {s' : Shared} {ch : List Addr} (I : Inv X pins σ H s) (ho : s'.os = s.os) (u : Un (frs X.stack) ch H H' s.heap s'.heap) (hok : HOk X.prog X.w H' s'.heap) (hg : AllBare s'.gens)
    (hch : ∀ b ∈ ch, (b ∈ X.ex ∨ X.s₀.heap.objs.size ≤ b) ∧ b ≠ X.env.locals ∧ (∀ x c, X.env.cells.lookup x = some c → c ≠ b) ∧ ∀ p ∈ X.pn ++ pins, p.1 ≠ b) : Inv X pins σ H' s' := by
  obtain ⟨h', g', d', t', o'⟩ := s'
  have e : o' = s.os := ho
  subst e
  exact I.call (g' := g') (t' := t') (d' := d') u hok hg hch
end
noncomputable abbrev XK := Value → Option Addr → Hp → Prop
noncomputable abbrev St := List (Option V)
noncomputable abbrev VK := V → Hp → Prop
noncomputable abbrev TE := St → Hp → VK → Prop
noncomputable abbrev TT := St → Hp → (Bool → Hp → Prop) → Prop
noncomputable abbrev TA := St → Hp → (List V → Hp → Prop) → Prop
structure Ends where
  nx : St → Hp → Prop
  rt : VK
  bk : St → Hp → Prop := fun _ _ => False
  ct : St → Hp → Prop := fun _ _ => False
noncomputable abbrev TS := Ends → St → Hp → Prop
noncomputable def EP (X : Cx) (pins : List (Addr × Obj)) (σ : St) (Q : VK) (u : Value) (s' : Shared) : Prop := ∃ v H', Inv X pins σ H' s' ∧ RelV v u ∧ Q v H'
noncomputable def TP (X : Cx) (pins : List (Addr × Obj)) (σ : St) (Q : Bool → Hp → Prop) (b : Bool) (s' : Shared) : Prop := ∃ H', Inv X pins σ H' s' ∧ Q b H'
noncomputable def AP (X : Cx) (pins : List (Addr × Obj)) (σ : St) (Q : List V → Hp → Prop) (us : List Value) (s' : Shared) : Prop := ∃ vs H', Inv X pins σ H' s' ∧ Vals vs us ∧ Q vs H'
noncomputable def SP (X : Cx) (pins : List (Addr × Obj)) (D : Ends) (f : Flow) (s' : Shared) : Prop :=
  match f with
  | .next => ∃ σ' H', Inv X pins σ' H' s' ∧ D.nx σ' H'
  | .brk => ∃ σ' H', Inv X pins σ' H' s' ∧ D.bk σ' H'
  | .cont => ∃ σ' H', Inv X pins σ' H' s' ∧ D.ct σ' H'
  | .ret u => ∃ v σ' H', Inv X pins σ' H' s' ∧ RelV v u ∧ D.rt v H'
noncomputable def PE (X : Cx) (e : Expr) (t : TE) : Prop :=
  ∀ (pins : List (Addr × Obj)) (s : Shared) (σ : St) (H : Hp) (Q : VK), Inv X pins σ H s → t σ H Q → wpAny (model X.prog X.w) X.A (eval e X.env) (EP X pins σ Q) X.xe s
noncomputable def PT (X : Cx) (e : Expr) (t : TT) : Prop :=
  ∀ (pins : List (Addr × Obj)) (s : Shared) (σ : St) (H : Hp) (Q : Bool → Hp → Prop), Inv X pins σ H s → t σ H Q → wpAny (model X.prog X.w) X.A (isTrue e X.env (eval e X.env)) (TP X pins σ Q) X.xe s
noncomputable def PW (X : Cx) (e : Expr) (t : TT) : Prop :=
  ∀ (whole : Sem Value) (pins : List (Addr × Obj)) (s : Shared) (σ : St) (H : Hp) (Q : Bool → Hp → Prop), Inv X pins σ H s → t σ H Q → wpAny (model X.prog X.w) X.A (isTrue e X.env whole) (TP X pins σ Q) X.xe s
theorem PW.pt {X : Cx} {e : Expr} {t : TT} (h : PW X e t) : PT X e t := h _
noncomputable def PA (X : Cx) (es : List Expr) (t : TA) : Prop :=
  ∀ (pos : Pos) (pins : List (Addr × Obj)) (s : Shared) (σ : St) (H : Hp) (Q : List V → Hp → Prop), Inv X pins σ H s → t σ H Q → wpAny (model X.prog X.w) X.A (spliced (backTo pos (starEach es X.env))) (AP X pins σ Q) X.xe s
noncomputable def PS (X : Cx) (st : Stmt) (t : TS) : Prop :=
  ∀ (pins : List (Addr × Obj)) (s : Shared) (σ : St) (H : Hp) (D : Ends), Inv X pins σ H s → t D σ H → wpAny (model X.prog X.w) X.A (exec st X.env) (SP X pins D) X.xe s
noncomputable def PSs (X : Cx) (st : List Stmt) (t : TS) : Prop :=
  ∀ (pins : List (Addr × Obj)) (s : Shared) (σ : St) (H : Hp) (D : Ends), Inv X pins σ H s → t D σ H → wpAny (model X.prog X.w) X.A (execs st X.env) (SP X pins D) X.xe s
theorem thn {α : Type} {t : Sem α} {Q Q' : α → Shared → Prop} {M : Model} {A : Around} {E : Value → Shared → Prop} {s : Shared} (h : wpAny M A t Q E s) (hQ : ∀ a s, Q a s → Q' a s) : wpAny M A t Q' E s := wpAny_mono h hQ fun _ _ x => x
end L2
namespace L2
open PySem PySem.Spec PyProof.Rows
section
variable {X : Cx}
theorem bin {a b : Expr} {ta tb : TE} (ha : PE X a ta) (hb : PE X b tb) {pins : List (Addr × Obj)} {s : Shared} {σ : St} {H : Hp} {R : V → V → Hp → Prop} (I : Inv X pins σ H s) (h : ta σ H fun x H1 => tb σ H1 fun y H2 => R x y H2)
    {α : Type} {Q : α → Shared → Prop} {f : Value → Value → Sem α}
    (hf : ∀ v u s2 x y H2, Inv X pins σ H2 s2 → RelV x v → RelV y u → R x y H2 → wpAny (model X.prog X.w) X.A (f v u) Q X.xe s2) :
    wpAny (model X.prog X.w) X.A (eval a X.env) (fun v s₁ => wpAny (model X.prog X.w) X.A (eval b X.env) (fun u s₂ => wpAny (model X.prog X.w) X.A (f v u) Q X.xe s₂) X.xe s₁) X.xe s := by
  refine thn (ha pins s σ H _ I h) fun v s1 ⟨x, H1, I1, r1, q1⟩ => ?_
  refine thn (hb pins s1 σ H1 _ I1 q1) fun u s2 ⟨y, H2, I2, r2, q2⟩ => ?_
  exact hf v u s2 x y H2 I2 r1 r2 q2
noncomputable def tVar (i : Nat) : TE := fun σ H Q => ∃ v, σ[i]? = some (some v) ∧ Q v H
noncomputable def tC (v : V) : TE := fun _ H Q => Q v H
theorem pe_var {i : Nat} {x : Str} {pos : Pos} (hN : X.N[i]? = some x) (hv : Vis X.env.scope x) (hd : (x == ("__debug__" : Str)) = false := by decide) (hcd : (x == ("__classdict__" : Str)) = false := by decide) : PE X (.Name x pos) (tVar i) := by
  intro pins s σ H Q I h
  obtain ⟨v, e, h⟩ := h
  obtain ⟨m, hn, hl⟩ := I.loc
  obtain ⟨u, r, l⟩ := hl i x v hN e hv
  have fin : EP X pins σ Q u s := ⟨v, H, I, r, h⟩
  rcases l with ⟨hk, hm⟩ | ⟨hk, c, hc, hcell⟩
  · exact wpAny_Name (wpAny_loadName_local I.ok.kind hk hn hm fin) hd
  · rcases hk with hk | hk
    · exact wpAny_Name (wpAny_loadName_cell I.ok.kind hk hc hcell fin) hd
    · exact wpAny_Name (wpAny_loadName_free I.ok.kind hk hc hcell fin hcd) hd
theorem pe_int {i j pos} : PE X (.Constant (.int i) j pos) (tC (.int i)) := fun _ _ _ H _ I h => wpAny_Constant_int ⟨.int i, H, I.tok _, ⟨_, rfl⟩, h⟩
theorem pe_bl {b j pos} : PE X (.Constant (.bool b) j pos) (tC (.bl b)) := fun _ _ _ H _ I h => Constant_bool ⟨.bl b, H, I, rfl, h⟩
theorem pe_str {x j pos} : PE X (.Constant (.str x) j pos) (tC (.str x)) := fun _ _ _ H _ I h => Calls.Constant_str ⟨.str x, H, I.tok _, ⟨_, rfl⟩, h⟩
noncomputable def Gl (X : Cx) (x : Str) : Prop := X.env.kindOf x = some .globalImplicit
theorem ld_glob {E : Value → Shared → Prop} {pins : List (Addr × Obj)} {s : Shared} {σ : St} {H : Hp} {x : Str} {u : Value} {pos : Pos} {Q : Value → Shared → Prop} (I : Inv X pins σ H s) (hg : Gl X x) (hm : X.mg x = some u) (h : Q u s)
    (hd : (x == ("__debug__" : Str)) = false := by decide) : wpAny (model X.prog X.w) X.A (eval (.Name x pos) X.env) Q E s :=
  Calls.Name_function_global I.ok.kind hg (Calls.loadGlobal_global (by rw [I.ok.glob]; exact I.mod.glob.keeps I.bk) hm h) hd
theorem ld_blt {E : Value → Shared → Prop} {pins : List (Addr × Obj)} {s : Shared} {σ : St} {H : Hp} {x : Str} {u : Value} {pos : Pos} {Q : Value → Shared → Prop} (I : Inv X pins σ H s) (hg : Gl X x) (hm : X.mg x = none) (hv : bootBuiltins x = some u) (h : Q u s)
    (hn : x ≠ "__name__" := by decide) (hd : (x == ("__debug__" : Str)) = false := by decide) : wpAny (model X.prog X.w) X.A (eval (.Name x pos) X.env) Q E s := by
  obtain ⟨mb, h1, h2⟩ := I.mod.blt
  exact Calls.Name_function_global I.ok.kind hg (Calls.loadGlobal_builtin (by rw [I.ok.glob]; exact I.mod.glob.keeps I.bk) hm (by rw [I.ok.blt]; exact h1.keeps I.bk) ((h2 x hn).trans hv) h) hd
theorem pe_glob {x : Str} {v : V} {u : Value} {pos : Pos} (hg : Gl X x) (hm : X.mg x = some u) (r : RelV v u) (hd : (x == ("__debug__" : Str)) = false := by decide) : PE X (.Name x pos) (tC v) :=
  fun _ _ _ H _ I h => ld_glob I hg hm ⟨v, H, I, r, h⟩ hd
theorem pe_bltn {x : Str} {v : V} {u : Value} {pos : Pos} (hg : Gl X x) (hm : X.mg x = none) (hv : bootBuiltins x = some u) (r : RelV v u) (hn : x ≠ "__name__" := by decide) (hd : (x == ("__debug__" : Str)) = false := by decide) : PE X (.Name x pos) (tC v) :=
  fun _ _ _ H _ I h => ld_blt I hg hm hv ⟨v, H, I, r, h⟩ hn hd
variable {a b : Expr} {ta tb : TE} {pos : Pos}
noncomputable def PC (X : Cx) (op : CmpOp) (a b : Expr) (t : TE) : Prop :=
  ∀ (pins : List (Addr × Obj)) (s : Shared) (σ : St) (H : Hp) (Q : VK), Inv X pins σ H s → t σ H Q →
    wpAny (model X.prog X.w) X.A (eval a X.env) (fun v s₁ => wpAny (model X.prog X.w) X.A (eval b X.env) (fun u s₂ => wpAny (model X.prog X.w) X.A (compareOp op v u) (EP X pins σ Q) X.xe s₂) X.xe s₁) X.xe s
noncomputable def tB (t : TE) : TT := fun σ H Q => t σ H fun x H1 => ∃ c, x = .bl c ∧ Q c H1
theorem pt_cmp {op : CmpOp} {t : TE} (h : PC X op a b t) (h1 : behindInMarks op b = false := by first | exact nobehind _ (by decide) (by decide) | rfl) : PT X (.Compare a [op] [b] pos) (tB t) := by
  intro pins s σ H Q I hw
  refine wpAny_isTrue_Compare1 (thn (h pins s σ H _ I hw) fun v s1 h1 => thn h1 fun u s2 h2 => thn h2 fun c s3 ⟨x, H1, I1, r1, q1⟩ => ?_) h1
  obtain ⟨d, rfl, q⟩ := q1
  cases r1
  exact wpAny_truthy_bool ⟨H1, I1, q⟩
theorem pt_val {e : Expr} {t : TE} (h : PE X e t) (he : ∀ whole, isTrue e X.env whole = (do let v ← whole; standAt e.pos; holding [v] (truthy v)) := by intro _; rfl) : PT X e (tB t) := by
  intro pins s σ H Q I hw
  refine isTrue_plain (thn (h pins s σ H _ I hw) fun v s1 ⟨x, H1, I1, r1, q1⟩ => ?_) (he _)
  obtain ⟨d, rfl, q⟩ := q1
  cases r1
  exact wpAny_truthy_bool ⟨H1, I1, q⟩
variable {tA tB' : TT} {rest : List Expr}
noncomputable def tAnd (t u : TT) : TT := fun σ H Q => t σ H fun c H1 => if c = true then u σ H1 Q else Q false H1
noncomputable def tOr (t u : TT) : TT := fun σ H Q => t σ H fun c H1 => if c = true then Q true H1 else u σ H1 Q
noncomputable def tNot (t : TT) : TT := fun σ H Q => t σ H fun c H1 => Q (!c) H1
theorem pw_and1 (ha : PT X a tA) : PW X (.BoolOp .And [a] pos) tA := by
  intro wh pins s σ H Q I h
  refine isTrue_and (thn (ha pins s σ H Q I h) fun c s1 e => ?_)
  cases c with
  | true => exact isTrue_and_nil e
  | false => exact e
theorem pw_or1 (ha : PT X a tA) : PW X (.BoolOp .Or [a] pos) tA := by
  intro wh pins s σ H Q I h
  refine isTrue_or (thn (ha pins s σ H Q I h) fun c s1 e => ?_)
  cases c with
  | false => exact isTrue_or_nil e
  | true => exact e
theorem pw_and (ha : PT X a tA) (hb : PW X (.BoolOp .And (b :: rest) pos) tB') : PW X (.BoolOp .And (a :: b :: rest) pos) (tAnd tA tB') := by
  intro wh pins s σ H Q I h
  refine isTrue_and (thn (ha pins s σ H _ I h) fun c s1 ⟨H1, I1, q1⟩ => ?_)
  cases c with
  | true => exact hb wh pins s1 σ H1 Q I1 q1
  | false => exact ⟨H1, I1, q1⟩
theorem pw_or (ha : PT X a tA) (hb : PW X (.BoolOp .Or (b :: rest) pos) tB') : PW X (.BoolOp .Or (a :: b :: rest) pos) (tOr tA tB') := by
  intro wh pins s σ H Q I h
  refine isTrue_or (thn (ha pins s σ H _ I h) fun c s1 ⟨H1, I1, q1⟩ => ?_)
  cases c with
  | true => exact ⟨H1, I1, q1⟩
  | false => exact hb wh pins s1 σ H1 Q I1 q1
theorem pt_not (ha : PT X a tA) : PT X (.UnaryOp .Not a pos) (tNot tA) := by
  intro pins s σ H Q I h
  exact isTrue_not (ha pins s σ H (fun c H1 => Q (!c) H1) I h)
noncomputable def tAndV (ta tb : TE) : TE := fun σ H Q => ta σ H fun x H1 => ∃ c, x = .bl c ∧ if c = true then tb σ H1 Q else Q (.bl false) H1
theorem pe_one {op} {t : TE} (h : PE X a t) : PE X (.BoolOp op [a] pos) t := fun pins s σ H Q I hw => BoolOp_one (h pins s σ H Q I hw)
theorem pe_and (ha : PE X a ta) (hb : PE X (.BoolOp .And (b :: rest) pos) tb) : PE X (.BoolOp .And (a :: b :: rest) pos) (tAndV ta tb) := by
  intro pins s σ H Q I h
  refine BoolOp_and (thn (ha pins s σ H _ I h) fun v s1 ⟨x, H1, I1, r1, q1⟩ => ?_)
  obtain ⟨c, rfl, q1⟩ := q1
  cases r1
  refine wpAny_truthy_bool ?_
  cases c with
  | true => exact hb pins s1 σ H1 Q I1 q1
  | false => exact ⟨.bl false, H1, I1, rfl, q1⟩
noncomputable def tIf (t : TT) (ta tb : TE) : TE := fun σ H Q => t σ H fun c H1 => if c = true then ta σ H1 Q else tb σ H1 Q
theorem pe_ifExp {c : Expr} (hc : PT X c tA) (ha : PE X a ta) (hb : PE X b tb) : PE X (.IfExp c a b pos) (tIf tA ta tb) := by
  intro pins s σ H Q I h
  refine wpAny_IfExp (thn (hc pins s σ H _ I h) fun d s1 ⟨H1, I1, q1⟩ => ?_)
  cases d with
  | true => exact ha pins s1 σ H1 Q I1 q1
  | false => exact hb pins s1 σ H1 Q I1 q1
end
end L2
namespace L2
open PySem PySem.Spec PyProof.Rows
noncomputable def SqL (K : PySem.W.Frag) (H : Hp) (a : Addr) (xs : List V) : Prop :=
  Rd H a (.lst xs) ∨
    ∃ (o : Obj) (its : Array Value) (n : Nat), K.lookup a = some o ∧ o.cls = .type "list" ∧ o.dict = none ∧ o.data = .seq its n ∧ its.size ≤ sizeLine ∧ Vals xs its.toList
noncomputable def SqT (K : PySem.W.Frag) (H : Hp) (a : Addr) (xs : List V) : Prop :=
  Rd H a (.tup xs) ∨
    ∃ (o : Obj) (its : Array Value) (n : Nat), K.lookup a = some o ∧ o.cls = .type "tuple" ∧ o.data = .seq its n ∧ its.size ≤ sizeLine ∧ Vals xs its.toList
noncomputable def absV : Value → Option V
  | .none => some .non
  | .bool b => some (.bl b)
  | .int i _ => some (.int i)
  | .str x _ => some (.str x)
  | .bytes b _ => some (.byt b)
  | .float b _ => some (.flt b)
  | .ref a => some (.ref a)
  | .type n => some (.ty n)
  | _ => none
theorem RelV.abs {x : V} {u : Value} (r : RelV x u) : absV u = some x := by
  cases x with
  | non => cases r; rfl
  | bl _ => cases r; rfl
  | int _ => obtain ⟨t, rfl⟩ := r; rfl
  | str _ => obtain ⟨t, rfl⟩ := r; rfl
  | byt _ => obtain ⟨t, rfl⟩ := r; rfl
  | flt _ => obtain ⟨t, rfl⟩ := r; rfl
  | ref _ => cases r; rfl
  | ty _ => cases r; rfl
theorem RelV.inj {x y : V} {u : Value} (r : RelV x u) (q : RelV y u) : x = y := Option.some.inj (r.abs.symm.trans q.abs)
theorem Vals.inj : ∀ {xs ys : List V} {us : List Value}, Vals xs us → Vals ys us → xs = ys
  | _, _, _, .nil, .nil => rfl
  | _, _, _, .cons r t, .cons r' t' => by rw [r.inj r', Vals.inj t t']
section
variable {X : Cx} {pins : List (Addr × Obj)} {σ : St} {H : Hp} {s : Shared} {a : Addr} {xs ys : List V}
theorem SqL.of {K : PySem.W.Frag} (h : H a = some (.lst xs)) : SqL K H a xs := .inl (.inl h)
theorem SqT.of {K : PySem.W.Frag} (h : H a = some (.tup xs)) : SqT K H a xs := .inl (.inl h)
theorem Inv.list (I : Inv X pins σ H s) (h : SqL X.K H a xs) : ∃ its : List Value, Vals xs its ∧ PlainL s.heap a its.toArray ∧ xs.length ≤ sizeLine := by
  rcases h with h | ⟨o, its, n, hk, hc, hd, hs, hz, r⟩
  · obtain ⟨z, its, n, r, e⟩ := h.ok I.hok
    exact ⟨its, r, ⟨_, n, e, rfl, rfl, rfl⟩, z⟩
  · refine ⟨its.toList, r, ⟨o, n, I.kIn a o hk, hc, hd, by simpa using hs⟩, ?_⟩
    have e := r.length
    simp only [Array.length_toList] at e
    omega
theorem Inv.tuple (I : Inv X pins σ H s) (h : SqT X.K H a xs) : ∃ its : List Value, Vals xs its ∧ IsTup s.heap a its.toArray ∧ xs.length ≤ sizeLine := by
  rcases h with h | ⟨o, its, n, hk, hc, hs, hz, r⟩
  · obtain ⟨z, its, r, p, _⟩ := h.ok I.hok
    exact ⟨its, r, p, z⟩
  · refine ⟨its.toList, r, ⟨o, I.kIn a o hk, hc, n, by simpa using hs⟩, ?_⟩
    have e := r.length
    simp only [Array.length_toList] at e
    omega
theorem Inv.list_inj (I : Inv X pins σ H s) (h : SqL X.K H a xs) (h' : SqL X.K H a ys) : xs = ys := by
  obtain ⟨its, r, ⟨o, n, e, _, _, d⟩, _⟩ := I.list h
  obtain ⟨its', r', ⟨o', n', e', _, _, d'⟩, _⟩ := I.list h'
  rw [e] at e'; cases e'
  rw [d] at d'
  injection d' with d1 _
  have : its = its' := by simpa using congrArg Array.toList d1
  subst this
  exact r.inj r'
theorem Inv.tuple_inj (I : Inv X pins σ H s) (h : SqT X.K H a xs) (h' : SqT X.K H a ys) : xs = ys := by
  obtain ⟨its, r, ⟨o, e, _, n, d⟩, _⟩ := I.tuple h
  obtain ⟨its', r', ⟨o', e', _, n', d'⟩, _⟩ := I.tuple h'
  rw [e] at e'; cases e'
  rw [d] at d'
  injection d' with d1 _
  have : its = its' := by simpa using congrArg Array.toList d1
  subst this
  exact r.inj r'
end
noncomputable abbrev Cx.wish (X : Cx) (E : Value → Shared → Prop) : Cx := { X with xe := E }
noncomputable abbrev Cx.nox (X : Cx) : Cx := X.wish fun _ _ => False
theorem Cx.Ok.wish {X : Cx} (ok : X.Ok) (E : Value → Shared → Prop) : (X.wish E).Ok :=
  ⟨ok.mod, ok.kind, ok.glob, ok.blt, ok.above, ok.inj, ok.has, ok.cab, ok.hd, ok.frames, ok.stk, ok.exf, ok.bs, ok.bsz, ok.noex, ok.exfs, ok.funs, ok.frf⟩
theorem Cx.Ok.unwish {X : Cx} {E : Value → Shared → Prop} (ok : (X.wish E).Ok) : X.Ok :=
  ⟨ok.mod, ok.kind, ok.glob, ok.blt, ok.above, ok.inj, ok.has, ok.cab, ok.hd, ok.frames, ok.stk, ok.exf, ok.bs, ok.bsz, ok.noex, ok.exfs, ok.funs, ok.frf⟩
section
variable {X : Cx} {pins : List (Addr × Obj)} {σ : St} {H : Hp} {s : Shared} {E : Value → Shared → Prop}
theorem Inv.wish (I : Inv X pins σ H s) (E : Value → Shared → Prop) : Inv (X.wish E) pins σ H s := ⟨I.ok.wish E, I.os, I.bare, I.base, I.loc, I.cell, I.free, I.freeC, I.pin, I.hok, I.len⟩
theorem Inv.unwish (I : Inv (X.wish E) pins σ H s) : Inv X pins σ H s := ⟨I.ok.unwish, I.os, I.bare, I.base, I.loc, I.cell, I.free, I.freeC, I.pin, I.hok, I.len⟩
theorem SP.unwish {D : Ends} {f : Flow} {s' : Shared} (h : SP (X.wish E) pins D f s') : SP X pins D f s' := by
  cases f with
  | next => obtain ⟨σ', H', I, q⟩ := h; exact ⟨σ', H', I.unwish, q⟩
  | brk => obtain ⟨σ', H', I, q⟩ := h; exact ⟨σ', H', I.unwish, q⟩
  | cont => obtain ⟨σ', H', I, q⟩ := h; exact ⟨σ', H', I.unwish, q⟩
  | ret u => obtain ⟨v, σ', H', I, r, q⟩ := h; exact ⟨v, σ', H', I.unwish, r, q⟩
theorem PSs.nox {st : List Stmt} {t : TS} (h : PSs X.nox st t) : PSs X st t := fun pins s σ H D I hw =>
  wpAny_mono (h pins s σ H D (I.wish _) hw) (fun _ _ q => q.unwish) fun _ _ z => False.elim z
end
section
variable {X : Cx} {st : Stmt} {rest : List Stmt} {t u : TS} {e : Expr} {te : TE} {pos : Pos}
noncomputable def tNext : TS := fun D σ H => D.nx σ H
noncomputable def tSeq (t u : TS) : TS := fun D σ H => t { D with nx := u D } σ H
theorem pss_nil : PSs X [] tNext := fun _ _ σ H _ I h => wpAny_execs_nil ⟨σ, H, I, h⟩
theorem pss_cons (h1 : PS X st t) (h2 : PSs X rest u) : PSs X (st :: rest) (tSeq t u) := by
  intro pins s σ H D I h
  refine wpAny_execs_cons (thn (h1 pins s σ H { D with nx := u D } I h) fun f s1 q => ?_)
  cases f with
  | next =>
    obtain ⟨σ', H', I', q⟩ := q
    exact h2 pins s1 σ' H' D I' q
  | ret v => exact q
  | brk => exact q
  | cont => exact q
theorem pss_one (h1 : PS X st t) : PSs X [st] t := by
  intro pins s σ H D I h
  refine wpAny_execs_cons (thn (h1 pins s σ H D I h) fun f s1 q => ?_)
  cases f with
  | next => exact wpAny_execs_nil q
  | ret v => exact q
  | brk => exact q
  | cont => exact q
theorem Inv.quiet {pins : List (Addr × Obj)} {σ : St} {H : Hp} {s : Shared} (I : Inv X pins σ H s) : interactive X.env = false := by simp [interactive, I.ok.kind]
noncomputable def tDrop (te : TE) : TS := fun D σ H => te σ H fun _ H1 => D.nx σ H1
theorem ps_expr (he : PE X e te) (hs : swapsWith e none pos.line X.env = pure false := by rfl) : PS X (.Expr e pos) (tDrop te) := by
  intro pins s σ H D I h
  exact wpAny_Expr_any (thn (he pins s σ H _ I h) fun v s1 ⟨x, H1, I1, r1, q1⟩ => ⟨σ, H1, I1, q1⟩) I.quiet hs
noncomputable def tRet (te : TE) : TS := fun D σ H => te σ H D.rt
theorem ps_ret (he : PE X e te) : PS X (.Return (some e) pos) (tRet te) := by
  intro pins s σ H D I h
  exact wpAny_Return_some (thn (he pins s σ H _ I h) fun v s1 ⟨x, H1, I1, r1, q1⟩ => ⟨x, σ, H1, I1, r1, q1⟩)
noncomputable def tIfS (c : TT) (t u : TS) : TS := fun D σ H => c σ H fun b H1 => if b = true then t D σ H1 else u D σ H1
theorem ps_if {c : Expr} {a b : List Stmt} {tc : TT} (hc : PT X c tc) (ha : PSs X a t) (hb : PSs X b u) : PS X (.If c a b pos) (tIfS tc t u) := by
  intro pins s σ H D I h
  refine wpAny_If (thn (hc pins s σ H _ I h) fun d s1 ⟨H1, I1, q1⟩ => ?_)
  cases d with
  | true => exact ha pins s1 σ H1 D I1 q1
  | false => exact hb pins s1 σ H1 D I1 q1
noncomputable def tNever : TS := fun _ _ _ => False
theorem ps_never : PS X st tNever := fun _ _ _ _ _ _ h => h.elim
end
noncomputable abbrev TG := V → St → Hp → (St → Hp → Prop) → Prop
noncomputable abbrev TGs := List V → St → Hp → (St → Hp → Prop) → Prop
noncomputable def PG (X : Cx) (target : Expr) (t : TG) : Prop :=
  ∀ (pins : List (Addr × Obj)) (s : Shared) (σ : St) (H : Hp) (v : V) (u : Value) (Q : St → Hp → Prop), Inv X pins σ H s → RelV v u → t v σ H Q →
    wpAny (model X.prog X.w) X.A (assign target X.env u) (fun _ s' => ∃ σ' H', Inv X pins σ' H' s' ∧ Q σ' H') X.xe s
noncomputable def PGs (X : Cx) (ts : List Expr) (t : TGs) : Prop :=
  ∀ (pins : List (Addr × Obj)) (s : Shared) (σ : St) (H : Hp) (vs : List V) (us : List Value) (Q : St → Hp → Prop), Inv X pins σ H s → Vals vs us → t vs σ H Q →
    wpAny (model X.prog X.w) X.A (assignInOrder ((assignEach ts X.env).map (·.2)) us) (fun _ s' => ∃ σ' H', Inv X pins σ' H' s' ∧ Q σ' H') X.xe s
noncomputable abbrev TSet := V → V → V → Hp → (Hp → Prop) → Prop
noncomputable def PSet (X : Cx) (t : TSet) : Prop :=
  ∀ (pins : List (Addr × Obj)) (s : Shared) (σ : St) (H : Hp) (o i v : V) (ov iv u : Value) (Q : Hp → Prop), Inv X pins σ H s → RelV o ov → RelV i iv → RelV v u → t o i v H Q →
    wpAny (model X.prog X.w) X.A (setItem ov iv u) (fun _ s' => ∃ H', Inv X pins σ H' s' ∧ Q H') X.xe s
section
variable {X : Cx} {pos : Pos}
noncomputable def gName (i : Nat) : TG := fun v σ H Q => Q (σ.set i (some v)) H
theorem pg_name {i : Nat} {x : Str} (hN : X.N.Nodup) (hi : X.N[i]? = some x) (hx : Loc X.env.scope x) (hf : X.fn x = true ∨ X.env.scope.names.lookup x = some .local := by first | exact .inl rfl | exact .inr rfl | assumption) : PG X (.Name x pos) (gName i) := by
  intro pins s σ H v u Q I r h
  exact wpAny_assign_Name (store_ok I hN hi hx r (fun s' I' => ⟨_, H, I', h⟩) hf)
noncomputable def gNil : TGs := fun vs σ H Q => vs = [] ∧ Q σ H
noncomputable def gCons (t : TG) (u : TGs) : TGs := fun vs σ H Q => ∃ v r, vs = v :: r ∧ t v σ H fun σ' H' => u r σ' H' Q
theorem pgs_nil : PGs X [] gNil := by
  intro pins s σ H vs us Q I r h
  obtain ⟨e, h⟩ := h
  subst e
  cases r
  exact assignInOrder_nil ⟨σ, H, I, h⟩
theorem pgs_cons {e : Expr} {es : List Expr} {t : TG} {u : TGs} (h1 : PG X e t) (h2 : PGs X es u)
    (hs : (assignEach (e :: es) X.env).map (·.2) = assign e X.env :: (assignEach es X.env).map (·.2) := by rfl) : PGs X (e :: es) (gCons t u) := by
  intro pins s σ H vs us Q I r h
  obtain ⟨v, vr, e1, h⟩ := h
  subst e1
  cases r with
  | cons r rr =>
    rw [hs]
    refine assignInOrder_cons (thn (h1 pins s σ H _ _ _ I r h) fun _ s1 ⟨σ1, H1, I1, q1⟩ => ?_)
    exact h2 pins s1 σ1 H1 _ _ Q I1 rr q1
noncomputable def gTup (K : PySem.W.Frag) (n : Nat) (t : TGs) : TG := fun v σ H Q => ∃ a xs, v = .ref a ∧ SqT K H a xs ∧ xs.length = n ∧ t xs σ H Q
theorem pg_tup {es : List Expr} {k : Nat} {t : TGs} {n : Nat} (hc : X.calm = true) (h : PGs X es t)
    (hn : (assignEach es X.env).length = n := by rfl) (hst : (assignEach es X.env).findIdx? (·.1) = none := by rfl) : PG X (.Tuple es k pos) (gTup X.K n t) := by
  intro pins s σ H v u Q I r hw
  obtain ⟨a, xs, e1, hq, hl, hw⟩ := hw
  subst e1
  cases r
  obtain ⟨its, rv, ht, hz⟩ := I.tuple hq
  refine assign_Tuple_tuple (I.ok.hd hc) ht (by simp [hn, ← hl, rv.length]) hst fun h' hx => ?_
  have I1 : Inv X pins σ H { s with heap := h' } := I.kept (t' := s.toks) fun b o e => hx b o (Nat.ne_of_lt (Heap.lt_size e)) e
  exact h pins _ σ H xs _ Q I1 (by simpa using rv) hw
noncomputable def gSub (to ti : TE) (t : TSet) : TG := fun v σ H Q => to σ H fun o H1 => ti σ H1 fun i H2 => t o i v H2 fun H3 => Q σ H3
theorem pg_sub {o i : Expr} {to ti : TE} {t : TSet} (ho : PE X o to) (hi : PE X i ti) (hs : PSet X t)
    (ha : ∀ v, assign (.Subscript o i pos) X.env v = (do
      let ov ← holding [v] (eval o X.env)
      let iv ← holding [v, ov] (eval i X.env)
      standAt pos
      holding [v, ov, iv] (setItem ov iv v)
      release [v, ov, iv] []) := by intro _; rfl) : PG X (.Subscript o i pos) (gSub to ti t) := by
  intro pins s σ H v u Q I r h
  rw [ha]
  refine wpAny_bind (wpAny_holding (thn (ho pins s σ H _ I h) fun ov s1 ⟨x, H1, I1, r1, q1⟩ => ?_))
  refine wpAny_bind (wpAny_holding (thn (hi pins s1 σ H1 _ I1 q1) fun iv s2 ⟨y, H2, I2, r2, q2⟩ => ?_))
  refine wpAny_bind (wpAny_standAt (wpAny_bind (wpAny_holding (thn (hs pins s2 σ H2 x y v ov iv u _ I2 r1 r2 r q2) fun _ s3 ⟨H3, I3, q3⟩ => ?_))))
  exact wpAny_release ⟨σ, H3, I3, q3⟩
noncomputable def tAsg (te : TE) (g : TG) : TS := fun D σ H => te σ H fun x H1 => g x σ H1 D.nx
theorem ps_asg {tg e : Expr} {te : TE} {g : TG} (he : PE X e te) (hg : PG X tg g) (hs : swapsWithSole [tg] e pos.line X.env = pure false := by rfl) (hw : swappedStores [tg] e X.env = pure none := by rfl)
    (h1 : (assignEach [tg] X.env).map (·.2) = [assign tg X.env] := by rfl) : PS X (.Assign [tg] e pos) (tAsg te g) := by
  intro pins s σ H D I h
  refine wpAny_Assign_stores (thn (he pins s σ H _ I h) fun v s1 ⟨x, H1, I1, r1, q1⟩ => ?_) hs hw
  rw [h1]
  exact thn (hg pins s1 σ H1 x v _ I1 r1 q1) fun _ s2 q => q
theorem ps_set {i : Nat} {x : Str} {e : Expr} {te : TE} {pos' : Pos} (hN : X.N.Nodup) (hi : X.N[i]? = some x) (hx : Loc X.env.scope x) (he : PE X e te) (hs : swapsWith e (some (.Name x pos')) pos.line X.env = pure false := by rfl) (hf : X.fn x = true ∨ X.env.scope.names.lookup x = some .local := by first | exact .inl rfl | exact .inr rfl | assumption) :
    PS X (.Assign [.Name x pos'] e pos) (tAsg te (gName i)) := by
  intro pins s σ H D I h
  refine wpAny_Assign_Name (thn (he pins s σ H _ I h) fun v s1 ⟨y, H1, I1, r1, q1⟩ => ?_) hs
  exact store_ok I1 hN hi hx r1 (fun s2 I2 => ⟨_, H1, I2, q1⟩) hf
end
section
variable {X : Cx} {pos : Pos}
end
structure It where
  go : Nat → Hp → Prop
  yld : Nat → Hp → V → Hp → Prop
  stop : Nat → Hp → Prop
noncomputable def FpOk (X : Cx) (pins : List (Addr × Obj)) (H : Hp) (b : Addr) : Prop :=
  H b = none ∧ b ≠ X.env.locals ∧ b ∉ X.fs ∧ (b ∈ X.ex ∨ X.s₀.heap.objs.size ≤ b) ∧ (∀ x c, X.env.cells.lookup x = some c → c ≠ b) ∧ ∀ p ∈ X.pn ++ pins, p.1 ≠ b
theorem Inv.fpOk {X : Cx} {pins : List (Addr × Obj)} {σ : St} {H H' : Hp} {s : Shared} {b : Addr} (I : Inv X pins σ H s) (hb : s.heap.objs.size ≤ b) (hn : H' b = none) : FpOk X pins H' b := by
  refine ⟨hn, Nat.ne_of_gt (Nat.lt_of_lt_of_le I.lt hb), I.nofs hb, .inr (Nat.le_trans I.sz hb), fun x c e z => ?_, fun p hp z => ?_⟩
  · obtain ⟨v, q⟩ := I.cell x c e
    exact absurd (Nat.lt_of_lt_of_le q.lt (by rw [z]; exact hb)) (Nat.lt_irrefl _)
  · exact absurd (Nat.lt_of_lt_of_le (Heap.lt_size (I.pin p hp).1) (by rw [z]; exact hb)) (Nat.lt_irrefl _)
structure Turn (P : Program) (w : World) (K : PySem.W.Frag) (tg : Expr) (J : It) (fp : List Addr) (it : Addr) (tn : Nat → Heap → Prop) : Prop where
  mem : it ∈ fp
  obj : ∀ i h, tn i h → ∀ b ∈ fp, ∃ o, h.get? b = some o ∧ ∀ v, o.data ≠ .cell v
  keep : ∀ i h h', tn i h → (∀ b ∈ fp, ∀ o, h.get? b = some o → h'.get? b = some o) → tn i h'
  item : ∀ (X : Cx), X.prog = P → X.w = w → X.K = K → X.calm = true → ∀ (i : Nat) (pins : List (Addr × Obj)) (s : Shared) (σ : St) (H : Hp) (E : Value → Shared → Prop), Inv X pins σ H s → (∀ b ∈ fp, FpOk X pins H b) → tn i s.heap → J.go i H →
    wpAny (model P w) X.A (pyNext (.ref it)) (fun r s1 => ∃ u, r = some u ∧
      wpAny (model P w) X.A (letOwnedTupleGo tg (.ref it) u) (fun _ s2 => ∃ x H', Inv X pins σ H' s2 ∧ RelV x u ∧ J.yld i H x H' ∧ tn (i + 1) s2.heap ∧ ∀ b ∈ fp, H' b = none) E s1) E s
  done : ∀ (X : Cx), X.prog = P → X.w = w → X.K = K → X.calm = true → ∀ (i : Nat) (pins : List (Addr × Obj)) (s : Shared) (σ : St) (H : Hp) (E : Value → Shared → Prop), Inv X pins σ H s → (∀ b ∈ fp, FpOk X pins H b) → tn i s.heap → J.stop i H →
    wpAny (model P w) X.A (pyNext (.ref it)) (fun r s1 => r = none ∧ Inv X pins σ H s1) E s
  self : ∀ (A : Around) (i : Nat) (s : Shared) (Q : Value → Shared → Prop) (E : Value → Shared → Prop), tn i s.heap → Q (.ref it) s → wpAny (model P w) A (pyIter (.ref it)) Q E s
noncomputable abbrev TI := St → Hp → (It → Hp → Prop) → Prop
noncomputable def PIE (X : Cx) (pins : List (Addr × Obj)) (σ : St) (tg : Expr) (R : It → Hp → Prop) (itv : Value) (s2 : Shared) : Prop :=
  ∃ (it : Addr) (fp : List Addr) (tn : Nat → Heap → Prop) (J : It) (H' : Hp), itv = .ref it ∧ Inv X pins σ H' s2 ∧ Turn X.prog X.w X.K tg J fp it tn ∧ tn 0 s2.heap ∧ (∀ b ∈ fp, FpOk X pins H' b) ∧ R J H'
noncomputable def PI (X : Cx) (tg iter : Expr) (wi : TI) : Prop :=
  ∀ (pins : List (Addr × Obj)) (s : Shared) (σ : St) (H : Hp) (R : It → Hp → Prop), Inv X pins σ H s → wi σ H R →
    wpAny (model X.prog X.w) X.A (eval iter X.env) (fun v s1 => wpAny (model X.prog X.w) X.A (pyIter v) (PIE X pins σ tg R) X.xe s1) X.xe s
theorem go_of {M : Model} {A : Around} {E : Value → Shared → Prop} {s : Shared} {tg : Expr} {it : Addr} {u : Value} {o : Obj} {n : String} {vs : Array Value} {Q : Unit → Shared → Prop} (ho : s.heap.get? it = some o) (hc : o.cls = .type n) (hd : o.data = .fields vs)
    (hn : ["enumerate", "zip", "dict_itemiterator", "dict_reverseitemiterator", "odict_iterator", "itertools.zip_longest", "itertools.pairwise"].contains n = false) (hQ : Q () s) : wpAny M A (letOwnedTupleGo tg (.ref it) u) Q E s := by
  unfold letOwnedTupleGo
  cases tg <;> first
    | exact wpAny_pure hQ
    | (cases u <;> first
        | exact wpAny_pure hQ
        | (refine wpAny_bind (wpAny_load ho ?_)
           rw [hc, hd]
           show wpAny M A (if (["enumerate", "zip", "dict_itemiterator", "dict_reverseitemiterator", "odict_iterator", "itertools.zip_longest", "itertools.pairwise"].contains n && vs[0]? == some (rawInt _)) = true then _ else _) Q E s
           rw [if_neg (by intro h; rw [hn, Bool.false_and] at h; cases h)]
           exact wpAny_pure hQ))
noncomputable def Itl (K : PySem.W.Frag) (a : Addr) : It :=
  ⟨fun i H => ∃ xs x, SqL K H a xs ∧ xs[i]? = some x, fun i H x H' => H' = H ∧ ∀ xs, SqL K H a xs → xs[i]? = some x, fun i H => ∃ xs, SqL K H a xs ∧ xs.length ≤ i⟩
noncomputable def Itt (K : PySem.W.Frag) (a : Addr) : It :=
  ⟨fun i H => ∃ xs x, SqT K H a xs ∧ xs[i]? = some x, fun i H x H' => H' = H ∧ ∀ xs, SqT K H a xs → xs[i]? = some x, fun i H => ∃ xs, SqT K H a xs ∧ xs.length ≤ i⟩
noncomputable def Itr (lo : Int) (n : Nat) : It := ⟨fun i _ => i < n, fun i H x H' => H' = H ∧ x = .int (lo + i), fun i _ => n ≤ i⟩
theorem turn_list {P : Program} {w : World} {K : PySem.W.Frag} {tg : Expr} (a it : Addr) : Turn P w K tg (Itl K a) [it] it (fun i h => h.IsListIter it a i) where
  mem := by simp
  obj := fun i h st b hb => by
    have e : b = it := by simpa using hb
    subst e
    obtain ⟨o, e, c, d⟩ := st
    exact ⟨o, e, fun v z => by rw [d] at z; cases z⟩
  keep := fun i h h' st k => st.at fun o e => k it (by simp) o e
  item := by
    intro X hP hw hK hc i pins s σ H E I hf st hg
    subst hP hw hK
    obtain ⟨xs, x, hq, hx⟩ := hg
    obtain ⟨its, rv, p, hz⟩ := I.list hq
    obtain ⟨u, hu, ru⟩ := rv.get hx
    obtain ⟨f0, f1, f2, f3, f4, f5⟩ := hf it (by simp)
    refine wpAny_pyNext_list_item st p.isList (x := u) (by simpa using hu) fun h' st' sb => ?_
    have I1 : Inv X pins σ H { s with heap := h' } := I.turned (t' := s.toks) (fun b o hb e => (sb.2 b hb).trans e) f0 f1 f3 f4 f5
    obtain ⟨o, e, c, d⟩ := id st'
    exact ⟨u, rfl, go_of (s := { s with heap := h' }) e c d (by decide) ⟨x, H, I1, ru, ⟨rfl, fun ys hy => by rw [I.list_inj hy hq]; exact hx⟩, st', fun b hb => (hf b hb).1⟩⟩
  done := by
    intro X hP hw hK hc i pins s σ H E I hf st hg
    subst hP hw hK
    obtain ⟨xs, hq, hx⟩ := hg
    obtain ⟨its, rv, p, hz⟩ := I.list hq
    obtain ⟨f0, f1, f2, f3, f4, f5⟩ := hf it (by simp)
    have hl := rv.length
    exact wpAny_pyNext_list_end (I.ok.hd hc) st p.isList (by simp; omega) fun h' eb => ⟨rfl, I.turned (t' := s.toks) (fun b o hb e => eb b o hb e) f0 f1 f3 f4 f5⟩
  self := fun _ _ _ _ _ st h => wpAny_pyIter_listiter st h
theorem turn_tuple {P : Program} {w : World} {K : PySem.W.Frag} {tg : Expr} (a it : Addr) : Turn P w K tg (Itt K a) [it] it (fun i h => h.IsTupleIter it a i) where
  mem := by simp
  obj := fun i h st b hb => by
    have e : b = it := by simpa using hb
    subst e
    obtain ⟨o, e, c, d⟩ := st
    exact ⟨o, e, fun v z => by rw [d] at z; cases z⟩
  keep := fun i h h' st k => st.at fun o e => k it (by simp) o e
  item := by
    intro X hP hw hK hc i pins s σ H E I hf st hg
    subst hP hw hK
    obtain ⟨xs, x, hq, hx⟩ := hg
    obtain ⟨its, rv, p, hz⟩ := I.tuple hq
    obtain ⟨u, hu, ru⟩ := rv.get hx
    obtain ⟨f0, f1, f2, f3, f4, f5⟩ := hf it (by simp)
    refine wpAny_pyNext_tuple_item st (show s.heap.IsTuple a its.toArray from p) (x := u) (by simpa using hu) fun h' st' sb => ?_
    have I1 : Inv X pins σ H { s with heap := h' } := I.turned (t' := s.toks) (fun b o hb e => (sb.2 b hb).trans e) f0 f1 f3 f4 f5
    obtain ⟨o, e, c, d⟩ := id st'
    exact ⟨u, rfl, go_of (s := { s with heap := h' }) e c d (by decide) ⟨x, H, I1, ru, ⟨rfl, fun ys hy => by rw [I.tuple_inj hy hq]; exact hx⟩, st', fun b hb => (hf b hb).1⟩⟩
  done := by
    intro X hP hw hK hc i pins s σ H E I hf st hg
    subst hP hw hK
    obtain ⟨xs, hq, hx⟩ := hg
    obtain ⟨its, rv, p, hz⟩ := I.tuple hq
    obtain ⟨f0, f1, f2, f3, f4, f5⟩ := hf it (by simp)
    have hl := rv.length
    exact wpAny_pyNext_tuple_end (I.ok.hd hc) st (show s.heap.IsTuple a its.toArray from p) (by simp; omega) fun h' eb => ⟨rfl, I.turned (t' := s.toks) (fun b o hb e => eb b o hb e) f0 f1 f3 f4 f5⟩
  self := fun _ _ _ _ _ st h => wpAny_pyIter_tupleiter st h
theorem turn_range {P : Program} {w : World} {K : PySem.W.Frag} {tg : Expr} (it : Addr) (lo : Int) (n : Nat) : Turn P w K tg (Itr lo n) [it] it (fun i h => IsRangeIter h it (lo + (i : Nat) * 1) ((n : Int) - (i : Nat)) 1) where
  mem := by simp
  obj := fun i h st b hb => by
    have e : b = it := by simpa using hb
    subst e
    exact ⟨_, st, fun v z => by
      have z' : Data.fields _ = Data.cell v := z
      cases z'⟩
  keep := fun i h h' st k => k it (by simp) _ st
  item := by
    intro X hP hw hK hc i pins s σ H E I hf st hg
    subst hP hw hK
    obtain ⟨f0, f1, f2, f3, f4, f5⟩ := hf it (by simp)
    have W := Walks.range (prog := X.prog) (w := X.w) (I.ok.hd hc) it lo 1 n
    refine W.item i s _ _ hg st fun v h' tk hv st' kk => ?_
    obtain ⟨t, rfl⟩ := hv
    have I1 : Inv X pins σ H { s with heap := h', toks := tk } := I.turned (fun b o hb e => kk b o (by simpa using hb) e) f0 f1 f3 f4 f5
    refine ⟨_, rfl, go_of (s := { s with heap := h', toks := tk }) (n := "range_iterator") st' rfl rfl (by decide) ⟨.int (lo + i), H, I1, ⟨t, ?_⟩, ⟨rfl, rfl⟩, st', fun b hb => (hf b hb).1⟩⟩
    rw [Int.mul_one]
  done := by
    intro X hP hw hK hc i pins s σ H E I hf st hg
    subst hP hw hK
    obtain ⟨f0, f1, f2, f3, f4, f5⟩ := hf it (by simp)
    exact wpAny_pyNext_range_end (I.ok.hd hc) st (by have : n ≤ i := hg; omega) fun h' eb => ⟨rfl, I.turned (t' := s.toks) (fun b o hb e => eb b o hb e) f0 f1 f3 f4 f5⟩
  self := fun _ _ _ _ _ st h => wpAny_pyIter_rangeiter st h
end L2
namespace L2
open PySem PySem.Spec PyProof.Rows
section
variable {X : Cx} {tg : Expr}
noncomputable def iList (K : PySem.W.Frag) (tl : TE) : TI := fun σ H R => tl σ H fun x H1 => ∃ a, x = .ref a ∧ (∃ xs, SqL K H1 a xs) ∧ R (Itl K a) H1
noncomputable def iTup (K : PySem.W.Frag) (tl : TE) : TI := fun σ H R => tl σ H fun x H1 => ∃ a, x = .ref a ∧ (∃ xs, SqT K H1 a xs) ∧ R (Itt K a) H1
theorem pi_list {l : Expr} {tl : TE} (hl : PE X l tl) : PI X tg l (iList X.K tl) := by
  intro pins s σ H R I h
  refine thn (hl pins s σ H _ I h) fun v s1 ⟨x, H1, I1, r1, q1⟩ => ?_
  obtain ⟨a, e, ⟨xs, hq⟩, q⟩ := q1
  subst e
  cases r1
  obtain ⟨its, rv, p, hz⟩ := I1.list hq
  refine wpAny_pyIter_list p.isList ?_
  refine ⟨s1.heap.objs.size, [s1.heap.objs.size], _, _, H1, rfl, I1.kept (t' := s1.toks) fun b o e => Heap.get?_push_of_some _ e, turn_list a _, ⟨_, Heap.get?_push_size _ rfl, rfl, rfl⟩, fun b hb => ?_, q⟩
  have e : b = s1.heap.objs.size := by simpa using hb
  subst e
  exact I1.fpOk (Nat.le_refl _) (I1.hok.fresh (Nat.le_refl _))
theorem pi_tup {l : Expr} {tl : TE} (hl : PE X l tl) : PI X tg l (iTup X.K tl) := by
  intro pins s σ H R I h
  refine thn (hl pins s σ H _ I h) fun v s1 ⟨x, H1, I1, r1, q1⟩ => ?_
  obtain ⟨a, e, ⟨xs, hq⟩, q⟩ := q1
  subst e
  cases r1
  obtain ⟨its, rv, p, hz⟩ := I1.tuple hq
  refine wpAny_pyIter_tuple (show s1.heap.IsTuple a its.toArray from p) ?_
  refine ⟨s1.heap.objs.size, [s1.heap.objs.size], _, _, H1, rfl, I1.kept (t' := s1.toks) fun b o e => Heap.get?_push_of_some _ e, turn_tuple a _, ⟨_, Heap.get?_push_size _ rfl, rfl, rfl⟩, fun b hb => ?_, q⟩
  have e : b = s1.heap.objs.size := by simpa using hb
  subst e
  exact I1.fpOk (Nat.le_refl _) (I1.hok.fresh (Nat.le_refl _))
theorem range_it {pins : List (Addr × Obj)} {σ : St} {H : Hp} {s : Shared} {R : It → Hp → Prop} {E : Value → Shared → Prop} {lo hi : Int} {t u v : Tok} {tk : Nat} (I : Inv X pins σ H s) (h1 : -(2 ^ 62) ≤ lo) (h2 : lo < 2 ^ 62) (h3 : -(2 ^ 62) ≤ hi) (h4 : hi < 2 ^ 62)
    (q : R (Itr lo (hi - lo).toNat) H) : wpAny (model X.prog X.w) X.A (pyIter (.ref s.heap.objs.size)) (PIE X pins σ tg R) E { s with heap := s.heap.push { cls := .type "range", data := .fields #[.int lo t, .int hi u, .int 1 v] }, toks := tk } := by
  refine wpAny_pyIter_range (IsRange.new ..) (small_one h1 h2 h3 h4) ?_
  have I1 : Inv X pins σ H { s with heap := s.heap.push { cls := .type "range", data := .fields #[.int lo t, .int hi u, .int 1 v] }, toks := tk } := I.kept fun b o e => Heap.get?_push_of_some _ e
  refine ⟨(s.heap.push { cls := .type "range", data := .fields #[.int lo t, .int hi u, .int 1 v] }).objs.size, [(s.heap.push { cls := .type "range", data := .fields #[.int lo t, .int hi u, .int 1 v] }).objs.size], _, _, H, rfl,
    I1.kept (t' := tk) fun b o e => Heap.get?_push_of_some _ e, turn_range _ lo (hi - lo).toNat, ?_, fun b hb => ?_, q⟩
  · have e1 : lo + ((0 : Nat) : Int) * 1 = lo := by simp
    have e2 : (((hi - lo).toNat : Nat) : Int) - ((0 : Nat) : Int) = Builtin.Range.rangeSize lo hi 1 := by rw [rangeSize_one]; split <;> omega
    show IsRangeIter _ _ (lo + ((0 : Nat) : Int) * 1) ((((hi - lo).toNat : Nat) : Int) - ((0 : Nat) : Int)) 1
    rw [e1, e2]
    exact Heap.get?_push_size _ rfl
  · have e : b = (s.heap.push { cls := .type "range", data := .fields #[.int lo t, .int hi u, .int 1 v] }).objs.size := by simpa using hb
    subst e
    exact I1.fpOk (Nat.le_refl _) (I1.hok.fresh (Nat.le_refl _))
noncomputable def iRng1 (ta : TA) : TI := fun σ H R => ta σ H fun vs H1 => ∃ j : Int, vs = [.int j] ∧ -(2 ^ 62) ≤ j ∧ j < 2 ^ 62 ∧ R (Itr 0 j.toNat) H1
noncomputable def iRng2 (ta : TA) : TI := fun σ H R => ta σ H fun vs H1 => ∃ i j : Int, vs = [.int i, .int j] ∧ (-(2 ^ 62) ≤ i ∧ i < 2 ^ 62 ∧ -(2 ^ 62) ≤ j ∧ j < 2 ^ 62) ∧ R (Itr i (j - i).toNat) H1
theorem pi_range1 {a : Expr} {ta : TA} {p pos : Pos} (hg : Gl X "range") (hm : X.mg "range" = none) (ha : PA X [a] ta) (hs : starEach [a] X.env = [(false, eval a X.env)] := by rfl) : PI X tg (.Call (.Name "range" p) [a] [] pos) (iRng1 ta) := by
  intro pins s σ H R I h
  refine Call_ (ld_blt I hg hm boot_range (PyProof.Rows.callWith_type1 (thn (ha pos pins s σ H _ I h) fun us s1 ⟨vs, H1, I1, r1, q1⟩ => ?_) hs rfl))
  obtain ⟨j, e, q1, q2, q⟩ := q1
  subst e
  cases r1 with
  | cons r rr =>
    cases rr
    obtain ⟨t, rfl⟩ := r
    exact call_range_1 (range_it I1 (by omega) (by omega) q1 q2 (by simpa using q))
theorem pi_range2 {a b : Expr} {ta : TA} {p pos : Pos} (hg : Gl X "range") (hm : X.mg "range" = none) (ha : PA X [a, b] ta) (hs : starEach [a, b] X.env = [(false, eval a X.env), (false, eval b X.env)] := by rfl) (hs2 : starEach [b] X.env = [(false, eval b X.env)] := by rfl) :
    PI X tg (.Call (.Name "range" p) [a, b] [] pos) (iRng2 ta) := by
  intro pins s σ H R I h
  refine Call_ (ld_blt I hg hm boot_range (PyProof.Rows.callWith_type1 (thn (ha pos pins s σ H _ I h) fun us s1 ⟨vs, H1, I1, r1, q1⟩ => ?_) (by rw [hs, hs2]) (by rw [hs2]; rfl)))
  obtain ⟨i, j, e, ⟨q1, q2, q3, q4⟩, q⟩ := q1
  subst e
  cases r1 with
  | cons r rr =>
    cases rr with
    | cons r' rr =>
      cases rr
      obtain ⟨t, rfl⟩ := r
      obtain ⟨t', rfl⟩ := r'
      exact call_range_2 (range_it I1 q1 q2 q3 q4 q)
noncomputable def tFor (wi : TI) (g : TG) (tb : TS) : TS := fun D σ H => wi σ H fun J H1 => ∃ W : Nat → Nat → St → Hp → Prop, (∃ m, W 0 m σ H1) ∧ ∀ i m σ H, W i m σ H →
  (J.stop i H ∧ D.nx σ H) ∨ (J.go i H ∧ ∃ N : St → Hp → Prop, (∀ σ' H', N σ' H' → ∃ m', m' < m ∧ W (i + 1) m' σ' H') ∧ ∀ x H', J.yld i H x H' → g x σ H' fun σ2 H2 => tb { D with nx := N, ct := N, bk := D.nx } σ2 H2)
noncomputable def pinsAt (fp : List Addr) (h : Heap) : List (Addr × Obj) := fp.filterMap fun b => (h.get? b).map fun o => (b, o)
theorem mem_pinsAt {fp : List Addr} {h : Heap} {b : Addr} {o : Obj} (hb : b ∈ fp) (e : h.get? b = some o) : (b, o) ∈ pinsAt fp h := List.mem_filterMap.mpr ⟨b, hb, by rw [e]; rfl⟩
theorem of_pinsAt {fp : List Addr} {h : Heap} {p : Addr × Obj} (hp : p ∈ pinsAt fp h) : p.1 ∈ fp ∧ h.get? p.1 = some p.2 := by
  obtain ⟨b, hb, e⟩ := List.mem_filterMap.mp hp
  cases q : h.get? b with
  | none => rw [q] at e; cases e
  | some o =>
    rw [q] at e
    have e' : (b, o) = p := Option.some.inj e
    subst e'
    exact ⟨hb, q⟩
theorem Inv.pinned {pins : List (Addr × Obj)} {σ : St} {H : Hp} {s : Shared} {fp : List Addr} (I : Inv X pins σ H s) (hf : ∀ b ∈ fp, FpOk X pins H b) (ho : ∀ b ∈ fp, ∃ o, s.heap.get? b = some o ∧ ∀ v, o.data ≠ .cell v) : Inv X (pins ++ pinsAt fp s.heap) σ H s :=
  I.pins_of fun p hp => (List.mem_append.mp hp).elim (fun z => I.pin p (List.mem_append_right _ z)) fun z => by
    obtain ⟨hb, e⟩ := of_pinsAt z
    obtain ⟨f0, f1, f2, _⟩ := hf p.1 hb
    obtain ⟨o, e', d⟩ := ho p.1 hb
    rw [e] at e'; cases e'
    exact ⟨e, f0, f1, f2, d⟩
theorem Inv.unpinned {pins pl : List (Addr × Obj)} {σ : St} {H : Hp} {s : Shared} (I : Inv X (pins ++ pl) σ H s) : Inv X pins σ H s := I.pins_of fun p hp => I.pin p (List.mem_append_right _ (List.mem_append_left _ hp))
theorem ps_for {iter : Expr} {body : List Stmt} {wi : TI} {g : TG} {tb : TS} {pos : Pos} (hp : PassesOwn (model X.prog X.w) X.A X.env X.xe) (hc : X.calm = true) (hi : PI X tg iter wi) (hg : PG X tg g) (hb : PSs X body tb)
    (hs : ∀ x, foldedSetIterable iter X.env x = pure x := by intro _; rfl) : PS X (.For tg iter body [] pos) (tFor wi g tb) := by
  intro pins s σ H D I h
  refine wpAny_For (thn (hi pins s σ H _ I h) fun v s1 h1 => thn h1 fun itv s2 h2 => ?_) hs
  obtain ⟨it, fp, tn, J, H2, e, I2, T, st2, f2, W, ⟨m0, w0⟩, turn⟩ := h2
  subst e
  have stat : ∀ {H' : Hp}, (∀ b ∈ fp, H' b = none) → ∀ b ∈ fp, FpOk X pins H' b := fun hn b hb => ⟨hn b hb, (f2 b hb).2⟩
  refine codeAny_forLoop_any (fun n s' => ∃ i σ' H', Inv X pins σ' H' s' ∧ tn i s'.heap ∧ (∀ b ∈ fp, H' b = none) ∧ W i n σ' H') ?_ m0 ⟨0, σ, H2, I2, st2, fun b hb => (f2 b hb).1, w0⟩
  rintro n s3 ⟨i, σ3, H3, I3, st3, fr3, w3⟩
  rcases turn i n σ3 H3 w3 with ⟨stop, qn⟩ | ⟨go, N, hN, step⟩
  · refine wpAny_passesOwn hp (thn (T.done X rfl rfl rfl hc i pins s3 σ3 H3 X.xe I3 (stat fr3) st3 stop) fun r s4 ⟨hr, I4⟩ => ?_)
    subst hr
    exact wpAny_execs_nil ⟨σ3, H3, I4, qn⟩
  · refine wpAny_passesOwn hp (thn (T.item X rfl rfl rfl hc i pins s3 σ3 H3 X.xe I3 (stat fr3) st3 go) fun r s4 ⟨u, hr, h4⟩ => ?_)
    subst hr
    refine wpAny_passesOwn hp (thn h4 fun _ s5 ⟨x, H5, I5, r5, y5, st5, fr5⟩ => ?_)
    have I5' := I5.pinned (stat fr5) (T.obj _ _ st5)
    refine wpAny_passesOwn hp (thn (hg _ s5 σ3 H5 x u _ I5' r5 (step x H5 y5)) fun _ s6 ⟨σ6, H6, I6, q6⟩ => ?_)
    refine wpAny_passesOwn hp (thn (hb _ s6 σ6 H6 _ I6 q6) fun f s7 q7 => ?_)
    have again : ∀ {σ7 : St} {H7 : Hp}, Inv X (pins ++ pinsAt fp s5.heap) σ7 H7 s7 → N σ7 H7 → ∃ m, m < n ∧ ∃ i σ' H', Inv X pins σ' H' s7 ∧ tn i s7.heap ∧ (∀ b ∈ fp, H' b = none) ∧ W i m σ' H' := fun {σ7 H7} I7 n7 => by
      obtain ⟨m', hm, w7⟩ := hN σ7 H7 n7
      refine ⟨m', hm, i + 1, σ7, H7, I7.unpinned, T.keep _ _ _ st5 fun b hb o e => (I7.pin (b, o) (List.mem_append_right _ (List.mem_append_right _ (mem_pinsAt hb e)))).1, fun b hb => ?_, w7⟩
      obtain ⟨o, e, d⟩ := T.obj _ _ st5 b hb
      exact (I7.pin (b, o) (List.mem_append_right _ (List.mem_append_right _ (mem_pinsAt hb e)))).2.1
    cases f with
    | next => obtain ⟨σ7, H7, I7, n7⟩ := q7; exact again I7 n7
    | cont => obtain ⟨σ7, H7, I7, n7⟩ := q7; exact again I7 n7
    | brk => obtain ⟨σ7, H7, I7, q7⟩ := q7; exact ⟨σ7, H7, I7.unpinned, q7⟩
    | ret v => obtain ⟨x7, σ7, H7, I7, r7, q7⟩ := q7; exact ⟨x7, σ7, H7, I7.unpinned, r7, q7⟩
end
theorem for_list {K : PySem.W.Frag} {a : Addr} {xs : List V} {g : TG} {tb : TS} {D : Ends} {σ : St} {H : Hp} (Pv : Nat → St → Hp → Prop) (h0 : Pv 0 σ H) (hl : ∀ i σ H, i ≤ xs.length → Pv i σ H → SqL K H a xs)
    (hs : ∀ i x σ H, xs[i]? = some x → Pv i σ H → g x σ H fun σ2 H2 => tb { D with nx := Pv (i + 1), ct := Pv (i + 1), bk := D.nx } σ2 H2) (hd : ∀ σ H, Pv xs.length σ H → D.nx σ H) :
    ∃ W : Nat → Nat → St → Hp → Prop, (∃ m, W 0 m σ H) ∧ ∀ i m σ H, W i m σ H →
      ((Itl K a).stop i H ∧ D.nx σ H) ∨ ((Itl K a).go i H ∧ ∃ N : St → Hp → Prop, (∀ σ' H', N σ' H' → ∃ m', m' < m ∧ W (i + 1) m' σ' H') ∧ ∀ x H', (Itl K a).yld i H x H' → g x σ H' fun σ2 H2 => tb { D with nx := N, ct := N, bk := D.nx } σ2 H2) := by
  refine ⟨fun i m σ H => m = xs.length - i ∧ i ≤ xs.length ∧ Pv i σ H, ⟨xs.length, by simp, Nat.zero_le _, h0⟩, ?_⟩
  rintro i m σ H ⟨rfl, hi, p⟩
  have q := hl i σ H hi p
  by_cases hlt : i < xs.length
  · refine .inr ⟨⟨xs, xs[i], q, by simp [hlt]⟩, Pv (i + 1), fun σ' H' p' => ⟨xs.length - (i + 1), by omega, rfl, hlt, p'⟩, fun x H' y => ?_⟩
    obtain ⟨e, y⟩ := y
    subst e
    exact hs i x σ _ (y xs q) p
  · have e : i = xs.length := by omega
    subst e
    exact .inl ⟨⟨xs, q, Nat.le_refl _⟩, hd σ H p⟩
theorem for_tup {K : PySem.W.Frag} {a : Addr} {xs : List V} {g : TG} {tb : TS} {D : Ends} {σ : St} {H : Hp} (Pv : Nat → St → Hp → Prop) (h0 : Pv 0 σ H) (hl : ∀ i σ H, i ≤ xs.length → Pv i σ H → SqT K H a xs)
    (hs : ∀ i x σ H, xs[i]? = some x → Pv i σ H → g x σ H fun σ2 H2 => tb { D with nx := Pv (i + 1), ct := Pv (i + 1), bk := D.nx } σ2 H2) (hd : ∀ σ H, Pv xs.length σ H → D.nx σ H) :
    ∃ W : Nat → Nat → St → Hp → Prop, (∃ m, W 0 m σ H) ∧ ∀ i m σ H, W i m σ H →
      ((Itt K a).stop i H ∧ D.nx σ H) ∨ ((Itt K a).go i H ∧ ∃ N : St → Hp → Prop, (∀ σ' H', N σ' H' → ∃ m', m' < m ∧ W (i + 1) m' σ' H') ∧ ∀ x H', (Itt K a).yld i H x H' → g x σ H' fun σ2 H2 => tb { D with nx := N, ct := N, bk := D.nx } σ2 H2) := by
  refine ⟨fun i m σ H => m = xs.length - i ∧ i ≤ xs.length ∧ Pv i σ H, ⟨xs.length, by simp, Nat.zero_le _, h0⟩, ?_⟩
  rintro i m σ H ⟨rfl, hi, p⟩
  have q := hl i σ H hi p
  by_cases hlt : i < xs.length
  · refine .inr ⟨⟨xs, xs[i], q, by simp [hlt]⟩, Pv (i + 1), fun σ' H' p' => ⟨xs.length - (i + 1), by omega, rfl, hlt, p'⟩, fun x H' y => ?_⟩
    obtain ⟨e, y⟩ := y
    subst e
    exact hs i x σ _ (y xs q) p
  · have e : i = xs.length := by omega
    subst e
    exact .inl ⟨⟨xs, q, Nat.le_refl _⟩, hd σ H p⟩
theorem for_range {lo : Int} {n : Nat} {g : TG} {tb : TS} {D : Ends} {σ : St} {H : Hp} (Pv : Nat → St → Hp → Prop) (h0 : Pv 0 σ H)
    (hs : ∀ i σ H, i < n → Pv i σ H → g (.int (lo + i)) σ H fun σ2 H2 => tb { D with nx := Pv (i + 1), ct := Pv (i + 1), bk := D.nx } σ2 H2) (hd : ∀ σ H, Pv n σ H → D.nx σ H) :
    ∃ W : Nat → Nat → St → Hp → Prop, (∃ m, W 0 m σ H) ∧ ∀ i m σ H, W i m σ H →
      ((Itr lo n).stop i H ∧ D.nx σ H) ∨ ((Itr lo n).go i H ∧ ∃ N : St → Hp → Prop, (∀ σ' H', N σ' H' → ∃ m', m' < m ∧ W (i + 1) m' σ' H') ∧ ∀ x H', (Itr lo n).yld i H x H' → g x σ H' fun σ2 H2 => tb { D with nx := N, ct := N, bk := D.nx } σ2 H2) := by
  refine ⟨fun i m σ H => m = n - i ∧ i ≤ n ∧ Pv i σ H, ⟨n, by simp, Nat.zero_le _, h0⟩, ?_⟩
  rintro i m σ H ⟨rfl, hi, p⟩
  by_cases hlt : i < n
  · refine .inr ⟨hlt, Pv (i + 1), fun σ' H' p' => ⟨n - (i + 1), by omega, rfl, hlt, p'⟩, fun x H' y => ?_⟩
    obtain ⟨e, y⟩ := y
    subst e y
    exact hs i σ _ hlt p
  · have e : i = n := by omega
    subst e
    exact .inl ⟨Nat.le_refl _, hd σ H p⟩
end L2
namespace L2
open PySem PySem.Spec PyProof.Rows
noncomputable abbrev R2 := V → V → Hp → VK → Prop
noncomputable def OpR (X : Cx) (f : Value → Value → Sem Value) (r : R2) : Prop :=
  ∀ (pins : List (Addr × Obj)) (s : Shared) (σ : St) (H : Hp) (x y : V) (v u : Value) (Q : VK), Inv X pins σ H s → RelV x v → RelV y u → r x y H Q →
    wpAny (model X.prog X.w) X.A (f v u) (EP X pins σ Q) X.xe s
noncomputable def CallR (X : Cx) (f : Value) (r : List V → Hp → VK → Prop) : Prop :=
  ∀ (pins : List (Addr × Obj)) (s : Shared) (σ : St) (H : Hp) (xs : List V) (us : List Value) (Q : VK), Inv X pins σ H s → Vals xs us → r xs H Q →
    wpAny (model X.prog X.w) X.A (call f us) (EP X pins σ Q) X.xe s
noncomputable def tOp (r : R2) (ta tb : TE) : TE := fun σ H Q => ta σ H fun x H1 => tb σ H1 fun y H2 => r x y H2 Q
noncomputable def rI (C : Int → Int → Prop) (g : Int → Int → V) : R2 := fun x y H Q => ∃ i j, x = .int i ∧ y = .int j ∧ C i j ∧ Q (g i j) H
noncomputable def rI0 (g : Int → Int → V) : R2 := fun x y H Q => ∃ i j, x = .int i ∧ y = .int j ∧ Q (g i j) H
section
variable {X : Cx} {a b c : Expr} {ta tb tc : TE} {pos : Pos}
theorem binT (ha : PE X a ta) (hb : PE X b tb) {pins : List (Addr × Obj)} {s : Shared} {σ : St} {H : Hp} {R : V → V → Hp → Prop} (I : Inv X pins σ H s)
    (h : ta σ H fun x H1 => tb σ H1 fun y H2 => R x y H2) {Q : Value → Shared → Prop} {f : Value → Value → Sem Value}
    (hf : ∀ v u s2 x y H2, Inv X pins σ H2 s2 → RelV x v → RelV y u → R x y H2 → wpAny (model X.prog X.w) X.A (f v u) Q X.xe s2) :
    wpAny (model X.prog X.w) X.A (eval a X.env) (fun v s₁ => wpAny (model X.prog X.w) X.A (eval b X.env) (fun u s₂ => wpAny (model X.prog X.w) X.A (f v u) Q X.xe s₂) X.xe s₁) X.xe s := by
  refine thn (ha pins s σ H _ I h) fun v s1 ⟨x, H1, I1, r1, q1⟩ => ?_
  refine thn (hb pins s1 σ H1 _ I1 q1) fun u s2 ⟨y, H2, I2, r2, q2⟩ => ?_
  exact hf v u s2 x y H2 I2 r1 r2 q2
theorem pe_op {op : Operator} {r : R2} (ho : OpR X (binaryOp op) r) (ha : PE X a ta) (hb : PE X b tb) : PE X (.BinOp a op b pos) (tOp r ta tb) := by
  intro pins s σ H Q I h
  exact wpAny_BinOp (binT ha hb I h fun v u s2 x y H2 I2 rx ry q => ho pins s2 σ H2 x y v u Q I2 rx ry q)
theorem opI {f : Value → Value → Sem Value} {C : Int → Int → Prop} {g : Int → Int → Int}
    (rule : ∀ (i j : Int) (t u : Tok) (s : Shared) (Q : Value → Shared → Prop) (E : Value → Shared → Prop), C i j → Q (.int (g i j) s.toks) { s with toks := s.toks + 1 } → wpAny (model X.prog X.w) X.A (f (.int i t) (.int j u)) Q E s) :
    OpR X f (rI C fun i j => .int (g i j)) := by
  intro pins s σ H x y v u Q I rx ry h
  obtain ⟨i, j, rfl, rfl, hc, q⟩ := h
  obtain ⟨t, rfl⟩ := rx
  obtain ⟨t', rfl⟩ := ry
  exact rule i j t t' s _ _ hc ⟨.int (g i j), H, I.tok _, ⟨_, rfl⟩, q⟩
theorem opI0 {f : Value → Value → Sem Value} {g : Int → Int → Int}
    (rule : ∀ (i j : Int) (t u : Tok) (s : Shared) (Q : Value → Shared → Prop) (E : Value → Shared → Prop), Q (.int (g i j) s.toks) { s with toks := s.toks + 1 } → wpAny (model X.prog X.w) X.A (f (.int i t) (.int j u)) Q E s) :
    OpR X f (rI0 fun i j => .int (g i j)) := by
  intro pins s σ H x y v u Q I rx ry h
  obtain ⟨i, j, rfl, rfl, q⟩ := h
  obtain ⟨t, rfl⟩ := rx
  obtain ⟨t', rfl⟩ := ry
  exact rule i j t t' s _ _ ⟨.int (g i j), H, I.tok _, ⟨_, rfl⟩, q⟩
theorem opB0 {f : Value → Value → Sem Value} {g : Int → Int → Bool}
    (rule : ∀ (i j : Int) (t u : Tok) (s : Shared) (Q : Value → Shared → Prop) (E : Value → Shared → Prop), Q (.bool (g i j)) s → wpAny (model X.prog X.w) X.A (f (.int i t) (.int j u)) Q E s) :
    OpR X f (rI0 fun i j => .bl (g i j)) := by
  intro pins s σ H x y v u Q I rx ry h
  obtain ⟨i, j, rfl, rfl, q⟩ := h
  obtain ⟨t, rfl⟩ := rx
  obtain ⟨t', rfl⟩ := ry
  exact rule i j t t' s _ _ ⟨.bl (g i j), H, I, rfl, q⟩
noncomputable def CDiv (i j : Int) : Prop := 0 < j ∧ j < 1073741824
noncomputable def CMul (i j : Int) : Prop := (-(2 ^ 64) < i ∧ i < 2 ^ 64) ∨ (-(2 ^ 64) < j ∧ j < 2 ^ 64)
theorem CMul.ok {i j : Int} (h : CMul i j) : IntMulOk i j := by
  rcases h with ⟨h1, h2⟩ | ⟨h1, h2⟩
  · exact .of_left (intBits_le_64 h1 h2)
  · exact .of_right (intBits_le_64 h1 h2)
theorem op_add : OpR X (binaryOp .Add) (rI0 fun i j => .int (i + j)) := opI0 fun _ _ _ _ _ _ _ q => add_int q
theorem op_sub : OpR X (binaryOp .Sub) (rI0 fun i j => .int (i - j)) := opI0 fun _ _ _ _ _ _ _ q => sub_int q
theorem op_mul : OpR X (binaryOp .Mult) (rI CMul fun i j => .int (i * j)) := opI fun _ _ _ _ _ _ _ hc q => mul_int q hc.ok
theorem op_fdiv : OpR X (binaryOp .FloorDiv) (rI CDiv fun i j => .int (i / j)) := opI fun i j _ _ _ _ _ hc q => by
  have h1 : (0 : Int) < j := hc.1
  have h2 : j < 1073741824 := hc.2
  exact floordiv_int (by omega) (by rw [Int.fdiv_eq_ediv_of_nonneg i (by omega)]; exact q) (.inl (PyProof.noPylong_small (by omega)))
theorem op_mod : OpR X (binaryOp .Mod) (rI (fun _ j => 0 < j) fun i j => .int (i % j)) := opI fun i j _ _ _ _ _ hc q => by
  have h1 : (0 : Int) < j := hc
  exact mod_int' (by omega) (by rw [Int.fmod_eq_emod_of_nonneg i (by omega)]; exact q)
end
noncomputable def scal : V → V → Bool
  | .non, .non => true | .non, .int _ => true | .int _, .non => true | .non, .bl _ => true | .bl _, .non => true | .non, .str _ => true | .str _, .non => true
  | .int _, .int _ => true | .bl _, .bl _ => true | .str _, .str _ => true | .byt _, .byt _ => true
  | .int _, .str _ => true | .str _, .int _ => true | .bl _, .str _ => true | .str _, .bl _ => true
  | _, _ => false
noncomputable def rEq : R2 := fun x y H Q => scal x y = true ∧ Q (.bl (decide (x = y))) H
noncomputable def rNe : R2 := fun x y H Q => scal x y = true ∧ Q (.bl (!decide (x = y))) H
theorem dec_int {i j : Int} : decide (V.int i = V.int j) = (i == j) := by
  rw [Bool.eq_iff_iff]
  simp
theorem dec_bl {i j : Bool} : decide (V.bl i = V.bl j) = (i == j) := by
  rw [Bool.eq_iff_iff]
  simp
theorem dec_str {i j : Str} : decide (V.str i = V.str j) = (i == j) := by
  rw [Bool.eq_iff_iff]
  simp
theorem dec_byt {i j : Array UInt8} : decide (V.byt i = V.byt j) = (i.toList == j.toList) := by
  rw [Bool.eq_iff_iff]
  cases i
  cases j
  simp
section
variable {X : Cx} {a b c : Expr} {ta tb tc : TE} {pos : Pos}
theorem fin_bl {pins : List (Addr × Obj)} {σ : St} {H : Hp} {s : Shared} {Q : VK} {k k' : Bool} (I : Inv X pins σ H s) (q : Q (.bl k) H) (e : k = k') : EP X pins σ Q (.bool k') s := by
  subst e
  exact ⟨.bl k, H, I, rfl, q⟩
theorem op_eq : OpR X (compareOp .Eq) rEq := by
  intro pins s σ H x y v u Q I rx ry h
  obtain ⟨hs, q⟩ := h
  cases x with
  | non =>
    cases rx
    cases y with
    | non => cases ry; exact PySem.EqNone.eq_none_none (fin_bl I q (by simp))
    | bl j => cases ry; exact PySem.EqNone.eq_none_bool (fin_bl I q (by simp))
    | int j => obtain ⟨t', rfl⟩ := ry; exact PySem.EqNone.eq_none_int (fin_bl I q (by simp))
    | str j => obtain ⟨t', rfl⟩ := ry; exact PySem.EqNone.eq_none_str (fin_bl I q (by simp))
    | _ => exact absurd (show false = true from hs) Bool.false_ne_true
  | bl i =>
    cases rx
    cases y with
    | non => cases ry; exact PySem.EqNone.eq_bool_none (fin_bl I q (by simp))
    | bl j => cases ry; exact eq_bool (fin_bl I q dec_bl)
    | str j => obtain ⟨t', rfl⟩ := ry; exact PySem.EqMixed.eq_bool_str (fin_bl I q (by simp))
    | _ => exact absurd (show false = true from hs) Bool.false_ne_true
  | int i =>
    obtain ⟨t, rfl⟩ := rx
    cases y with
    | non => cases ry; exact PySem.EqNone.eq_int_none (fin_bl I q (by simp))
    | int j => obtain ⟨t', rfl⟩ := ry; exact eq_int (fin_bl I q dec_int)
    | str j => obtain ⟨t', rfl⟩ := ry; exact PySem.EqMixed.eq_int_str (fin_bl I q (by simp))
    | _ => exact absurd (show false = true from hs) Bool.false_ne_true
  | str i =>
    obtain ⟨t, rfl⟩ := rx
    cases y with
    | non => cases ry; exact PySem.EqNone.eq_str_none (fin_bl I q (by simp))
    | bl j => cases ry; exact PySem.EqMixed.eq_str_bool (fin_bl I q (by simp))
    | int j => obtain ⟨t', rfl⟩ := ry; exact PySem.EqMixed.eq_str_int (fin_bl I q (by simp))
    | str j => obtain ⟨t', rfl⟩ := ry; exact eq_str (fin_bl I q dec_str)
    | _ => exact absurd (show false = true from hs) Bool.false_ne_true
  | byt i =>
    obtain ⟨t, rfl⟩ := rx
    cases y with
    | byt j => obtain ⟨t', rfl⟩ := ry; exact PySem.W.eq_bytes (fin_bl I q dec_byt)
    | _ => exact absurd (show false = true from hs) Bool.false_ne_true
  | _ => cases y <;> exact absurd (show false = true from hs) Bool.false_ne_true
theorem op_ne : OpR X (compareOp .NotEq) rNe := by
  intro pins s σ H x y v u Q I rx ry h
  obtain ⟨hs, q⟩ := h
  cases x with
  | non =>
    cases rx
    cases y with
    | non => cases ry; exact PySem.EqNone.ne_none_none (fin_bl I q (by simp))
    | bl j => cases ry; exact PySem.EqNone.ne_none_bool (fin_bl I q (by simp))
    | int j => obtain ⟨t', rfl⟩ := ry; exact PySem.EqNone.ne_none_int (fin_bl I q (by simp))
    | str j => obtain ⟨t', rfl⟩ := ry; exact PySem.EqNone.ne_none_str (fin_bl I q (by simp))
    | _ => exact absurd (show false = true from hs) Bool.false_ne_true
  | bl i =>
    cases rx
    cases y with
    | non => cases ry; exact PySem.EqNone.ne_bool_none (fin_bl I q (by simp))
    | bl j => cases ry; exact ne_bool (fin_bl I q (congrArg not dec_bl))
    | str j => obtain ⟨t', rfl⟩ := ry; exact PySem.EqMixed.ne_bool_str (fin_bl I q (by simp))
    | _ => exact absurd (show false = true from hs) Bool.false_ne_true
  | int i =>
    obtain ⟨t, rfl⟩ := rx
    cases y with
    | non => cases ry; exact PySem.EqNone.ne_int_none (fin_bl I q (by simp))
    | int j => obtain ⟨t', rfl⟩ := ry; exact ne_int (fin_bl I q (congrArg not dec_int))
    | str j => obtain ⟨t', rfl⟩ := ry; exact PySem.EqMixed.ne_int_str (fin_bl I q (by simp))
    | _ => exact absurd (show false = true from hs) Bool.false_ne_true
  | str i =>
    obtain ⟨t, rfl⟩ := rx
    cases y with
    | non => cases ry; exact PySem.EqNone.ne_str_none (fin_bl I q (by simp))
    | bl j => cases ry; exact PySem.EqMixed.ne_str_bool (fin_bl I q (by simp))
    | int j => obtain ⟨t', rfl⟩ := ry; exact PySem.EqMixed.ne_str_int (fin_bl I q (by simp))
    | str j => obtain ⟨t', rfl⟩ := ry; exact ne_str (fin_bl I q (congrArg not dec_str))
    | _ => exact absurd (show false = true from hs) Bool.false_ne_true
  | byt i =>
    obtain ⟨t, rfl⟩ := rx
    cases y with
    | byt j => obtain ⟨t', rfl⟩ := ry; exact PySem.W.ne_bytes (fin_bl I q (congrArg not dec_byt))
    | _ => exact absurd (show false = true from hs) Bool.false_ne_true
  | _ => cases y <;> exact absurd (show false = true from hs) Bool.false_ne_true
theorem op_lt : OpR X (compareOp .Lt) (rI0 fun i j => .bl (decide (i < j))) := opB0 fun _ _ _ _ _ _ _ q => lt_int q
theorem op_le : OpR X (compareOp .LtE) (rI0 fun i j => .bl (decide (i ≤ j))) := opB0 fun _ _ _ _ _ _ _ q => le_int q
theorem op_ge : OpR X (compareOp .GtE) (rI0 fun i j => .bl (decide (j ≤ i))) := opB0 fun _ _ _ _ _ _ _ q => ge_int q
theorem op_in_str : OpR X (compareOp .In) (fun x y H Q => ∃ i j, x = .str i ∧ y = .str j ∧ Q (.bl (!(Builtin.Str.occurrences j i 0 j.length 1).isEmpty)) H) := by
  intro pins s σ H x y v u Q I rx ry h
  obtain ⟨i, j, rfl, rfl, q⟩ := h
  obtain ⟨t, rfl⟩ := rx
  obtain ⟨t', rfl⟩ := ry
  exact in_str (fin_bl I q rfl)
theorem nomark (b : Expr) {op : CmpOp} (h : op ≠ .In := by decide) (h2 : op ≠ .NotIn := by decide) : behindInMarks op b = false := by
  have e1 : (op == CmpOp.In) = false := by cases op <;> first | rfl | exact absurd rfl h
  have e2 : (op == CmpOp.NotIn) = false := by cases op <;> first | rfl | exact absurd rfl h2
  cases b <;> simp [behindInMarks, e1, e2]
theorem pe_cmpR {op : CmpOp} {r : R2} (ho : OpR X (compareOp op) r) (ha : PE X a ta) (hb : PE X b tb) (hm : behindInMarks op b = false) : PE X (.Compare a [op] [b] pos) (tOp r ta tb) := by
  intro pins s σ H Q I h
  exact wpAny_Compare1 (binT ha hb I h fun v u s2 x y H2 I2 rx ry q => ho pins s2 σ H2 x y v u Q I2 rx ry q) hm
noncomputable def tTest (t : TE) : TT := fun σ H Q => t σ H fun x H' => ∃ k, x = .bl k ∧ Q k H'
theorem pt_cmpR {op : CmpOp} {r : R2} (ho : OpR X (compareOp op) r) (ha : PE X a ta) (hb : PE X b tb) (hm : behindInMarks op b = false) : PT X (.Compare a [op] [b] pos) (tTest (tOp r ta tb)) := by
  intro pins s σ H Q I h
  refine wpAny_isTrue_Compare1 (thn (ha pins s σ H _ I h) fun v s1 ⟨x, H1, I1, r1, q1⟩ => thn (hb pins s1 σ H1 _ I1 q1) fun u s2 ⟨y, H2, I2, r2, q2⟩ =>
    thn (ho pins s2 σ H2 x y v u _ I2 r1 r2 q2) fun c s3 ⟨z, H3, I3, r3, k, e, q3⟩ => ?_) hm
  subst e
  cases r3
  exact wpAny_truthy_bool ⟨H3, I3, q3⟩
noncomputable def tChain (r r' : R2) (ta tb tc : TE) : TE := fun σ H Q => ta σ H fun x H1 => tb σ H1 fun y H2 => r x y H2 fun z H3 => ∃ k, z = .bl k ∧
  (if k = true then tc σ H3 fun w' H4 => r' y w' H4 Q else Q (.bl false) H3)
theorem pe_chain {op op' : CmpOp} {r r' : R2} (ho : OpR X (compareOp op) r) (ho' : OpR X (compareOp op') r') (ha : PE X a ta) (hb : PE X b tb) (hc : PE X c tc)
    (hm : lastMarks [op, op'] [b, c] = false := by with_unfolding_all rfl) : PE X (.Compare a [op, op'] [b, c] pos) (tChain r r' ta tb tc) := by
  intro pins s σ H Q I h
  refine Compare_chain (thn (ha pins s σ H _ I h) fun v s1 ⟨x, H1, I1, r1, q1⟩ => chain_link (thn (hb pins s1 σ H1 _ I1 q1) fun u s2 ⟨y, H2, I2, r2, q2⟩ =>
    thn (ho pins s2 σ H2 x y v u _ I2 r1 r2 q2) fun d s3 ⟨z, H3, I3, r3, k, e, q3⟩ => ?_)) hm
  subst e
  cases r3
  refine wpAny_truthy_bool ?_
  cases k with
  | false => exact ite_ff ⟨.bl false, H3, I3, rfl, q3⟩
  | true => exact ite_tt (chain_last (thn (hc pins s3 σ H3 _ I3 q3) fun w' s4 ⟨z', H4, I4, r4, q4⟩ => ho' pins s4 σ H4 y z' u w' Q I4 r2 r4 q4))
theorem line63 : (sizeLine : Nat) < 2 ^ 63 := by rw [sizeLine_eq]; decide
theorem op_add_str : OpR X (binaryOp .Add) (fun x y H Q => ∃ i j, x = .str i ∧ y = .str j ∧ i.length + j.length ≤ sizeLine ∧ Q (.str (i ++ j)) H) := by
  intro pins s σ H x y v u Q I rx ry h
  obtain ⟨i, j, rfl, rfl, hz, q⟩ := h
  obtain ⟨t, rfl⟩ := rx
  obtain ⟨t', rfl⟩ := ry
  exact add_str (fun t' tk => ⟨.str (i ++ j), H, I.tok _, ⟨_, rfl⟩, q⟩) hz
theorem vals1 {x : V} {us : List Value} (r : Vals [x] us) : ∃ u, us = [u] ∧ RelV x u := by
  cases r with
  | cons r1 r2 => cases r2; exact ⟨_, rfl, r1⟩
theorem vals2 {x y : V} {us : List Value} (r : Vals [x, y] us) : ∃ u w', us = [u, w'] ∧ RelV x u ∧ RelV y w' := by
  cases r with
  | cons r1 r2 =>
    cases r2 with
    | cons r3 r4 => cases r4; exact ⟨_, _, rfl, r1, r3⟩
theorem call_min2 (hc : X.calm = true) : CallR X (.builtin "min") (fun xs H Q => ∃ i j, xs = [.int i, .int j] ∧ Q (.int (if j < i then j else i)) H) := by
  intro pins s σ H xs us Q I r h
  obtain ⟨i, j, rfl, q⟩ := h
  obtain ⟨u, w', rfl, ⟨t, rfl⟩, ⟨t', rfl⟩⟩ := vals2 r
  refine min_two_ints (I.ok.hd hc) fun h' tk k => ⟨_, H, I.kept k, ?_, q⟩
  by_cases hj : j < i
  · rw [if_pos hj, if_pos hj]; exact ⟨_, rfl⟩
  · rw [if_neg hj, if_neg hj]; exact ⟨_, rfl⟩
theorem call_int1 : CallR X (.type "int") (fun xs H Q => (∃ i, xs = [.int i] ∧ Q (.int i) H) ∨ ∃ k, xs = [.bl k] ∧ Q (.int (if k then 1 else 0)) H) := by
  intro pins s σ H xs us Q I r h
  rcases h with ⟨i, rfl, q⟩ | ⟨k, rfl, q⟩
  · obtain ⟨u, rfl, t, rfl⟩ := vals1 r
    exact call_int_int ⟨.int i, H, I, ⟨_, rfl⟩, q⟩
  · obtain ⟨u, rfl, r1⟩ := vals1 r
    cases r1
    exact call_int_bool ⟨.int (if k then 1 else 0), H, I.tok _, ⟨_, rfl⟩, q⟩
end
end L2
namespace L2
open PySem PySem.Spec PyProof.Rows
structure ObjM (h : Heap) (x dx C : Addr) (mA : Str → Option Value) : Prop where
  obj : h.get? x = some (PySem.W.instObj C dx)
  ns : h.Ns1 dx mA
  ne : dx ≠ x
theorem lookIn_ns {h : Heap} {dx : Addr} {mA : Str → Option Value} (n : h.Ns1 dx mA) : ∃ od, h.get? dx = some od ∧ ∀ name, PySem.W.lookIn name od = some (mA name) := by
  obtain ⟨o, es, ep, ho, hd, hk, _, hm⟩ := n
  refine ⟨o, ho, fun name => ?_⟩
  have e := hm name
  unfold nsFind findBy at e
  rw [← Array.find?_toList] at e
  unfold PySem.W.lookIn
  rw [hd]
  dsimp only
  split
  · rename_i y q
    rw [q] at e
    exact congrArg some e
  · rename_i q
    rw [q] at e
    have a : es.toList.any (·.refKey) = false := by
      rw [List.any_eq_false]
      intro y hy
      obtain ⟨z, t, hkey⟩ := hk y (Array.mem_toList_iff.mp hy)
      simp [DictEntry.refKey, hkey]
    have a' : ¬ es.toList.any (·.refKey) = true := by rw [a]; exact Bool.false_ne_true
    rw [if_neg a']
    exact congrArg some e
theorem ObjM.look {h : Heap} {x dx C : Addr} {mA : Str → Option Value} (I : ObjM h x dx C mA) : ∃ od, PySem.W.InstAt h x (PySem.W.instObj C dx) C (some od) ∧ ∀ name, PySem.W.lookIn name od = some (mA name) :=
  let ⟨od, ho, hl⟩ := lookIn_ns I.ns
  ⟨od, ⟨I.obj, rfl, rfl, ho⟩, hl⟩
section
variable {prog : Program} {w : World} {A : Around} {E : Value → Shared → Prop} {s : Shared} {K : PySem.W.Frag} {x dx C f : Addr} {mA : Str → Option Value} {name : Str} {v : Value}
end
theorem RelO.some_of {v : V} {o : Option Value} (r : RelO (some v) o) : ∃ u, o = some u ∧ RelV v u := by
  cases o with
  | none => exact (show False from r).elim
  | some u => exact ⟨u, rfl, r⟩
section
variable {P : Program} {w : World} {H H' : Hp} {h h' : Heap} {a C dx : Addr} {fs fs' : List (Str × V)}
theorem ins_get (hok : HOk P w H h) (e : H a = some (.ins C dx fs)) : ∃ mA, ObjM h a dx C mA ∧ (∀ f, RelO (fs.lookup f) (mA f)) ∧ PySem.Within mA (fs.map (·.1)) ∧ fs.length ≤ 1000 ∧ H dx = some (.own a) := by
  obtain ⟨d, z, ne, ob, mA, n, r, q⟩ := (show ObjOk P w H h a (.ins C dx fs) from hok a _ e)
  exact ⟨mA, ⟨ob, n, ne⟩, r, q, z, d⟩
end
structure Cls (K : PySem.W.Frag) (C : Addr) : Prop where
  pg : PySem.W.plainGet K C Str.empty = true
  hd : PySem.W.hasDictIn K C = true
  po : PySem.W.plainOver K C = true
  sa : PySem.W.findIn K (.ref C) "__setattr__" = some (some (.builtin "object.__setattr__"))
theorem Cls.get {K : PySem.W.Frag} {C : Addr} (c : Cls K C) (f : Str) : PySem.W.plainGet K C f = true := c.pg
structure Con (K : PySem.W.Frag) (C : Addr) (f : Str) (v : V) (u : Value) : Prop where
  at_ : PySem.W.findIn K (.ref C) f = some (some u)
  rel : RelV v u
  get : PySem.W.specialIn K u "__get__" = some none
  cp : PySem.W.copiedNames.contains f = false
structure Meth (K : PySem.W.Frag) (C : Addr) (m : Str) (f : Addr) : Prop where
  at_ : PySem.W.findIn K (.ref C) m = some (some (.ref f))
  fn : PySem.W.isFn K (.ref f) = true
  kp : PySem.W.keepIn K (.ref f) = true
section
variable {X : Cx} {pins : List (Addr × Obj)} {σ : St} {H : Hp} {s : Shared} {a C dx : Addr} {fs : List (Str × V)} {f : Str} {v : V} {A : Around} {E : Value → Shared → Prop}
end
section
variable {X : Cx} {o e value : Expr} {f : Str} {pos pos' tpos : Pos} {ta tv : TE}
end
section
variable {X : Cx} {pins : List (Addr × Obj)} {σ : St} {H : Hp} {s : Shared} {A : Around} {E : Value → Shared → Prop} {Q : Value → Shared → Prop} {c : Value} {b : Bool}
inductive TyOf (K : PySem.W.Frag) (H : Hp) : V → Value → Prop where
  | non : TyOf K H .non (.type "NoneType")
  | bl (x : Bool) : TyOf K H (.bl x) (.type "bool")
  | int (i : Int) : TyOf K H (.int i) (.type "int")
  | str (x : Str) : TyOf K H (.str x) (.type "str")
  | flt (x : UInt64) : TyOf K H (.flt x) (.type "float")
  | lst {a : Addr} {xs : List V} (e : H a = some (.lst xs)) : TyOf K H (.ref a) (.type "list")
  | frz {a : Addr} {o : Obj} {xs : List V} (e : H a = some (.frz o (.lst xs))) : TyOf K H (.ref a) (.type "list")
  | tup {a : Addr} {xs : List V} (e : H a = some (.tup xs)) : TyOf K H (.ref a) (.type "tuple")
  | dK {a : Addr} {kvs : List (Key × V)} (e : H a = some (.dK kvs)) : TyOf K H (.ref a) (.type "dict")
  | dT {a : Addr} {kvs : List (List Key × V)} (e : H a = some (.dT kvs)) : TyOf K H (.ref a) (.type "dict")
  | ins {a C dx : Addr} {fs : List (Str × V)} (e : H a = some (.ins C dx fs)) (cl : Cls K C) (ha : PySem.W.findIn K (.ref C) "__class__" = some (some (.builtin "object.__class__")))
      (hn : PySem.W.specialIn K (.builtin "object.__class__") "__get__" = some (some (.builtin "getset_descriptor.__get__"))) (htk : PySem.W.takesIn K (.builtin "object.__class__") = some true)
      (hm : PySem.W.mroIn K C (.type "object") = some true) : TyOf K H (.ref a) (.ref C)
theorem isinst_ok {x : V} {u t : Value} (I : Inv X pins σ H s) (rx : RelV x u) (ty : TyOf X.K H x t) (e : PySem.W.kitOne X.K t c = some b) (h : ∀ tk, Q (.bool b) { s with toks := tk }) :
    wpAny (model X.prog X.w) A (call (.builtin "isinstance") [u, c]) Q E s := by
  cases ty with
  | non => cases (show u = Value.none from rx); exact PySem.W.kia_one PySem.W.kitx_none I.kIn True.intro e (fun z => nomatch z) h
  | bl y => cases (show u = Value.bool y from rx); exact PySem.W.kia_one PySem.W.kitx_bool I.kIn True.intro e (fun z => nomatch z) h
  | int i => obtain ⟨t, q⟩ := (show ∃ t, u = Value.int i t from rx); cases q; exact PySem.W.kia_one PySem.W.kitx_int I.kIn True.intro e (fun z => nomatch z) h
  | str y => obtain ⟨t, q⟩ := (show ∃ t, u = Value.str y t from rx); cases q; exact PySem.W.kia_one PySem.W.kitx_str I.kIn True.intro e (fun z => nomatch z) h
  | flt y => obtain ⟨t, q⟩ := (show ∃ t, u = Value.float y t from rx); cases q; exact PySem.W.kia_one PySem.W.kitx_float I.kIn True.intro e (fun z => nomatch z) h
  | @lst a xs ea =>
    cases (show u = Value.ref a from rx)
    obtain ⟨_, _, n, _, h1⟩ := (show ObjOk X.prog X.w H s.heap a (.lst xs) from I.hok a _ ea)
    exact PySem.W.kia_one PySem.W.kitx_list I.kIn ⟨_, h1, rfl⟩ e (fun z => nomatch z) h
  | @frz a ob xs ea =>
    cases (show u = Value.ref a from rx)
    obtain ⟨_, _, _, n, _, h1⟩ := (show ObjOk X.prog X.w H s.heap a (.frz ob (.lst xs)) from I.hok a _ ea)
    exact PySem.W.kia_one PySem.W.kitx_list I.kIn ⟨_, h1, rfl⟩ e (fun z => nomatch z) h
  | @tup a xs ea =>
    cases (show u = Value.ref a from rx)
    obtain ⟨_, _, _, p, _⟩ := (show ObjOk X.prog X.w H s.heap a (.tup xs) from I.hok a _ ea)
    obtain ⟨o, h1, h2, _⟩ := p
    exact PySem.W.kia_one PySem.W.kitx_tuple I.kIn ⟨o, h1, h2⟩ e (fun z => nomatch z) h
  | @dK a kvs ea =>
    cases (show u = Value.ref a from rx)
    obtain ⟨_, _, vs, _, p⟩ := (show ObjOk X.prog X.w H s.heap a (.dK kvs) from I.hok a _ ea)
    obtain ⟨o, es, ep, h1, h2, _⟩ := p
    exact PySem.W.kia_one PySem.W.kitx_dict I.kIn ⟨o, h1, h2.1⟩ e (fun z => nomatch z) h
  | @dT a kvs ea =>
    cases (show u = Value.ref a from rx)
    obtain ⟨_, _, xs, _, o, es, ep, h1, h2, _⟩ := (show ObjOk X.prog X.w H s.heap a (.dT kvs) from I.hok a _ ea)
    exact PySem.W.kia_one PySem.W.kitx_dict I.kIn ⟨o, h1, h2.1⟩ e (fun z => nomatch z) h
  | @ins a C dx fs ea cl ha hn htk hm =>
    cases (show u = Value.ref a from rx)
    obtain ⟨mA, O, _⟩ := ins_get I.hok ea
    obtain ⟨od, J, _⟩ := O.look
    exact PySem.W.kia_one (PySem.W.kitx_own (cl.get _) cl.hd ha hn htk hm) I.kIn J e (fun z => nomatch z) h
end
end L2
namespace L2
open PySem PySem.Spec PyProof.Rows
structure Room (k : Nat) (A : Around) : Prop where
  hd : A.handled = none
  dp : A.depth + 3 * k + 5 < recursionLimit
  un : A.units + 16 * k + 200 < cLine
theorem Room.mono {j k : Nat} {A : Around} (r : Room k A) (h : j ≤ k) : Room j A := ⟨r.hd, by have := r.dp; omega, by have := r.un; omega⟩
theorem Room.deeper {k : Nat} {A : Around} (r : Room (k + 1) A) (env : Env) : Room k (A.deeper env) :=
  ⟨r.hd, by have := r.dp; show A.depth + 1 + 3 * k + 5 < _; omega, by have := r.un; show A.units + 3 + 16 * k + 200 < _; omega⟩
theorem Room.depth {k : Nat} {A : Around} (r : Room k A) : A.depth < recursionLimit := by have := r.dp; omega
theorem Room.units {k : Nat} {A : Around} (r : Room k A) : A.units + 64 < cLine := by have := r.un; omega
theorem Room.units0 {k : Nat} {A : Around} (r : Room k A) : A.units < cLine := by have := r.un; omega
noncomputable def tNil : TA := fun _ H Q => Q [] H
noncomputable def tCons (ta : TE) (tr : TA) : TA := fun σ H Q => ta σ H fun x H1 => tr σ H1 fun xs H2 => Q (x :: xs) H2
section
variable {X : Cx} {e : Expr} {es : List Expr} {te : TE} {t : TA} {pos : Pos}
theorem pa_nil : PA X [] tNil := fun _ _ _ _ H Q I h => Calls.spliced_nil ⟨[], H, I, .nil, h⟩
theorem pa_cons (ha : PE X e te) (hr : PA X es t) (hs : starEach (e :: es) X.env = (false, eval e X.env) :: starEach es X.env := by rfl) : PA X (e :: es) (tCons te t) := by
  intro pos pins s σ H Q I h
  rw [hs]
  show wpAny _ _ (spliced ((false, eval e X.env) :: backTo pos (starEach es X.env))) _ _ s
  refine Calls.spliced_cons (thn (ha pins s σ H _ I h) fun u s1 ⟨x, H1, I1, r1, q1⟩ => ?_)
  exact thn (hr pos pins s1 σ H1 _ I1 q1) fun us s2 ⟨xs, H2, I2, r2, q2⟩ => ⟨x :: xs, H2, I2, .cons r1 r2, q2⟩
noncomputable def tTup (t : TA) : TE := fun σ H Q => t σ H fun xs H1 => xs.length ≤ sizeLine ∧ ∀ p, H1 p = none → Q (.ref p) (upd H1 p (.tup xs))
noncomputable def tLst (t : TA) : TE := fun σ H Q => t σ H fun xs H1 => xs.length ≤ sizeLine ∧ ∀ p, H1 p = none → Q (.ref p) (upd H1 p (.lst xs))
theorem pe_tup {x1} (h : PA X es t) : PE X (.Tuple es x1 pos) (tTup t) := by
  intro pins s σ H Q I hq
  refine wpAny_Tuple_spliced (thn (h pos pins s σ H _ I hq) fun us s1 ⟨xs, H1, I1, r, z, q⟩ => ⟨by rw [← r.length]; exact z, ?_⟩)
  have hf : H1 s1.heap.objs.size = none := I1.hok.fresh (Nat.le_refl _)
  refine ⟨.ref s1.heap.objs.size, upd H1 s1.heap.objs.size (.tup xs), I1.laid (t' := s1.toks) (fun b u e => Heap.get?_push_of_some _ e) (Nat.le_refl _) ?_, rfl, q _ hf⟩
  exact ⟨z, us, r, ⟨_, Heap.get?_push_size _ rfl, rfl, _, rfl⟩, _, Heap.get?_push_size _ rfl, rfl⟩
theorem pe_lst (h : PA X es t) : PE X (.List es pos) (tLst t) := by
  intro pins s σ H Q I hq
  refine wpAny_List_spliced (thn (h pos pins s σ H _ I hq) fun us s1 ⟨xs, H1, I1, r, z, q⟩ => ⟨by rw [← r.length]; exact z, ?_⟩)
  have hf : H1 s1.heap.objs.size = none := I1.hok.fresh (Nat.le_refl _)
  refine ⟨.ref s1.heap.objs.size, upd H1 s1.heap.objs.size (.lst xs), I1.laid (t' := s1.toks) (fun b u e => Heap.get?_push_of_some _ e) (Nat.le_refl _) ?_, rfl, q _ hf⟩
  exact ⟨z, us, 0, r, Heap.get?_push_size _ rfl⟩
end
noncomputable abbrev Sp := List V → Hp → VK → XK → Prop
noncomputable abbrev CXT := List Env → Hp → Shared → XK → Value → Shared → Prop
structure Env0 (P : Program) (w : World) (K : PySem.W.Frag) (mg : Str → Option Value) (base : Heap) (A : Around) (outer : List Env) (s : Shared) (H : Hp) : Prop where
  frames : A.frames = some outer
  mod : Mod K mg base
  bs : ∀ b o, base.get? b = some o → s.heap.get? b = some o ∧ H b = none
  bsz : base.objs.size ≤ s.heap.objs.size
  funs : s.heap.FunFrames base outer
  frf : ∀ b ∈ frs outer, H b = none
  hok : HOk P w H s.heap
  bare : AllBare s.gens
noncomputable def CE (outer : List Env) (P : Program) (w : World) (H : Hp) (s : Shared) (Q : VK) (u : Value) (s' : Shared) : Prop :=
  ∃ v H', s'.os = s.os ∧ AllBare s'.gens ∧ Un (frs outer) [] H H' s.heap s'.heap ∧ HOk P w H' s'.heap ∧ RelV v u ∧ Q v H'
noncomputable def CR (CX : CXT) (outer : List Env) (P : Program) (w : World) (H : Hp) (s : Shared) (Q : VK) (E : XK) (r : Result) (s' : Shared) : Prop :=
  match r with
  | .ok (.ret u) => CE outer P w H s Q u s'
  | .ok _ => False
  | .error e => CX outer H s E e s'
structure FnOk (P : Program) (w : World) (K : PySem.W.Frag) (mg : Str → Option Value) (base : Heap) (CX : CXT) (k : Nat) (f : Addr) (fd : FuncData) (ps : List Str) (sp : Sp) : Prop where
  len : ∀ vs H Q E, sp vs H Q E → vs.length = ps.length
  run : ∀ (A : Around) (outer : List Env) (s : Shared) (H : Hp) (args : Args) (us : List Value) (vs : List V) (Q : VK) (E : XK), Room k A → Env0 P w K mg base A outer s H → BindsTo s fd args (ps.zip us) → Vals vs us → sp vs H Q E →
    codeAny (model P w) A (.call (.ref f) args) (CR CX outer P w H s Q E) s
section
variable {X : Cx} {pins : List (Addr × Obj)} {σ : St} {H : Hp} {s s' : Shared}
theorem Inv.env0 (I : Inv X pins σ H s) : Env0 X.prog X.w X.K X.mg X.base X.A X.stack s H :=
  ⟨I.ok.frames, I.ok.mod, I.bs, Nat.le_trans I.ok.bsz I.sz, I.stack, I.stkFree, I.hok, I.bare⟩
theorem Inv.after {Q : VK} {u : Value} (I : Inv X pins σ H s) (h : CE X.stack X.prog X.w H s Q u s') : EP X pins σ Q u s' := by
  obtain ⟨v, H', os, bare, un, hok, r, q⟩ := h
  obtain ⟨hh, g, d, t, os'⟩ := s'
  obtain rfl : os' = s.os := os
  exact ⟨v, H', I.call (h' := hh) (g' := g) (d' := d) (t' := t) (ch := []) un hok bare (fun b z => absurd z (by simp)), r, q⟩
end
noncomputable def tCall (sp : Sp) (dvs : List V) (E : XK) (t : TA) : TE := fun σ H Q => t σ H fun vs H1 => sp (vs ++ dvs) H1 Q E
noncomputable def Binds (K : PySem.W.Frag) (fd : FuncData) (ps : List Str) (ds : List Value) : Prop :=
  ∀ (s : Shared) (us : List Value), K.In s.heap → (us ++ ds).length = ps.length → BindsTo s fd ⟨us, []⟩ (ps.zip (us ++ ds))
theorem Binds.all {K : PySem.W.Frag} {fd : FuncData} {ps : List Str} (h : ∀ us : List Value, us.length = ps.length → bindArgs fd ⟨us, []⟩ = pure (ps.zip us)) : Binds K fd ps [] := fun s us _ hl => by
  rw [List.append_nil] at hl ⊢
  exact .of_eq (h us hl)
noncomputable def Passes (CX : CXT) (X : Cx) (E : XK) : Prop := ∀ (pins : List (Addr × Obj)) (σ : St) (H : Hp) (s : Shared) (e : Value) (s' : Shared), Inv X pins σ H s → CX X.stack H s E e s' → X.xe e s'
section
variable {X : Cx} {CX : CXT} {k : Nat} {f C : Addr} {fd : FuncData} {ps : List Str} {sp : Sp} {dvs : List V} {ds : List Value} {E : XK} {x m : Str} {p pos apos : Pos} {e o : Expr} {es : List Expr} {ta : TE} {t : TA}
theorem run_fn {pins : List (Addr × Obj)} {σ : St} {H : Hp} {s : Shared} {Q : VK} {us : List Value} {vs : List V} (F : FnOk X.prog X.w X.K X.mg X.base CX k f fd ps sp) (hr : Room k X.A) (hb : Binds X.K fd ps ds) (hd : Vals dvs ds) (hx : Passes CX X E)
    (I : Inv X pins σ H s) (r : Vals vs us) (h : sp (vs ++ dvs) H Q E) : wpAny (model X.prog X.w) X.A (call (.ref f) us) (EP X pins σ Q) X.xe s := by
  have r2 : Vals (vs ++ dvs) (us ++ ds) := r.append hd
  have hl : (us ++ ds).length = ps.length := by rw [← r2.length]; exact F.len _ _ _ _ h
  refine wpAny_call (codeAny_mono (F.run X.A X.stack s H ⟨us, []⟩ (us ++ ds) (vs ++ dvs) Q E hr I.env0 (hb s us I.kIn hl) r2 h) fun r s' hq => ?_)
  cases r with
  | error e => exact hx pins σ H s e s' I hq
  | ok fl =>
    cases fl with
    | ret u => exact I.after hq
    | next => exact False.elim hq
    | brk => exact False.elim hq
    | cont => exact False.elim hq
theorem pe_call (F : FnOk X.prog X.w X.K X.mg X.base CX k f fd ps sp) (hr : Room k X.A) (hg : Gl X x) (hm : X.mg x = some (.ref f)) (hk : PySem.W.keepIn X.K (.ref f) = true) (hb : Binds X.K fd ps ds) (hd : Vals dvs ds) (hx : Passes CX X E)
    (ha : PA X (e :: es) t) (hdb : (x == ("__debug__" : Str)) = false := by decide) (he : starEach (e :: es) X.env = (false, eval e X.env) :: starEach es X.env := by rfl) (hpl : (backTo pos (starEach es X.env)).any (·.1) = false := by rfl) :
    PE X (.Call (.Name x p) (e :: es) [] pos) (tCall sp dvs E t) := by
  intro pins s σ H Q I h
  refine wpAny_Call_Name_kw (ld_glob I hg hm ?_ hdb)
  refine PySem.W.callWith_K (h₀ := X.base) I.ok.mod.kin hk (thn (ha pos pins s σ H _ I h) fun us s1 ⟨vs, H1, I1, r, q⟩ => ⟨I1.kIn, ?_⟩) he hpl
  exact run_fn F hr hb hd hx I1 r q
theorem pe_call0 (F : FnOk X.prog X.w X.K X.mg X.base CX k f fd ps sp) (hr : Room k X.A) (hg : Gl X x) (hm : X.mg x = some (.ref f)) (hk : PySem.W.keepIn X.K (.ref f) = true) (hb : Binds X.K fd ps ds) (hd : Vals dvs ds) (hx : Passes CX X E)
    (hdb : (x == ("__debug__" : Str)) = false := by decide) : PE X (.Call (.Name x p) [] [] pos) (tCall sp dvs E tNil) := by
  intro pins s σ H Q I h
  refine wpAny_Call_Name_kw (ld_glob I hg hm ?_ hdb)
  exact PySem.W.callWith_K0 I.kIn hk (run_fn (us := []) F hr hb hd hx I .nil h)
structure Mk (K : PySem.W.Frag) (C f : Addr) : Prop where
  makes : PySem.W.makesIn K C = true
  init : PySem.W.findIn K (.ref C) "__init__" = some (some (.ref f))
  fn : PySem.W.isFn K (.ref f) = true
  kp : PySem.W.keepIn K (.ref C) = true
end
section
variable {X : Cx} {CX : CXT} {k : Nat} {f C : Addr} {fd : FuncData} {ps ks : List Str} {sp : Sp} {E : XK} {x m : Str} {p pos apos kpos : Pos} {e o : Expr} {es : List Expr} {kws : List Keyword} {te ta : TE} {t tk : TA} {nm : Option Str}
structure KBinds (K : PySem.W.Frag) (fd : FuncData) (ps ks : List Str) (g : List Value → List Value → List Value) (gV : List V → List V → List V) : Prop where
  to : ∀ (s : Shared) (us ws : List Value), K.In s.heap → (g us ws).length = ps.length → BindsTo s fd ⟨us, ks.zip ws⟩ (ps.zip (g us ws))
  rel : ∀ {vs : List V} {us : List Value} {zs : List V} {ws : List Value}, Vals vs us → Vals zs ws → Vals (gV vs zs) (g us ws)
variable {g : List Value → List Value → List Value} {gV : List V → List V → List V}
end
structure FnScope (N P : List Str) (sc : Scope) : Prop where
  kind : sc.kind = .function
  co : sc.isCoroutine = false
  gen : sc.isGenerator = false
  nd : N.Nodup
  pre : N.take P.length = P
  par : ∀ x ∈ P, sc.names.lookup x = some .local ∨ sc.names.lookup x = some .cell
  nofree : ∀ y ∈ sc.names, y.2 ≠ .free
theorem bindL_out {kindOf : Str → Option NameKind} {x : Str} : ∀ {binds : List (Str × Value)} {m : Str → Option Value}, (∀ v, (x, v) ∉ binds) → bindL kindOf binds m x = m x
  | [], _, _ => rfl
  | (n, v) :: r, m, h => by
    unfold bindL
    rw [bindL_out fun w hw => h w (List.mem_cons_of_mem _ hw)]
    split
    · have : x ≠ n := by rintro rfl; exact h v List.mem_cons_self
      simp [this]
    · rfl
theorem bindC_out {kindOf : Str → Option NameKind} {x : Str} : ∀ {binds : List (Str × Value)} {m : Str → Option Value}, (∀ v, (x, v) ∉ binds) → bindC kindOf binds m x = m x
  | [], _, _ => rfl
  | (n, v) :: r, m, h => by
    unfold bindC
    rw [bindC_out fun w hw => h w (List.mem_cons_of_mem _ hw)]
    split
    · rfl
    · have : x ≠ n := by rintro rfl; exact h v List.mem_cons_self
      simp [this]
theorem bindL_get {kindOf : Str → Option NameKind} {x : Str} {v : Value} : ∀ {P : List Str} {vs : List Value} {i : Nat} {m : Str → Option Value}, P.Nodup → P[i]? = some x → vs[i]? = some v → kindOf x = some .local →
    bindL kindOf (P.zip vs) m x = some v
  | [], _, _, _, _, h, _, _ => by simp at h
  | _ :: _, [], _, _, _, _, h, _ => by simp at h
  | p :: P, w :: vs, 0, m, nd, h1, h2, hk => by
    simp at h1 h2; subst h1; subst h2
    show bindL kindOf ((p, w) :: P.zip vs) m p = _
    unfold bindL
    rw [bindL_out fun v hv => (List.nodup_cons.mp nd).1 (List.of_mem_zip hv).1, if_pos hk]
    simp
  | p :: P, w :: vs, i + 1, m, nd, h1, h2, hk => by
    show bindL kindOf ((p, w) :: P.zip vs) m x = _
    unfold bindL
    exact bindL_get (i := i) (List.nodup_cons.mp nd).2 (by simpa using h1) (by simpa using h2) hk
theorem bindC_get {kindOf : Str → Option NameKind} {x : Str} {v : Value} : ∀ {P : List Str} {vs : List Value} {i : Nat} {m : Str → Option Value}, P.Nodup → P[i]? = some x → vs[i]? = some v → kindOf x ≠ some .local →
    bindC kindOf (P.zip vs) m x = some v
  | [], _, _, _, _, h, _, _ => by simp at h
  | _ :: _, [], _, _, _, _, h, _ => by simp at h
  | p :: P, w :: vs, 0, m, nd, h1, h2, hk => by
    simp at h1 h2; subst h1; subst h2
    show bindC kindOf ((p, w) :: P.zip vs) m p = _
    unfold bindC
    rw [bindC_out fun v hv => (List.nodup_cons.mp nd).1 (List.of_mem_zip hv).1, if_neg hk]
    simp
  | p :: P, w :: vs, i + 1, m, nd, h1, h2, hk => by
    show bindC kindOf ((p, w) :: P.zip vs) m x = _
    unfold bindC
    exact bindC_get (i := i) (List.nodup_cons.mp nd).2 (by simpa using h1) (by simpa using h2) hk
noncomputable def start (N : List Str) (vs : List V) : St := vs.map some ++ List.replicate (N.length - vs.length) none
noncomputable def cxOf (CX : CXT) (P : Program) (w : World) (K : PySem.W.Frag) (mg : Str → Option Value) (base : Heap) (N : List Str) (qual : Str) (scope : Scope) (f : Addr) (cd : Value) (A : Around) (outer : List Env) (s : Shared) (H : Hp) (E : XK) : Cx where
  prog := P
  w := w
  K := K
  mg := mg
  base := base
  A := A.deeper (envOfC qual scope s.heap.objs.size f cd)
  N := N
  s₀ := s
  H₀ := H
  env := envOfC qual scope s.heap.objs.size f cd
  outer := outer
  stack := envOfC qual scope s.heap.objs.size f cd :: outer
  ex := []
  calm := true
  fn := fun _ => true
  pn := []
  xe := fun e s' => wpAny (model P w) (A.deeper (envOfC qual scope s.heap.objs.size f cd)) (leaving (envOfC qual scope s.heap.objs.size f cd) e) (fun _ s'' => CX outer H s E e s'') (fun e' s'' => CX outer H s E e' s'') s'
theorem cell_has {sc : Scope} {n : Nat} {x : Str} (h : sc.names.lookup x = some .cell) : ∃ c, (cellsFrom n sc.names []).lookup x = some c := by
  have q := PySem.W.cellsFrom_some sc.names n [] (.inl h)
  exact Option.isSome_iff_exists.mp q
theorem inv_start {CX : CXT} {P : Program} {w : World} {K : PySem.W.Frag} {mg : Str → Option Value} {base : Heap} {N ps : List Str} {qual : Str} {scope : Scope} {f : Addr} {cd : Value} {A : Around} {outer : List Env} {s s1 : Shared} {H : Hp} {E : XK} {us : List Value} {vs : List V}
    (S : FnScope N ps scope) (hd : A.handled = none) (e0 : Env0 P w K mg base A outer s H) (hl : vs.length = ps.length) (r : Vals vs us)
    (x : InCallC s s.heap.objs.size (bindL (envOfC qual scope s.heap.objs.size f cd).kindOf (ps.zip us) fun _ => none) (cellsFrom (s.heap.objs.size + 1) scope.names []) (bindC (envOfC qual scope s.heap.objs.size f cd).kindOf (ps.zip us) fun _ => none) s1) :
    Inv (cxOf CX P w K mg base N qual scope f cd A outer s H E) [] (start N vs) H s1 := by
  have hpl : ps.length ≤ N.length := by have := congrArg List.length S.pre; rw [List.length_take] at this; omega
  obtain ⟨h1, tk, rfl, hk⟩ := x.done
  have noA : ∀ b : Addr, b ∉ (cxOf CX P w K mg base N qual scope f cd A outer s H E).ex := fun b z => absurd (show b ∈ ([] : List Addr) from z) (by simp)
  refine ⟨⟨e0.mod, S.kind, rfl, rfl, Nat.le_refl _, fun y z c h1 h2 => ?_, fun y hy => ?_, fun y c _ h => ?_, fun _ => hd, Around.frames_deeper e0.frames, .inr ⟨rfl, rfl⟩, fun b z => absurd z (noA b), e0.bs, e0.bsz, fun b _ _ => noA b, fun b z => absurd z (noA b), e0.funs, e0.frf⟩,
    rfl, e0.bare, Un.kept hk, ⟨_, x.toInCall.ns, fun i y v h1 h2 h3 => ?_⟩, fun y c h => ⟨_, x.cell y c h⟩, e0.hok.fresh (Nat.le_refl _), fun y c h => ?_, fun p hp => absurd (show p ∈ ([] : List (Addr × Obj)) from hp) (by simp), e0.hok.kept hk, ?_⟩
  · exact name_of_addr x.apart (PySem.mem_of_lookup h1) (PySem.mem_of_lookup h2)
  · have hy : scope.names.lookup y = some .cell ∨ scope.names.lookup y = some .free := hy
    rcases hy with hy | hy
    · exact cell_has hy
    · exact absurd rfl (S.nofree _ (PySem.mem_of_lookup hy))
  · exact Nat.le_of_lt (x.above y c (PySem.mem_of_lookup h))
  · have hi : i < vs.length := by
      unfold start at h2
      by_cases hi : i < vs.length
      · exact hi
      · rw [List.getElem?_append_right (by simpa using hi)] at h2
        rw [List.getElem?_replicate] at h2
        split at h2 <;> cases h2
    have ha : vs[i]? = some v := by
      unfold start at h2
      rw [List.getElem?_append_left (by simpa using hi), List.getElem?_map] at h2
      cases e : vs[i]? with
      | none => rw [e] at h2; cases h2
      | some a => rw [e] at h2; cases h2; rfl
    obtain ⟨u, hu, rv⟩ := r.get ha
    have hp : ps[i]? = some y := by
      rw [← S.pre, List.getElem?_take_of_lt (by omega)]; exact h1
    have ndP : ps.Nodup := by rw [← S.pre]; exact S.nd.sublist (List.take_sublist _ _)
    refine ⟨u, rv, ?_⟩
    rcases S.par y (List.mem_of_getElem? hp) with k | k
    · exact .inl ⟨k, bindL_get ndP hp hu k⟩
    · obtain ⟨c, e⟩ := cell_has (n := s.heap.objs.size + 1) k
      refine .inr ⟨.inl k, c, e, ?_⟩
      have q := x.cell y c e
      rw [bindC_get ndP hp hu (by show scope.names.lookup y ≠ _; rw [k]; decide)] at q
      exact q
  · exact e0.hok.fresh (Nat.le_of_lt (x.above y c (PySem.mem_of_lookup h)))
  · unfold start
    show _ = N.length
    rw [List.length_append, List.length_map, List.length_replicate]
    omega
theorem fn_of {CX : CXT} {P : Program} {w : World} {K : PySem.W.Frag} {mg : Str → Option Value} {base : Heap} {k : Nat} {f : Addr} {name qual : Str} {params : Arguments} {body : List Stmt} {scope : Scope} {dV kV doc pm cdv ct oc : Value} {an od : Option Addr}
    {osl : Array (Option Value)} {N ps : List Str} {sp : Sp} (lk : K.lookup f = some ⟨oc, od, .func (PySem.W.fnOf name qual params body scope dV kV doc pm an cdv ct), osl⟩) (hcd : PySem.W.codeIn K cdv qual = true) (S : FnScope N ps scope)
    (len : ∀ vs H Q E, sp vs H Q E → vs.length = ps.length)
    (hbody : ∀ (A : Around) (outer : List Env) (s : Shared) (H : Hp) (vs : List V) (Q : VK) (E : XK), Room k (A.deeper (envOfC qual scope s.heap.objs.size f cdv)) → sp vs H Q E →
      ∃ t, PSs (cxOf CX P w K mg base N qual scope f cdv A outer s H E) body t ∧ t { nx := fun _ H' => Q .non H', rt := Q } (start N vs) H) :
    FnOk P w K mg base CX (k + 1) f (PySem.W.fnOf name qual params body scope dV kV doc pm an cdv ct) ps sp := by
  refine ⟨len, fun A outer s H args us vs Q E hr e0 hb r hsp => ?_⟩
  have hl := len _ _ _ _ hsp
  have KX : K.In s.heap := e0.mod.kin.keeps fun b o e => (e0.bs b o e).1
  have lim : s.heap.NoLimit := e0.mod.nolimit.keeps fun b o e => (e0.bs b o e).1
  have hkind : ∀ y ∈ ps.zip us, scope.names.lookup y.1 = some .local ∨ (scope.names.lookup y.1 = some .cell ∧ ((cellsFrom (s.heap.objs.size + 1) scope.names []).lookup y.1).isSome = true) := fun ⟨n, v⟩ hy => by
    rcases S.par n (List.of_mem_zip hy).1 with q | q
    · exact .inl q
    · exact .inr ⟨q, PySem.W.cellsFrom_some _ _ _ (.inl q)⟩
  refine codeAny_call_function hr.depth (KX _ _ lk) rfl S.co S.gen rfl (PySem.W.codeRec_of KX hcd) (hb _ _ _ _ ?_)
  refine wpAny_newFunctionEnv_cells S.kind hkind fun env he s1 x => ?_
  subst he
  refine ⟨lim.keeps x.toInCall.keep, codeAny_func ?_⟩
  obtain ⟨t, ht, hq⟩ := hbody A outer s H vs Q E (hr.deeper _) hsp
  have I : Inv (cxOf CX P w K mg base N qual scope f cdv A outer s H E) [] (start N vs) H s1 := inv_start S hr.hd e0 hl r x
  refine wpAny_mono (ht [] s1 (start N vs) H _ I hq) (fun fl s' hs => ?_) fun e s' hs => hs
  have fin : ∀ {σ' : St} {H' : Hp} {v : V} {u : Value}, Inv (cxOf CX P w K mg base N qual scope f cdv A outer s H E) [] σ' H' s' → RelV v u → Q v H' → CE outer P w H s Q u s' :=
    fun {σ' H' v u} J rv q => ⟨v, H', J.os, J.bare, J.base, J.hok, rv, q⟩
  cases fl with
  | ret u =>
    obtain ⟨v, σ', H', J, rv, q⟩ := hs
    exact fin J rv q
  | next =>
    obtain ⟨σ', H', J, q⟩ := hs
    exact fin (v := V.non) (u := Value.none) J rfl q
  | brk =>
    obtain ⟨_, _, _, q⟩ := hs
    exact False.elim q
  | cont =>
    obtain ⟨_, _, _, q⟩ := hs
    exact False.elim q
end L2
namespace L2
open PySem PySem.Spec PyProof.Rows
section
variable {X : Cx} {x : Str} {p pos : Pos} {e : Expr} {es : List Expr} {t : TA} {id T : String} {r : List V → Hp → VK → Prop}
noncomputable def tCB (r : List V → Hp → VK → Prop) (t : TA) : TE := fun σ H Q => t σ H fun vs H1 => r vs H1 Q
theorem pe_callB (hc : CallR X (.builtin id) r) (hg : Gl X x) (hm : X.mg x = none) (hv : bootBuiltins x = some (.builtin id)) (ha : PA X (e :: es) t) (hn : x ≠ "__name__" := by decide) (hdb : (x == ("__debug__" : Str)) = false := by decide)
    (he : starEach (e :: es) X.env = (false, eval e X.env) :: starEach es X.env := by rfl) (hpl : (backTo pos (starEach es X.env)).any (·.1) = false := by rfl) : PE X (.Call (.Name x p) (e :: es) [] pos) (tCB r t) := by
  intro pins s σ H Q I h
  refine wpAny_Call_Name_kw (ld_blt I hg hm hv ?_ hn hdb)
  exact PyProof.Rows.callWith_builtin1 (thn (ha pos pins s σ H _ I h) fun us s1 ⟨vs, H1, I1, r1, q1⟩ => hc pins s1 σ H1 vs us Q I1 r1 q1) he hpl
theorem pe_callTy (hc : CallR X (.type T) r) (hg : Gl X x) (hm : X.mg x = none) (hv : bootBuiltins x = some (.type T)) (ha : PA X (e :: es) t) (hn : x ≠ "__name__" := by decide) (hdb : (x == ("__debug__" : Str)) = false := by decide)
    (he : starEach (e :: es) X.env = (false, eval e X.env) :: starEach es X.env := by rfl) (hpl : (backTo pos (starEach es X.env)).any (·.1) = false := by rfl) : PE X (.Call (.Name x p) (e :: es) [] pos) (tCB r t) := by
  intro pins s σ H Q I h
  refine wpAny_Call_Name_kw (ld_blt I hg hm hv ?_ hn hdb)
  exact PyProof.Rows.callWith_type1 (thn (ha pos pins s σ H _ I h) fun us s1 ⟨vs, H1, I1, r1, q1⟩ => hc pins s1 σ H1 vs us Q I1 r1 q1) he hpl
end
end L2
namespace HT
open PySem PyProof.Rows
section
open PySem.SeqAt
open PySem.AutoSeq1 (wpAny_loadPart')
open PySem.MeetsSeq PySem.MeetsSeq2 PySem.MeetsSeq3
end
section
variable {prog : Program} {w : World} {A : Around} {E : Value → Shared → Prop} {s : Shared}
theorem cat_tup {t b : Addr} {vs ws : List Value} {Q : Value → Shared → Prop} (ht : IsTup s.heap t vs.toArray) (hb : IsTup s.heap b ws.toArray) (hv : vs ≠ [])
    (h1 : ws = [] → Q (.ref t) s) (h2 : ws ≠ [] → Q (.ref s.heap.objs.size) { s with heap := s.heap.push { cls := .type "tuple", data := .seq (vs ++ ws).toArray } })
    (hsz : vs.length + ws.length ≤ sizeLine) : wpAny (model prog w) A (binaryOp .Add (.ref t) (.ref b)) Q E s := by
  obtain ⟨⟨cls, dd, data, sl⟩, ho, hc, n, hd⟩ := id ht
  obtain ⟨⟨cls2, dd2, data2, sl2⟩, ho2, hc2, n2, hd2⟩ := id hb
  simp only at hc hd hc2 hd2
  subst hc hd hc2 hd2
  have e : vs.toArray ++ ws.toArray = (vs ++ ws).toArray := by simp
  by_cases hw : ws = []
  · exact concat_meets ⟨_, ho, rfl⟩ ⟨_, ho2, rfl⟩ noFill_tuple_add seq_tuple_add PySem.F.slot_tuple_add PySem.F.entry_tuple_add (PySem.F.args_tuple_add_2 _ _)
      (tuple_addW1 t b vs.toArray ws.toArray n n2 dd dd2 sl sl2 (by simpa using hv) (by simp [hw])) ⟨ho, ho2, h1 hw⟩
  · refine concat_meets ⟨_, ho, rfl⟩ ⟨_, ho2, rfl⟩ noFill_tuple_add seq_tuple_add PySem.F.slot_tuple_add PySem.F.entry_tuple_add (PySem.F.args_tuple_add_2 _ _)
      (tuple_addW2 t b vs.toArray ws.toArray n n2 dd dd2 sl sl2 (by simpa using hv) (by simpa using hw) (by rw [List.size_toArray, List.size_toArray]; exact hsz)) ⟨ho, ho2, ?_⟩
    rw [e]
    exact h2 hw
noncomputable def sIx (n d : Nat) : Option Int → Nat
  | none => d
  | some v => if v < 0 then (v + (n : Int)).toNat else min v.toNat n
theorem sIx_none (n d : Nat) : sIx n d none = d := rfl
theorem sIx_nat (n d k : Nat) : sIx n d (some (k : Int)) = min k n := by
  show (if (k : Int) < 0 then ((k : Int) + (n : Int)).toNat else min (k : Int).toNat n) = min k n
  rw [if_neg (by omega), Int.toNat_natCast]
theorem sIx_le (n d : Nat) (hd : d ≤ n) (o : Option Int) : sIx n d o ≤ n := by
  cases o with
  | none => exact hd
  | some v =>
    show (if v < 0 then (v + (n : Int)).toNat else min v.toNat n) ≤ n
    by_cases hv : v < 0
    · rw [if_pos hv]; omega
    · rw [if_neg hv]; exact Nat.min_le_right _ _
theorem clip_eq (v : Int) (n d : Nat) : (if v < 0 then max (v + (n : Int)) 0 else min v (n : Int)) = ((sIx n d (some v) : Nat) : Int) := by
  show (if v < 0 then max (v + (n : Int)) 0 else min v (n : Int)) = (((if v < 0 then (v + (n : Int)).toNat else min v.toNat n) : Nat) : Int)
  by_cases hv : v < 0
  · simp only [if_pos hv]; omega
  · simp only [if_neg hv]; omega
theorem adjust_gen (lo hi : Option Int) (n : Nat) : Builtin.Slice.sliceAdjust lo hi 1 (n : Int) = (((sIx n 0 lo : Nat) : Int), ((sIx n n hi : Nat) : Int)) := by
  have h1 : ¬ ((1 : Int) < 0) := by omega
  unfold Builtin.Slice.sliceAdjust
  simp only [h1, if_false]
  refine Prod.ext ?_ ?_
  · cases lo with
    | none => rfl
    | some v => exact clip_eq v n 0
  · cases hi with
    | none => rfl
    | some v => exact clip_eq v n n
theorem places_gen (i j : Nat) : Builtin.Slice.slicePlaces (i : Int) (j : Int) 1 = j - i := by
  unfold Builtin.Slice.slicePlaces
  have h1 : (1 : Int) > 0 := by omega
  simp only [h1, if_true, Int.ediv_one]
  split <;> omega
theorem slicePart_ {v : Value} {o : Option Int} {Q : Option Int → Shared → Prop} (p : IsPart v o) (h : Q o s) : wpAny (model prog w) A (Builtin.Slice.slicePartIndex v) Q E s := by
  cases p with
  | none => exact slicePart_none h
  | int i t => exact slicePart_int h
theorem sliceApplied_gen {sl : Addr} {vl vu : Value} {lo hi : Option Int} {n : Nat} {Q : Int × Int × Nat → Shared → Prop} (hs : s.heap.IsSliceOf sl vl vu .none) (pl : IsPart vl lo) (pu : IsPart vu hi)
    (h : Q (((sIx n 0 lo : Nat) : Int), 1, sIx n n hi - sIx n 0 lo) s) : wpAny (model prog w) A (Builtin.Slice.sliceApplied (.ref sl) (pure (n : Int))) Q E s := by
  obtain ⟨os, hos, hcs, hds⟩ := id hs
  unfold Builtin.Slice.sliceApplied Builtin.Slice.sliceFields
  refine wpAny_bind (wpAny_bind (wpAny_field hos hds (x := vl) rfl (wpAny_bind (wpAny_field hos hds (x := vu) rfl (wpAny_bind (wpAny_field hos hds (x := .none) rfl (wpAny_pure ?_)))))))
  refine wpAny_bind (slicePart_none ?_)
  show wpAny _ _ (if ((1 : Int) == 0) = true then _ else _) _ _ s
  rw [if_neg (by decide)]
  refine wpAny_bind (slicePart_ pl (wpAny_bind (slicePart_ pu (wpAny_bind (wpAny_pure ?_)))))
  show wpAny _ _ (match Builtin.Slice.sliceAdjust lo hi 1 (n : Int) with | (lo, hi) => pure (lo, (1 : Int), Builtin.Slice.slicePlaces lo hi 1)) _ _ s
  rw [adjust_gen lo hi n]
  show wpAny _ _ (pure (((sIx n 0 lo : Nat) : Int), (1 : Int), Builtin.Slice.slicePlaces ((sIx n 0 lo : Nat) : Int) ((sIx n n hi : Nat) : Int) 1)) _ _ s
  rw [places_gen]
  exact wpAny_pure h
theorem pick_gen (xs : Array Value) (i k : Nat) : ((List.range k).filterMap fun (m : Nat) => xs[((i : Int) + (m : Int) * 1).toNat]?).toArray = ((xs.toList.drop i).take k).toArray := by
  have e : (fun (m : Nat) => xs[((i : Int) + (m : Int) * 1).toNat]?) = fun m => xs[i + m]? := by
    funext m
    have : ((i : Int) + (m : Int) * 1).toNat = i + m := by omega
    rw [this]
  rw [e]
  have := pick_run xs i k
  rw [List.filterMap_map] at this
  have e2 : ((fun x => xs[x]?) ∘ fun x => i + x) = fun m => xs[i + m]? := rfl
  rw [e2] at this
  rw [this]
theorem getItem_tuple_cut {t sl : Addr} {items : Array Value} {vl vu : Value} {lo hi : Option Int} {Q : Value → Shared → Prop} (ht : IsTup s.heap t items) (hs : s.heap.IsSliceOf sl vl vu .none) (pl : IsPart vl lo) (pu : IsPart vu hi)
    (hw : ¬ (sIx items.size 0 lo = 0 ∧ sIx items.size items.size hi = items.size))
    (h : Q (.ref s.heap.objs.size) { s with heap := s.heap.push { cls := .type "tuple", data := .seq ((items.toList.drop (sIx items.size 0 lo)).take (sIx items.size items.size hi - sIx items.size 0 lo)).toArray } })
    (hsz : items.size ≤ sizeLine) : wpAny (model prog w) A (getItem (.ref t) (.ref sl)) Q E s := by
  have htake : sizeOk (.seq ((items.toList.drop (sIx items.size 0 lo)).take (sIx items.size items.size hi - sIx items.size 0 lo)).toArray) := by
    show ((items.toList.drop (sIx items.size 0 lo)).take (sIx items.size items.size hi - sIx items.size 0 lo)).toArray.size ≤ sizeLine
    rw [List.size_toArray, List.length_take, List.length_drop, Array.length_toList]
    omega
  have hj : sIx items.size items.size hi ≤ items.size := sIx_le _ _ (Nat.le_refl _) hi
  obtain ⟨os, hos, hcs, hds⟩ := id hs
  have hTs : s.TypeIs (.ref sl) "slice" := ⟨os, hos, hcs⟩
  unfold getItem
  try with_reducible refine wpAny_holding ?_
  first | refine wpAny_bind (wpAny_pure ?_) | skip
  refine wpAny_bind (wpAny_sequenceKey ht.typeIs (by decide) ?_)
  refine wpAny_bind (wpAny_callSpecial?_slot (name := Str.ofString "__getitem__") ht.typeIs PyProof.Rows.slot_tuple_getitem
    (wpAny_call_entry PyProof.Rows.slot_tuple_getitem ht.typeIs entry_tuple_getitem ?_ (args_tuple_getitem _ _)))
  show wpAny _ _ (Builtin.Tuple.tupleItemsOf (.ref t) >>= _) _ _ s
  refine wpAny_bind (tupleItemsOf_ ht ?_)
  refine wpAny_bind (wpAny_typeOf hTs ?_)
  rw [if_pos (by decide)]
  refine wpAny_bind (sliceApplied_gen hs pl pu ?_)
  have hno : ¬ ((((sIx items.size 0 lo : Nat) : Int) == 0 && (1 : Int) == 1 && (sIx items.size items.size hi - sIx items.size 0 lo) == items.size) = true) := by
    intro q
    rw [Bool.and_eq_true, Bool.and_eq_true] at q
    have q1 : ((sIx items.size 0 lo : Nat) : Int) = 0 := eq_of_beq q.1.1
    have q2 : sIx items.size items.size hi - sIx items.size 0 lo = items.size := eq_of_beq q.2
    exact hw ⟨by omega, by omega⟩
  show wpAny _ _ (if (((sIx items.size 0 lo : Nat) : Int) == 0 && (1 : Int) == 1 && (sIx items.size items.size hi - sIx items.size 0 lo) == items.size) = true then _ else _) _ _ s
  rw [if_neg hno, pick_gen]
  first
    | exact wpAny_bind (m := Builtin.Tuple.tupleExact _) (wpAny_newObj_type (wpAny_pure ⟨_, rfl, wpAny_pure h⟩) htake)
    | exact wpAny_bind (m := Builtin.Tuple.tupleExact _) (wpAny_newObj_type (wpAny_bind (wpAny_pure (wpAny_pure ⟨_, rfl, wpAny_pure h⟩))) htake)
    | exact wpAny_bind (wpAny_bind (m := Builtin.Tuple.tupleExact _) (wpAny_newObj_type (wpAny_pure (wpAny_pure ⟨_, rfl, wpAny_pure h⟩)) htake))
    | exact wpAny_bind (wpAny_bind (m := Builtin.Tuple.tupleExact _) (wpAny_newObj_type (wpAny_pure ⟨_, rfl, wpAny_pure h⟩) htake))
end
end HT
namespace L2
open PySem PySem.Spec PyProof.Rows
noncomputable abbrev TO := St → Hp → (Option Int → Hp → Prop) → Prop
noncomputable def PO (X : Cx) (e : Option Expr) (t : TO) : Prop :=
  ∀ (pins : List (Addr × Obj)) (s : Shared) (σ : St) (H : Hp) (Q : Option Int → Hp → Prop), Inv X pins σ H s → t σ H Q →
    wpAny (model X.prog X.w) X.A (evalPart e X.env) (fun u s' => ∃ o H', Inv X pins σ H' s' ∧ IsPart u o ∧ Q o H') X.xe s
noncomputable def tNoPart : TO := fun _ H Q => Q none H
noncomputable def tPart (t : TE) : TO := fun σ H Q => t σ H fun x H1 => ∃ i, x = .int i ∧ Q (some i) H1
section
variable {X : Cx} {e : Expr} {te : TE} {lo hi : Option Expr} {tl th : TO} {pos p2 : Pos}
theorem po_none : PO X none tNoPart := by
  intro pins s σ H Q I h
  rw [evalPart_none]
  exact wpAny_pure ⟨none, H, I, .none, h⟩
theorem po_some (h : PE X e te) : PO X (some e) (tPart te) := by
  intro pins s σ H Q I hw
  rw [evalPart_some]
  refine thn (h pins s σ H _ I hw) fun u s1 ⟨x, H1, I1, r1, q1⟩ => ?_
  obtain ⟨i, rfl, q⟩ := q1
  obtain ⟨t, rfl⟩ := r1
  exact ⟨some i, H1, I1, .int i t, q⟩
noncomputable def SlR (X : Cx) (r : V → Option Int → Option Int → Hp → VK → Prop) : Prop :=
  ∀ (pins : List (Addr × Obj)) (s : Shared) (σ : St) (H : Hp) (x : V) (v vl vu : Value) (lo hi : Option Int) (sl : Addr) (Q : VK), Inv X pins σ H s → RelV x v → s.heap.IsSliceOf sl vl vu .none → IsPart vl lo → IsPart vu hi → r x lo hi H Q →
    ∃ T id, typeLookup (.type T) "__getitem__" = pure (some (.builtin id)) ∧ s.TypeIs v T ∧ wpAny (model X.prog X.w) X.A (getItem v (.ref sl)) (EP X pins σ Q) X.xe s
noncomputable def tSl (r : V → Option Int → Option Int → Hp → VK → Prop) (te : TE) (tl th : TO) : TE := fun σ H Q => te σ H fun x H1 => tl σ H1 fun l H2 => th σ H2 fun u H3 => r x l u H3 Q
theorem pe_slice {r : V → Option Int → Option Int → Hp → VK → Prop} (hr : SlR X r) (he : PE X e te) (hl : PO X lo tl) (hu : PO X hi th) : PE X (.Subscript e (.Slice lo hi none p2) pos) (tSl r te tl th) := by
  intro pins s σ H Q I h
  refine Subscript_ (thn (he pins s σ H _ I h) fun v s1 ⟨x, H1, I1, r1, q1⟩ => ?_)
  refine wpAny_Slice (thn (hl pins s1 σ H1 _ I1 q1) fun vl s2 ⟨l, H2, I2, pl, q2⟩ => thn (hu pins s2 σ H2 _ I2 q2) fun vu s3 ⟨u, H3, I3, pu, q3⟩ => ?_)
  rw [evalPart_none]
  refine wpAny_pure ?_
  have I4 : Inv X pins σ H3 { s3 with heap := s3.heap.push { cls := .type "slice", data := .fields #[vl, vu, .none] } } := I3.kept (t' := s3.toks) fun b ob q => Heap.get?_push_of_some _ q
  obtain ⟨T, id, hT, ht, hg⟩ := hr pins { s3 with heap := s3.heap.push { cls := .type "slice", data := .fields #[vl, vu, .none] } } σ H3 x v vl vu l u s3.heap.objs.size Q I4 r1 (Heap.IsSliceOf.new ..) pl pu q3
  show wpAny (model X.prog X.w) X.A (subscriptTail e (.Slice lo hi none p2) v (.ref s3.heap.objs.size)) (EP X pins σ Q) X.xe { s3 with heap := s3.heap.push { cls := .type "slice", data := .fields #[vl, vu, .none] } }
  exact tail_any (ops := [.ref s3.heap.objs.size, v]) ht hT hg (by with_unfolding_all rfl)
noncomputable def cutV (xs : List V) (lo hi : Option Int) : List V := (xs.drop (HT.sIx xs.length 0 lo)).take (HT.sIx xs.length xs.length hi - HT.sIx xs.length 0 lo)
theorem cutV_length (xs : List V) (lo hi : Option Int) : (cutV xs lo hi).length ≤ xs.length := by
  unfold cutV
  rw [List.length_take, List.length_drop]
  omega
noncomputable def rSlT (K : PySem.W.Frag) : V → Option Int → Option Int → Hp → VK → Prop := fun x lo hi H Q => ∃ a xs, x = .ref a ∧ SqT K H a xs ∧
  ¬ (HT.sIx xs.length 0 lo = 0 ∧ HT.sIx xs.length xs.length hi = xs.length) ∧ ∀ p, H p = none → Q (.ref p) (upd H p (.tup (cutV xs lo hi)))
theorem sl_tup : SlR X (rSlT X.K) := by
  intro pins s σ H x v vl vu lo hi sl Q I rx hs pl pu h
  obtain ⟨a, xs, rfl, hx, hw, q⟩ := h
  cases rx
  obtain ⟨its, r, ht, hz⟩ := I.tuple hx
  have hlen : its.toArray.size = xs.length := by rw [List.size_toArray]; exact r.length.symm
  refine ⟨"tuple", _, PyProof.Rows.slot_tuple_getitem.lookup, ht.typeIs, ?_⟩
  refine HT.getItem_tuple_cut ht hs pl pu (by rw [hlen]; exact hw) ?_ (by rw [hlen]; exact hz)
  rw [hlen]
  refine ⟨.ref s.heap.objs.size, _, I.laid (t' := s.toks) (o := .tup (cutV xs lo hi)) (fun b ob q => Heap.get?_push_of_some _ q) (Nat.le_refl _) ?_, rfl, q _ (I.hok.fresh (Nat.le_refl _))⟩
  exact ⟨Nat.le_trans (cutV_length xs lo hi) hz, _, (r.drop (HT.sIx xs.length 0 lo)).take (HT.sIx xs.length xs.length hi - HT.sIx xs.length 0 lo), IsTupN.new _ _⟩
noncomputable def rCatT (K : PySem.W.Frag) : R2 := fun x y H Q => ∃ a b xs ys, x = .ref a ∧ y = .ref b ∧ SqT K H a xs ∧ SqT K H b ys ∧ xs ≠ [] ∧ xs.length + ys.length ≤ sizeLine ∧
  (ys = [] → Q (.ref a) H) ∧ (ys ≠ [] → ∀ p, H p = none → Q (.ref p) (upd H p (.tup (xs ++ ys))))
theorem Vals.nil_iff {xs : List V} {us : List Value} (r : Vals xs us) : us = [] ↔ xs = [] := by
  cases r with
  | nil => simp
  | cons _ _ => simp
theorem op_catT : OpR X (binaryOp .Add) (rCatT X.K) := by
  intro pins s σ H x y v u Q I rx ry h
  obtain ⟨a, b, xs, ys, rfl, rfl, ha, hb, hx, hz, q1, q2⟩ := h
  cases rx
  cases ry
  obtain ⟨its, r1, p1, _⟩ := I.tuple ha
  obtain ⟨its2, r2, p2, _⟩ := I.tuple hb
  refine HT.cat_tup p1 p2 (fun z => hx (r1.nil_iff.mp z)) (fun z => ⟨.ref a, H, I, rfl, q1 (r2.nil_iff.mp z)⟩) (fun z => ?_) (by rw [← r1.length, ← r2.length]; exact hz)
  refine ⟨.ref s.heap.objs.size, _, I.laid (t' := s.toks) (o := .tup (xs ++ ys)) (fun b ob q => Heap.get?_push_of_some _ q) (Nat.le_refl _) ?_, rfl, q2 (fun w => z (r2.nil_iff.mpr w)) _ (I.hok.fresh (Nat.le_refl _))⟩
  exact ⟨by rw [List.length_append]; exact hz, _, r1.append r2, IsTupN.new _ _⟩
end
end L2
namespace L2
open PySem PySem.Spec PyProof.Rows
noncomputable def ixN (n : Nat) (i : Int) : Option Nat := if 0 ≤ i then (if i < n then some i.toNat else none) else if -(n : Int) ≤ i then some (i + n).toNat else none
noncomputable def atI {α : Type} (xs : List α) (i : Int) : Option α := (ixN xs.length i).bind fun j => xs[j]?
theorem ixN_seq {n : Nat} {i : Int} {j : Nat} (h : ixN n i = some j) : seqIndex? i n = some j ∧ j < n ∧ -(n : Int) ≤ i ∧ i < n := by
  unfold ixN at h
  by_cases h0 : 0 ≤ i
  · rw [if_pos h0] at h
    by_cases h1 : i < n
    · rw [if_pos h1] at h
      have e : i.toNat = j := Option.some.inj h
      exact ⟨by rw [seqIndex_of h0 h1, e], by omega, by omega, h1⟩
    · rw [if_neg h1] at h; cases h
  · rw [if_neg h0] at h
    by_cases h1 : -(n : Int) ≤ i
    · rw [if_pos h1] at h
      have e : (i + n).toNat = j := Option.some.inj h
      exact ⟨by rw [seqIndex_neg (by omega) h1, e], by omega, h1, by omega⟩
    · rw [if_neg h1] at h; cases h
theorem atI_get {α : Type} {xs : List α} {i : Int} {v : α} (h : atI xs i = some v) : ∃ j, seqIndex? i xs.length = some j ∧ xs[j]? = some v ∧ j < xs.length ∧ -(xs.length : Int) ≤ i ∧ i < xs.length := by
  unfold atI at h
  cases e : ixN xs.length i with
  | none => rw [e] at h; cases h
  | some j =>
    rw [e] at h
    obtain ⟨h1, h2, h3, h4⟩ := ixN_seq e
    exact ⟨j, h1, h, h2, h3, h4⟩
theorem atI_nat {α : Type} {xs : List α} {j : Nat} {v : α} (h : xs[j]? = some v) : atI xs (j : Int) = some v := by
  have hj : j < xs.length := (List.getElem?_eq_some_iff.mp h).1
  have e : ixN xs.length (j : Int) = some j := by
    unfold ixN
    rw [if_pos (by omega), if_pos (by omega)]; simp
  unfold atI; rw [e]; exact h
noncomputable def PlainIx (b : Expr) : Prop := ∀ o i, subscripted b false o i = operate [o, i] (getItem o i)
noncomputable def IxR (X : Cx) (r : R2) : Prop :=
  ∀ (value slice : Expr) (pins : List (Addr × Obj)) (s : Shared) (σ : St) (H : Hp) (x y : V) (v u : Value) (Q : VK), Inv X pins σ H s → RelV x v → RelV y u → r x y H Q →
    subscripted slice false v u = operate [v, u] (getItem v u) → wpAny (model X.prog X.w) X.A (subscriptTail value slice v u) (EP X pins σ Q) X.xe s
noncomputable def MtR (X : Cx) (id : String) (r : V → List V → Hp → VK → Prop) : Prop :=
  ∀ (pins : List (Addr × Obj)) (s : Shared) (σ : St) (H : Hp) (x : V) (xs : List V) (v : Value) (us : List Value) (Q : VK), Inv X pins σ H s → RelV x v → Vals xs us → r x xs H Q →
    wpAny (model X.prog X.w) X.A (call (.builtin id) (v :: us)) (EP X pins σ Q) X.xe s
section
variable {X : Cx} {a b : Expr} {ta tb : TE} {pos : Pos}
theorem pe_ix {r : R2} (hr : IxR X r) (ha : PE X a ta) (hb : PE X b tb) (hs : PlainIx b) : PE X (.Subscript a b pos) (tOp r ta tb) := by
  intro pins s σ H Q I h
  exact Subscript_ (binT ha hb I h fun v u s2 x y H2 I2 rx ry q => hr a b pins s2 σ H2 x y v u Q I2 rx ry q (hs _ _))
noncomputable def rIxL (K : PySem.W.Frag) : R2 := fun x y H Q => ∃ p xs i v, x = .ref p ∧ y = .int i ∧ SqL K H p xs ∧ atI xs i = some v ∧ Q v H
noncomputable def rIxT (K : PySem.W.Frag) : R2 := fun x y H Q => ∃ p xs i v, x = .ref p ∧ y = .int i ∧ SqT K H p xs ∧ atI xs i = some v ∧ Q v H
noncomputable def rIxS : R2 := fun x y H Q => ∃ z i c, x = .str z ∧ y = .int i ∧ z.length ≤ sizeLine ∧ atI z.cps.toList i = some c ∧ Q (.str ⟨#[c]⟩) H
theorem ix_list : IxR X (rIxL X.K) := by
  intro value slice pins s σ H x y v u Q I rx ry h hs
  obtain ⟨p, xs, i, z, rfl, rfl, hq, he, q⟩ := h
  cases rx
  obtain ⟨t, rfl⟩ := ry
  obtain ⟨its, r, pl, hz⟩ := I.list hq
  obtain ⟨j, h1, h2, h3, h4, h5⟩ := atI_get he
  obtain ⟨w, ew, rw'⟩ := r.get h2
  have hl := r.length
  have hn := line63
  have fin : EP X pins σ Q w s := ⟨z, H, I, rw', q⟩
  by_cases h0 : 0 ≤ i
  · have hj : i.toNat = j := by
      rw [seqIndex_of h0 h5] at h1
      exact Option.some.inj h1
    exact item_listR pl.isList h0 (by omega) (by rw [hj]; simpa using ew) fin hs
  · have hj : (i + (its.toArray.size : Int)).toNat = j := by
      rw [seqIndex_neg (by omega) h4] at h1
      rw [List.size_toArray, ← hl]
      exact Option.some.inj h1
    exact subscriptTail_builtinR (x := w) pl.isList.typeIs slot_list_getitem.lookup
      (wpAny_getItem_list_neg (Q := fun r s' => r = w ∧ EP X pins σ Q r s') pl.isList (by omega) (by rw [List.size_toArray] <;> omega) (by omega) (by rw [hj]; simpa using ew) ⟨rfl, fin⟩) hs
theorem ix_tup : IxR X (rIxT X.K) := by
  intro value slice pins s σ H x y v u Q I rx ry h hs
  obtain ⟨p, xs, i, z, rfl, rfl, hq, he, q⟩ := h
  cases rx
  obtain ⟨t, rfl⟩ := ry
  obtain ⟨its, r, pl, hz⟩ := I.tuple hq
  obtain ⟨j, h1, h2, h3, h4, h5⟩ := atI_get he
  obtain ⟨w, ew, rw'⟩ := r.get h2
  have hl := r.length
  have hn := line63
  have fin : EP X pins σ Q w s := ⟨z, H, I, rw', q⟩
  exact subscriptTail_builtinR (x := w) pl.typeIs slot_tuple_getitem.lookup
    (getItem_tuple (j := j) (Q := fun r s' => r = w ∧ EP X pins σ Q r s') pl (by omega) (by omega) (by rw [List.size_toArray, ← hl]; exact h1) (by simpa using ew) ⟨rfl, fin⟩) hs
theorem ix_str : IxR X rIxS := by
  intro value slice pins s σ H x y v u Q I rx ry h hs
  obtain ⟨z, i, c, rfl, rfl, hz, he, q⟩ := h
  obtain ⟨t, rfl⟩ := rx
  obtain ⟨t', rfl⟩ := ry
  obtain ⟨j, h1, h2, h3, h4, h5⟩ := atI_get he
  have hl : z.cps.toList.length = z.length := by simp [Str.length]
  rw [hl] at h1 h4 h5
  have hn := line63
  exact tail_any (typeIs_str s z t) slot_str_getitem.lookup (getItem_str (c := c) (by
    have e1 : decide (i < -(2 ^ 63 : Int)) = false := decide_eq_false (by omega)
    have e2 : decide (i ≥ 2 ^ 63) = false := decide_eq_false (by omega)
    rw [e1, e2, Bool.or_false]) (by rw [h1]; simpa using h2) ⟨.str ⟨#[c]⟩, H, I.tok _, ⟨_, rfl⟩, q⟩) hs
theorem mapSeq_set (its : List Value) (n j : Nat) (u : Value) : Obj.mapSeq (·.setIfInBounds j u) { cls := .type "list", data := .seq its.toArray n } = { cls := .type "list", data := .seq (its.set j u).toArray n } := by
  simp [Obj.mapSeq]
theorem Inv.lst {pins : List (Addr × Obj)} {σ : St} {H : Hp} {s : Shared} {p : Addr} {xs : List V} (I : Inv X pins σ H s) (h : H p = some (.lst xs)) :
    ∃ (its : List Value) (n : Nat), Vals xs its ∧ s.heap.get? p = some { cls := .type "list", data := .seq its.toArray n } ∧ xs.length ≤ sizeLine := by
  obtain ⟨z, its, n, r, e⟩ := I.hok p _ h
  exact ⟨its, n, r, e, z⟩
theorem Inv.lstUpd {pins : List (Addr × Obj)} {σ : St} {H : Hp} {s : Shared} {p : Addr} {xs ys : List V} {its its' : List Value} {n n' : Nat} {f : Obj → Obj} (I : Inv X pins σ H s) (h : H p = some (.lst xs))
    (ho : s.heap.get? p = some { cls := .type "list", data := .seq its.toArray n }) (hf : f { cls := .type "list", data := .seq its.toArray n } = { cls := .type "list", data := .seq its'.toArray n' }) (r : Vals ys its') (hz : ys.length ≤ sizeLine) (t : Nat) :
    Inv X pins σ (upd H p (.lst ys)) { s with heap := s.heap.update p f, toks := t } := by
  have e : (s.heap.update p f).get? p = some { cls := .type "list", data := .seq its'.toArray n' } := by
    rw [Heap.get?_update_self f ho (by rw [hf] <;> rfl), hf]
  refine I.write (x := p) (e := p) (by rw [h]; trivial) (.inl rfl) (fun b u hb q => (Heap.get?_update_other _ _ (Ne.symm hb)).trans q) ⟨_, e⟩ ?_
  exact ⟨hz, its', n', r, e⟩
noncomputable def rSetL : V → V → V → Hp → (Hp → Prop) → Prop := fun o i v H Q => ∃ p xs k j, o = .ref p ∧ i = .int k ∧ H p = some (.lst xs) ∧ ixN xs.length k = some j ∧ Q (upd H p (.lst (xs.set j v)))
theorem set_list : PSet X rSetL := by
  intro pins s σ H o i v ov iv u Q I ro ri rv h
  obtain ⟨p, xs, k, j, rfl, rfl, hp, hj, q⟩ := h
  cases ro
  obtain ⟨t, rfl⟩ := ri
  obtain ⟨its, n, r, ho, hz⟩ := I.lst hp
  obtain ⟨h1, h2, h3, h4⟩ := ixN_seq hj
  have hl := r.length
  have hn := line63
  have I' : Inv X pins σ (upd H p (.lst (xs.set j v))) { s with heap := s.heap.update p (Obj.mapSeq (·.setIfInBounds j u)) } :=
    I.lstUpd hp ho (mapSeq_set its n j u) (r.set rv j) (by rw [List.length_set]; exact hz) s.toks
  by_cases h0 : 0 ≤ k
  · have hk : k.toNat = j := by
      rw [seqIndex_of h0 h4] at h1
      exact Option.some.inj h1
    exact PySem.W.ki_setAt ho h0 (by omega) (by rw [List.size_toArray, ← hl]; exact h4) (by rw [hk]; exact ⟨_, I', q⟩)
  · have hk : (k + (its.toArray.size : Int)).toNat = j := by
      rw [seqIndex_neg (by omega) h3] at h1
      rw [List.size_toArray, ← hl]
      exact Option.some.inj h1
    exact PySem.W.ki_setBack ho (by omega) (by rw [List.size_toArray, ← hl]; exact h3) (by omega) (by rw [hk]; exact ⟨_, I', q⟩)
theorem slice_bounds (lo hi : Option Int) (n : Nat) : (sliceBounds lo hi none n).1 = ((HT.sIx n 0 lo : Nat) : Int) ∧ (sliceBounds lo hi none n).2.1 = ((HT.sIx n n hi : Nat) : Int) ∧ (sliceBounds lo hi none n).2.2 = 1 := by
  refine ⟨?_, ?_, rfl⟩
  · cases lo with
    | none => simp [sliceBounds, HT.sIx]
    | some i =>
      simp only [sliceBounds, HT.sIx, Option.getD_none, show (1 : Int) > 0 by decide, if_true]
      by_cases h : i < 0
      · simp only [h, if_true] <;> omega
      · simp only [h, if_false] <;> omega
  · cases hi with
    | none => simp [sliceBounds, HT.sIx]
    | some i =>
      simp only [sliceBounds, HT.sIx, Option.getD_none, show (1 : Int) > 0 by decide, if_true]
      by_cases h : i < 0
      · simp only [h, if_true] <;> omega
      · simp only [h, if_false] <;> omega
theorem slicePick_cut (its : List Value) (lo hi : Option Int) : slicePick its.toArray lo hi none = ((its.drop (HT.sIx its.length 0 lo)).take (HT.sIx its.length its.length hi - HT.sIx its.length 0 lo)).toArray := by
  obtain ⟨h1, h2, h3⟩ := slice_bounds lo hi its.toArray.size
  unfold slicePick
  rw [h1, h2, h3]
  simp only [sliceRange_one, pick_run, List.size_toArray] <;> rfl
noncomputable def rSlL (K : PySem.W.Frag) : V → Option Int → Option Int → Hp → VK → Prop := fun x lo hi H Q => ∃ a xs, x = .ref a ∧ SqL K H a xs ∧ ∀ p, H p = none → Q (.ref p) (upd H p (.lst (cutV xs lo hi)))
theorem sl_list : SlR X (rSlL X.K) := by
  intro pins s σ H x v vl vu lo hi sl Q I rx hs pl pu h
  obtain ⟨a, xs, rfl, hx, q⟩ := h
  cases rx
  obtain ⟨its, r, ht, hz⟩ := I.list hx
  have hlen := r.length
  refine ⟨"list", _, slot_list_getitem.lookup, ht.isList.typeIs, ?_⟩
  refine wpAny_getItem_list_slice ht.isList hs pl pu .none (by simp) ?_ (by rw [List.size_toArray] <;> omega)
  rw [slicePick_cut, ← hlen]
  refine ⟨.ref s.heap.objs.size, _, I.laid (t' := s.toks) (o := .lst (cutV xs lo hi)) (fun b ob q => Heap.get?_push_of_some _ q) (Nat.le_refl _) ?_, rfl, q _ (I.hok.fresh (Nat.le_refl _))⟩
  exact ⟨Nat.le_trans (cutV_length xs lo hi) hz, _, 0, (r.drop (HT.sIx xs.length 0 lo)).take (HT.sIx xs.length xs.length hi - HT.sIx xs.length 0 lo), Heap.get?_push_size _ rfl⟩
noncomputable def flatV : V → Bool
  | .non => true
  | .bl _ => true
  | .int _ => true
  | .str _ => true
  | _ => false
noncomputable def eqV : V → V → Bool
  | .non, .non => true
  | .bl a, .bl b => a == b
  | .bl a, .int b => (if a then 1 else 0) == b
  | .int a, .bl b => a == (if b then 1 else 0)
  | .int a, .int b => a == b
  | .str a, .str b => a == b
  | _, _ => false
theorem eqAt_V {A : Around} {s : Shared} {y x : V} {u v : Value} (ry : RelV y u) (rx : RelV x v) (fy : flatV y = true) (fx : flatV x = true) : SeqAt.EqAt A s u v (eqV y x) := by
  cases y with
  | non =>
    cases ry
    cases x with
    | non => cases rx; exact SeqAt.EqAt.same _
    | bl b => cases rx; exact SeqAt.EqAt.none_bool b
    | int b => obtain ⟨t, rfl⟩ := rx; exact SeqAt.EqAt.none_int b t
    | str b => obtain ⟨t, rfl⟩ := rx; exact SeqAt.EqAt.none_str b t
    | _ => exact absurd (show false = true from fx) Bool.false_ne_true
  | bl a =>
    cases ry
    cases x with
    | non => cases rx; exact SeqAt.EqAt.bool_none a
    | bl b => cases rx; exact SeqAt.EqAt.bool_bool a b
    | int b => obtain ⟨t, rfl⟩ := rx; exact SeqAt.EqAt.bool_int a b t
    | str b => obtain ⟨t, rfl⟩ := rx; exact SeqAt.EqAt.bool_str a b t
    | _ => exact absurd (show false = true from fx) Bool.false_ne_true
  | int a =>
    obtain ⟨t', rfl⟩ := ry
    cases x with
    | non => cases rx; exact SeqAt.EqAt.int_none a t'
    | bl b => cases rx; exact SeqAt.EqAt.int_bool a t' b
    | int b => obtain ⟨t, rfl⟩ := rx; exact SeqAt.EqAt.int_int a t' b t
    | str b => obtain ⟨t, rfl⟩ := rx; exact SeqAt.EqAt.int_str a t' b t
    | _ => exact absurd (show false = true from fx) Bool.false_ne_true
  | str a =>
    obtain ⟨t', rfl⟩ := ry
    cases x with
    | non => cases rx; exact SeqAt.EqAt.str_none a t'
    | bl b => cases rx; exact SeqAt.EqAt.str_bool a t' b
    | int b => obtain ⟨t, rfl⟩ := rx; exact SeqAt.EqAt.str_int a t' b t
    | str b => obtain ⟨t, rfl⟩ := rx; exact SeqAt.EqAt.str_str a t' b t
    | _ => exact absurd (show false = true from fx) Bool.false_ne_true
  | _ => exact absurd (show false = true from fy) Bool.false_ne_true
noncomputable def eqU (x : V) (u : Value) : Bool := match u with
  | .none => eqV .non x
  | .bool b => eqV (.bl b) x
  | .int i _ => eqV (.int i) x
  | .str z _ => eqV (.str z) x
  | _ => false
theorem eqU_of {x y : V} {u : Value} (r : RelV y u) (f : flatV y = true) : eqU x u = eqV y x := by
  cases y with
  | non => cases r; rfl
  | bl b => cases r; rfl
  | int i => obtain ⟨t, rfl⟩ := r; rfl
  | str z => obtain ⟨t, rfl⟩ := r; rfl
  | _ => exact absurd (show false = true from f) Bool.false_ne_true
theorem any_eqU {x : V} : ∀ {xs : List V} {us : List Value}, Vals xs us → xs.all flatV = true → us.any (eqU x) = xs.any fun y => eqV y x
  | _, _, .nil, _ => rfl
  | y :: xs, u :: us, .cons r t, f => by
    rw [List.all_cons, Bool.and_eq_true] at f
    rw [List.any_cons, List.any_cons, eqU_of r f.1, any_eqU t f.2]
theorem mem_eqAt {A : Around} {s : Shared} {x : V} {v : Value} (rx : RelV x v) (fx : flatV x = true) : ∀ {xs : List V} {us : List Value}, Vals xs us → xs.all flatV = true → ∀ u ∈ us, SeqAt.EqAt A s u v (eqU x u)
  | _, _, .nil, _ => fun u hu => by cases hu
  | y :: xs, u :: us, .cons r t, f => fun u' hu => by
    rw [List.all_cons, Bool.and_eq_true] at f
    rcases List.mem_cons.mp hu with rfl | hu
    · rw [eqU_of r f.1]; exact eqAt_V r rx f.1 fx
    · exact mem_eqAt rx fx t f.2 u' hu
noncomputable def inV (x : V) (xs : List V) : Bool := xs.any fun y => eqV y x
noncomputable def rIn (K : PySem.W.Frag) (neg : Bool) : R2 := fun x y H Q => ∃ p xs, y = .ref p ∧ (SqL K H p xs ∨ SqT K H p xs) ∧ flatV x = true ∧ xs.all flatV = true ∧ Q (.bl (if neg then !inV x xs else inV x xs)) H
theorem op_in_seq : OpR X (compareOp .In) (rIn X.K false) := by
  intro pins s σ H x y v u Q I rx ry h
  obtain ⟨p, xs, rfl, hq, fx, fs, q⟩ := h
  cases ry
  rcases hq with hq | hq
  · obtain ⟨its, r, pl, hz⟩ := I.list hq
    refine SeqAt.in_listAt (eqU x) pl.isList (fun w hw => mem_eqAt rx fx r fs w (by simpa using hw)) ⟨.bl _, H, I, rfl, ?_⟩
    rw [show its.toArray.any (eqU x) = its.any (eqU x) by simp, any_eqU r fs]
    exact q
  · obtain ⟨its, r, pl, hz⟩ := I.tuple hq
    refine SeqAt.in_tupleAt (eqU x) pl (fun w hw => mem_eqAt rx fx r fs w (by simpa using hw)) ⟨.bl _, H, I, rfl, ?_⟩
    rw [show its.toArray.any (eqU x) = its.any (eqU x) by simp, any_eqU r fs]
    exact q
theorem op_notIn_seq : OpR X (compareOp .NotIn) (rIn X.K true) := by
  intro pins s σ H x y v u Q I rx ry h
  obtain ⟨p, xs, rfl, hq, fx, fs, q⟩ := h
  cases ry
  rcases hq with hq | hq
  · obtain ⟨its, r, pl, hz⟩ := I.list hq
    refine SeqAt.notIn_listAt (eqU x) pl.isList (fun w hw => mem_eqAt rx fx r fs w (by simpa using hw)) ⟨.bl _, H, I, rfl, ?_⟩
    rw [show its.toArray.any (eqU x) = its.any (eqU x) by simp, any_eqU r fs]
    exact q
  · obtain ⟨its, r, pl, hz⟩ := I.tuple hq
    refine SeqAt.notIn_tupleAt (eqU x) pl (fun w hw => mem_eqAt rx fx r fs w (by simpa using hw)) ⟨.bl _, H, I, rfl, ?_⟩
    rw [show its.toArray.any (eqU x) = its.any (eqU x) by simp, any_eqU r fs]
    exact q
theorem call_len_seq : CallR X (.builtin "len") (fun xs H Q => ∃ p ys, xs = [.ref p] ∧ (SqL X.K H p ys ∨ SqT X.K H p ys) ∧ Q (.int ys.length) H) := by
  intro pins s σ H xs us Q I r h
  obtain ⟨p, ys, rfl, hq, q⟩ := h
  obtain ⟨u, rfl, rx⟩ := vals1 r
  cases rx
  have hn := line63
  rcases hq with hq | hq
  · obtain ⟨its, r', pl, hz⟩ := I.list hq
    have hlen := r'.length
    exact Calls.call_len_list pl.isList (by simp only [List.size_toArray] <;> omega) ⟨.int ys.length, H, I.tok _, ⟨s.toks + 1, by rw [List.size_toArray, hlen]⟩, q⟩
  · obtain ⟨its, r', pl, hz⟩ := I.tuple hq
    have hlen := r'.length
    exact len_tuple pl (by simp only [List.size_toArray] <;> omega) ⟨.int ys.length, H, I.tok _, ⟨s.toks + 1, by rw [List.size_toArray, hlen]⟩, q⟩
theorem call_len_str : CallR X (.builtin "len") (fun xs H Q => ∃ z, xs = [.str z] ∧ z.length ≤ sizeLine ∧ Q (.int z.length) H) := by
  intro pins s σ H xs us Q I r h
  obtain ⟨z, rfl, hz, q⟩ := h
  obtain ⟨u, rfl, t, rfl⟩ := vals1 r
  have hn := line63
  exact len_str (by omega) ⟨.int z.length, H, I.tok _, ⟨_, rfl⟩, q⟩
theorem call_list_of : CallR X (.type "list") (fun xs H Q => ∃ p ys, xs = [.ref p] ∧ (SqL X.K H p ys ∨ SqT X.K H p ys) ∧ ∀ l, H l = none → Q (.ref l) (upd H l (.lst ys))) := by
  intro pins s σ H xs us Q I r h
  obtain ⟨p, ys, rfl, hq, q⟩ := h
  obtain ⟨u, rfl, rx⟩ := vals1 r
  cases rx
  have fin : ∀ (its : List Value), Vals ys its → ys.length ≤ sizeLine → ∀ (h' : Heap) (c' : Nat), (∀ b o', s.heap.get? b = some o' → h'.get? b = some o') →
      h'.get? s.heap.objs.size = some { cls := .type "list", dict := none, data := .seq its.toArray c', slots := #[] } → EP X pins σ Q (.ref s.heap.objs.size) { s with heap := h' } := fun its r' hz h' c' kp e =>
    ⟨.ref s.heap.objs.size, _, I.laid (t' := s.toks) kp (Nat.le_refl _) (show ObjOk X.prog X.w _ h' _ (.lst ys) from ⟨hz, its, c', r', e⟩), rfl, q _ (I.hok.fresh (Nat.le_refl _))⟩
  rcases hq with hq | hq
  · obtain ⟨its, r', pl, hz⟩ := I.list hq
    have hlen := r'.length
    obtain ⟨o, ho, hc, n, hd⟩ := pl.isList
    exact call_list_seq p (.inl rfl) ho hc hd (fun h' c' kp e => fin its r' hz h' c' kp e) (by simp only [List.size_toArray] <;> omega)
  · obtain ⟨its, r', pl, hz⟩ := I.tuple hq
    have hlen := r'.length
    obtain ⟨o, ho, hc, n, hd⟩ := pl
    exact call_list_seq p (.inr rfl) ho hc hd (fun h' c' kp e => fin its r' hz h' c' kp e) (by simp only [List.size_toArray] <;> omega)
theorem call_tuple_of : CallR X (.type "tuple") (fun xs H Q => ∃ p ys, xs = [.ref p] ∧ ((SqL X.K H p ys ∧ ∀ l, H l = none → Q (.ref l) (upd H l (.tup ys))) ∨ (SqT X.K H p ys ∧ Q (.ref p) H))) := by
  intro pins s σ H xs us Q I r h
  obtain ⟨p, ys, rfl, h⟩ := h
  obtain ⟨u, rfl, rx⟩ := vals1 r
  cases rx
  rcases h with ⟨hq, q⟩ | ⟨hq, q⟩
  · obtain ⟨its, r', pl, hz⟩ := I.list hq
    have hlen := r'.length
    refine call_tuple_list pl.isList (fun h' kp => ?_) (by simp only [List.size_toArray] <;> omega)
    have I1 : Inv X pins σ H { s with heap := h' } := I.kept (t' := s.toks) kp
    have I2 : Inv X pins σ (upd H h'.objs.size (.tup ys)) { s with heap := h'.push { cls := .type "tuple", data := .seq its.toArray } } :=
      I1.laid (t' := s.toks) (fun b o e => Heap.get?_push_of_some _ e) (Nat.le_refl _) (show ObjOk X.prog X.w _ _ _ (.tup ys) from ⟨hz, its, r', IsTupN.new _ _⟩)
    exact ⟨.ref h'.objs.size, _, I2, rfl, q _ (I1.hok.fresh (Nat.le_refl _))⟩
  · obtain ⟨its, r', pl, hz⟩ := I.tuple hq
    exact call_tuple_same pl ⟨.ref p, H, I, rfl, q⟩
noncomputable def tyV (K : PySem.W.Frag) (T : String) (x : V) (H : Hp) : Prop := match x with
  | .str _ => T = "str"
  | .int _ => T = "int"
  | .ref p => (T = "list" ∧ ∃ xs, SqL K H p xs) ∨ (T = "tuple" ∧ ∃ o, K.lookup p = some o ∧ o.cls = .type "tuple" ∧ o.dict = none) ∨
      (T = "dict" ∧ ((∃ kvs, H p = some (.dK kvs)) ∨ ∃ kvs, H p = some (.dT kvs))) ∨ (T = "set" ∧ ∃ S n, H p = some (.set S n))
  | _ => False
theorem tyV_is {pins : List (Addr × Obj)} {σ : St} {H : Hp} {s : Shared} {T : String} {x : V} {v : Value} (I : Inv X pins σ H s) (r : RelV x v) (ty : tyV X.K T x H) :
    s.TypeIs v T ∧ ∀ a, v = .ref a → ∃ ob, s.heap.get? a = some ob ∧ ob.dict = none := by
  cases x with
  | str z =>
    obtain ⟨t, rfl⟩ := r
    cases (show T = "str" from ty)
    exact ⟨typeIs_str s z t, fun _ e => nomatch e⟩
  | int i =>
    obtain ⟨t, rfl⟩ := r
    cases (show T = "int" from ty)
    exact ⟨typeIs_int s i t, fun _ e => nomatch e⟩
  | ref p =>
    cases r
    rcases ty with ⟨rfl, xs, hq⟩ | ⟨rfl, o, hk, hc, hd⟩ | ⟨rfl, hk⟩ | ⟨rfl, S, n, hk⟩
    · obtain ⟨its, _, pl, _⟩ := I.list hq
      refine ⟨pl.isList.typeIs, fun a e => ?_⟩
      cases e
      obtain ⟨o, n, e, c, hd, _⟩ := pl
      exact ⟨o, e, hd⟩
    · refine ⟨⟨o, I.kIn p o hk, hc⟩, fun a e => ?_⟩
      cases e
      exact ⟨o, I.kIn _ o hk, hd⟩
    · have z : ∃ o, s.heap.get? p = some o ∧ o.ExactDict := by
        rcases hk with ⟨kvs, hk⟩ | ⟨kvs, hk⟩
        · obtain ⟨_, _, _, _, o, _, _, e, ex, _⟩ := I.hok p _ hk
          exact ⟨o, e, ex⟩
        · obtain ⟨_, _, _, _, o, _, _, e, ex, _⟩ := I.hok p _ hk
          exact ⟨o, e, ex⟩
      obtain ⟨o, e, ex⟩ := z
      refine ⟨⟨o, e, ex.1⟩, fun a e2 => ?_⟩
      cases e2
      exact ⟨o, e, ex.2.1⟩
    · obtain ⟨o, _, _, _, e, ex, _⟩ := I.hok p _ hk
      refine ⟨⟨o, e, ex.1⟩, fun a e2 => ?_⟩
      cases e2
      exact ⟨o, e, ex.2.1⟩
  | _ => exact False.elim ty
noncomputable def tBM (K : PySem.W.Frag) (T : String) (r : V → List V → Hp → VK → Prop) (to : TE) (t : TA) : TE := fun σ H Q => to σ H fun x H1 => tyV K T x H1 ∧ t σ H1 fun xs H2 => r x xs H2 Q
variable {o e : Expr} {es : List Expr} {to : TE} {t : TA} {name : Str} {apos cpos : Pos} {T id : String} {r : V → List V → Hp → VK → Prop}
theorem pe_bm (pa : PlainAttrs T) (slot : Slot T name id) (hty : typeOf (.builtin id) = pure (.type "method_descriptor")) (hm : MtR X id r) (ho : PE X o to) (ha : PA X (e :: es) t)
    (hbase : attributeBase o name X.env (eval o X.env) = eval o X.env := by rfl)
    (hfew : ((backTo cpos (starEach (e :: es) X.env)).all (fun x => !x.1) && (backToKw cpos (keywordEach [] X.env)).all (fun x => x.1.isSome)
      && decide ((e :: es).length + ([] : List Keyword).length + (if ([] : List Keyword).isEmpty then 0 else 1) < 30)) = true := by rfl)
    (hline : (apos.endLine == cpos.line) = true := by rfl) (hs : starEach (e :: es) X.env = (false, eval e X.env) :: starEach es X.env := by rfl) (hplain : (backTo cpos (starEach es X.env)).any (·.1) = false := by rfl) :
    PE X (.Call (.Attribute o name apos) (e :: es) [] cpos) (tBM X.K T r to t) := by
  intro pins s σ H Q I h
  refine wpAny_Call_method_late hbase hfew hline rfl (thn (ho pins s σ H _ I h) fun v s1 ⟨x, H1, I1, r1, ty, q1⟩ => ?_)
  obtain ⟨h1, h2⟩ := tyV_is I1 r1 ty
  refine ⟨T, id, pa, slot, hty, h1, h2, ?_⟩
  have hA := ha cpos pins s1 σ H1 _ I1 q1
  rw [hs] at hA ⊢
  refine Calls.callWith_builtin (by show (false || (backTo cpos (starEach es X.env)).any (·.1)) = false; rw [hplain] <;> rfl) (Calls.evalArgs_plain ?_)
  exact thn hA fun us s2 ⟨vs, H2, I2, r2, q2⟩ => hm pins s2 σ H2 x vs v us Q I2 r1 r2 q2
/- xs.append(e), list.index on a module's tuple .. are MtR facts of 06m -/
end
end L2
namespace L2
open PySem PySem.Spec PyProof.Rows
noncomputable def MtM (X : Cx) (id : String) (r : V → List V → Hp → VK → Prop) : Prop :=
  ∀ (pins : List (Addr × Obj)) (s : Shared) (σ : St) (H : Hp) (x : V) (xs : List V) (v : Value) (us : List Value) (Q : VK), Inv X pins σ H s → RelV x v → Vals xs us → r x xs H Q →
    wpAny (model X.prog X.w) X.A (call (.builtin id) (v :: us)) (EP X pins σ Q) X.xe s
theorem Vals.one : ∀ {x : V} {us : List Value}, Vals [x] us → ∃ u, us = [u] ∧ RelV x u
  | _, _, .cons r .nil => ⟨_, rfl, r⟩
theorem Vals.eraseIdx : ∀ {xs : List V} {us : List Value} (i : Nat), Vals xs us → Vals (xs.eraseIdx i) (us.eraseIdx i)
  | _, _, _, .nil => .nil
  | _, _, 0, .cons _ t => t
  | _, _, i + 1, .cons r t => .cons r (Vals.eraseIdx i t)
theorem len_erase {α : Type} : ∀ (l : List α) (i : Nat), (l.eraseIdx i).length ≤ l.length
  | [], _ => Nat.le_refl _
  | _ :: _, 0 => Nat.le_succ _
  | _ :: r, i + 1 => Nat.succ_le_succ (len_erase r i)
section
variable {X : Cx} {pins : List (Addr × Obj)} {σ : St} {H : Hp} {s : Shared} {l b : Addr} {xs ys zs : List V}
theorem Inv.lset {its its' : List Value} {n : Nat} {f : Array Value → Array Value} {t' : Nat} (I : Inv X pins σ H s) (hH : H l = some (.lst xs))
    (e : s.heap.get? l = some { cls := .type "list", data := .seq its.toArray n }) (hf : f its.toArray = its'.toArray) (hv : Vals ys its') (hz : ys.length ≤ sizeLine) :
    Inv X pins σ (upd H l (.lst ys)) { s with heap := s.heap.update l (Obj.mapSeq f), toks := t' } := by
  have q := PySem.IsL.update e f
  rw [hf] at q
  refine I.write (x := l) (e := l) (by rw [hH]; exact trivial) (.inl rfl) (fun b' u hb hu => (Heap.get?_update_other s.heap (Obj.mapSeq f) (Ne.symm hb)).trans hu) ⟨_, q⟩ ?_
  exact ⟨hz, its', _, hv, q⟩
theorem Inv.lnew {its : List Value} {t' : Nat} (I : Inv X pins σ H s) (hv : Vals ys its) (hz : ys.length ≤ sizeLine) :
    Inv X pins σ (upd H s.heap.objs.size (.lst ys)) { s with heap := s.heap.push { cls := .type "list", data := .seq its.toArray }, toks := t' } :=
  I.laid (fun _ _ q => Heap.get?_push_of_some _ q) (Nat.le_refl _) ⟨hz, its, 0, hv, Heap.get?_push_size _ rfl⟩
theorem Inv.fresh (I : Inv X pins σ H s) : H s.heap.objs.size = none := I.hok.fresh (Nat.le_refl _)
theorem Inv.lstM (I : Inv X pins σ H s) (hH : H l = some (.lst xs)) : xs.length ≤ sizeLine ∧ ∃ (its : List Value) (n : Nat), Vals xs its ∧ xs.length = its.length ∧ s.heap.get? l = some { cls := .type "list", data := .seq its.toArray n } := by
  obtain ⟨z, its, n, r, e⟩ := I.hok l _ hH
  exact ⟨z, its, n, r, r.length, e⟩
theorem notLongL {n : Nat} (h : n ≤ sizeLine) : Builtin.List.listTooLong n = false := by
  unfold Builtin.List.listTooLong
  exact decide_eq_false (by omega)
end
section
variable {X : Cx}
noncomputable def rAppend : V → List V → Hp → VK → Prop := fun x vs H Q => ∃ l xs y, x = .ref l ∧ vs = [y] ∧ H l = some (.lst xs) ∧ xs.length < sizeLine ∧ Q .non (upd H l (.lst (xs ++ [y])))
theorem mt_append : MtM X "list.append" rAppend := by
  intro pins s σ H x vs v us Q I rx rv h
  obtain ⟨l, xs, y, rfl, rfl, hH, hz, q⟩ := h
  cases rx
  obtain ⟨u, rfl, ru⟩ := rv.one
  obtain ⟨z, its, n, r, hl, e⟩ := I.lstM hH
  refine call_meets F.slot_list_append ⟨_, e, rfl⟩ F.entry_list_append (F.args_list_append_2 _ _) (PySem.list_append l its.toArray n u (by rw [List.size_toArray]; omega)) ⟨e, ?_⟩
  refine ⟨.non, _, I.lset (its' := its ++ [u]) hH e (by simp) (r.append (.cons ru .nil)) ?_, rfl, q⟩
  rw [List.length_append, List.length_singleton]
  omega
noncomputable def rExtend : V → List V → Hp → VK → Prop := fun x vs H Q => ∃ l b xs zs, x = .ref l ∧ vs = [.ref b] ∧ H l = some (.lst xs) ∧ H b = some (.lst zs) ∧ xs.length + zs.length ≤ sizeLine ∧ Q .non (upd H l (.lst (xs ++ zs)))
theorem mt_extend : MtM X "list.extend" rExtend := by
  intro pins s σ H x vs v us Q I rx rv h
  obtain ⟨l, b, xs, zs, rfl, rfl, hH, hB, hz, q⟩ := h
  cases rx
  obtain ⟨u, rfl, ru⟩ := rv.one
  cases ru
  obtain ⟨z, its, n, r, hl, e⟩ := I.lstM hH
  obtain ⟨z2, its2, n2, r2, hl2, e2⟩ := I.lstM hB
  have hsz : its.toArray.size + its2.toArray.size ≤ sizeLine := by rw [List.size_toArray, List.size_toArray]; omega
  have hlong : ¬ (!its.toArray.isEmpty && Builtin.List.listTooLong (its.toArray.size + its2.toArray.size)) = true := by
    rw [notLongL hsz, Bool.and_false]
    exact Bool.false_ne_true
  refine call_meets F.slot_list_extend ⟨_, e, rfl⟩ F.entry_list_extend (F.args_list_extend_2 _ _)
    (AutoSeq1.list_extend_list_list_0 l its.toArray n b its2.toArray n2 hlong (by rw [List.size_toArray]; omega) (by omega)) ⟨e, e2, ?_⟩
  refine ⟨.non, _, I.lset (its' := its ++ its2) hH e (by simp) (r.append r2) ?_, rfl, q⟩
  rw [List.length_append]
  omega
noncomputable def rPopAt : V → List V → Hp → VK → Prop := fun x vs H Q => ∃ l xs i k y, x = .ref l ∧ vs = [.int i] ∧ H l = some (.lst xs) ∧ -(2 ^ 63) ≤ i ∧ i < 2 ^ 63 ∧ seqIndex? i xs.length = some k ∧ xs[k]? = some y ∧ Q y (upd H l (.lst (xs.eraseIdx k)))
theorem mt_popAt : MtM X "list.pop" rPopAt := by
  intro pins s σ H x vs v us Q I rx rv h
  obtain ⟨l, xs, i, k, y, rfl, rfl, hH, h1, h2, hk, hy, q⟩ := h
  cases rx
  obtain ⟨u, rfl, ru⟩ := rv.one
  obtain ⟨t, rfl⟩ := ru
  obtain ⟨z, its, n, r, hl, e⟩ := I.lstM hH
  obtain ⟨w, hw, rw'⟩ := r.get hy
  refine call_meets F.slot_list_pop ⟨_, e, rfl⟩ F.entry_list_pop (F.args_list_pop_2 _ _)
    (MeetsSeq.list_pop_at l its.toArray n i t k w (fitsIndex_both h1 h2) (by rw [List.size_toArray, ← hl]; exact hk) (by rw [← Array.getElem?_toList]; exact hw) (by rw [List.size_toArray]; omega)) ⟨e, ?_⟩
  refine ⟨y, _, I.lset (its' := its.eraseIdx k) hH e ?_ (r.eraseIdx k) ?_, rw', q⟩
  · show its.toArray.eraseIdxIfInBounds k = (its.eraseIdx k).toArray
    rw [List.eraseIdxIfInBounds_toArray]
  · have := len_erase xs k
    omega
noncomputable def rCat : R2 := fun x y H Q => ∃ l b xs zs, x = .ref l ∧ y = .ref b ∧ H l = some (.lst xs) ∧ H b = some (.lst zs) ∧ xs.length + zs.length ≤ sizeLine ∧ ∀ p, H p = none → Q (.ref p) (upd H p (.lst (xs ++ zs)))
theorem op_cat : OpR X (binaryOp .Add) rCat := by
  intro pins s σ H x y v u Q I rx ry h
  obtain ⟨l, b, xs, zs, rfl, rfl, hH, hB, hz, q⟩ := h
  cases rx
  cases ry
  obtain ⟨z, its, n, r, hl, e⟩ := I.lstM hH
  obtain ⟨z2, its2, n2, r2, hl2, e2⟩ := I.lstM hB
  refine PySem.P.add_list e e2 ?_ (by rw [List.size_toArray, List.size_toArray]; omega)
  have ea : its.toArray ++ its2.toArray = (its ++ its2).toArray := by simp
  rw [ea]
  exact ⟨.ref _, _, I.lnew (t' := s.toks) (r.append r2) (by rw [List.length_append]; omega), rfl, q _ I.fresh⟩
end
section
variable {prog : Program} {w : World} {A : Around} {E : Value → Shared → Prop} {s : Shared}
end
section
variable {X : Cx}
end
end L2
namespace L2
open PySem PySem.Spec PyProof.Rows
section
variable {κ : Type} [DecidableEq κ]
noncomputable def valV (kvs : List (κ × V)) (k : κ) : Option V := (kvs.find? fun kv => decide (kv.1 = k)).map (·.2)
noncomputable def putK (kvs : List (κ × V)) (k : κ) (v : V) : List (κ × V) :=
  if (kvs.any fun kv => decide (kv.1 = k)) = true then kvs.map (fun kv => if kv.1 = k then (kv.1, v) else kv) else kvs ++ [(k, v)]
theorem valV_pos {p : κ × V} {r : List (κ × V)} {k : κ} (e : p.1 = k) : valV (p :: r) k = some p.2 := by simp [valV, List.find?_cons, e]
theorem valV_neg {p : κ × V} {r : List (κ × V)} {k : κ} (e : ¬ p.1 = k) : valV (p :: r) k = valV r k := by simp [valV, List.find?_cons, e]
theorem valV_any (k : κ) : ∀ kvs : List (κ × V), (kvs.any fun kv => decide (kv.1 = k)) = (valV kvs k).isSome
  | [] => rfl
  | p :: r => by
    rw [List.any_cons]
    by_cases e : p.1 = k
    · simp only [valV_pos e, decide_eq_true e, Bool.true_or, Option.isSome_some]
    · rw [valV_neg e, decide_eq_false e, Bool.false_or]; exact valV_any k r
theorem valV_map (k j : κ) (y : V) : ∀ kvs : List (κ × V), valV (kvs.map fun kv => if kv.1 = k then (kv.1, y) else kv) j = (valV kvs j).map fun x => if j = k then y else x
  | [] => rfl
  | p :: r => by
    have ih := valV_map k j y r
    rw [List.map_cons]
    by_cases h : p.1 = k
    · rw [if_pos h]
      by_cases e : p.1 = j
      · rw [valV_pos (p := (p.1, y)) e, valV_pos e, Option.map_some, if_pos (e.symm.trans h)]
      · rw [valV_neg (p := (p.1, y)) e, valV_neg e, ih]
    · rw [if_neg h]
      by_cases e : p.1 = j
      · rw [valV_pos (p := p) e, valV_pos e, Option.map_some, if_neg (fun z => h (e.trans z))]
      · rw [valV_neg (p := p) e, valV_neg e, ih]
theorem valV_snoc (k j : κ) (y : V) : ∀ kvs : List (κ × V), valV kvs k = none → valV (kvs ++ [(k, y)]) j = if j = k then some y else valV kvs j
  | [], _ => by
    by_cases e : k = j
    · rw [if_pos e.symm]; exact valV_pos (p := (k, y)) e
    · rw [if_neg (fun z => e z.symm)]; exact valV_neg (p := (k, y)) e
  | p :: r, hn => by
    rw [List.cons_append]
    have hk : ¬ p.1 = k := fun z => by rw [valV_pos z] at hn; cases hn
    rw [valV_neg hk] at hn
    have ih := valV_snoc k j y r hn
    by_cases e : p.1 = j
    · rw [valV_pos e, valV_pos e, if_neg (fun z => hk (e.trans z))]
    · rw [valV_neg e, valV_neg e, ih]
theorem valV_put (kvs : List (κ × V)) (k j : κ) (y : V) : valV (putK kvs k y) j = if j = k then some y else valV kvs j := by
  unfold putK
  by_cases a : (kvs.any fun kv => decide (kv.1 = k)) = true
  · rw [if_pos a, valV_map]
    rw [valV_any] at a
    by_cases e : j = k
    · obtain ⟨x, hx⟩ := Option.isSome_iff_exists.mp a
      rw [if_pos e, e, hx, Option.map_some, if_pos rfl]
    · rw [if_neg e]
      cases valV kvs j with
      | none => rfl
      | some x => rw [Option.map_some, if_neg e]
  · rw [if_neg a]
    refine valV_snoc k j y kvs ?_
    rw [valV_any] at a
    cases q : valV kvs k with
    | none => rfl
    | some x => rw [q] at a; exact (a rfl).elim
theorem length_putK (kvs : List (κ × V)) (k : κ) (v : V) : (putK kvs k v).length ≤ kvs.length + 1 := by
  unfold putK
  split
  · rw [List.length_map]; omega
  · rw [List.length_append, List.length_cons, List.length_nil]; omega
theorem putK_new {kvs : List (κ × V)} {k : κ} (v : V) (h : valV kvs k = none) : putK kvs k v = kvs ++ [(k, v)] := by
  unfold putK
  rw [valV_any, h]
  exact if_neg (by decide)
theorem RelO.isSome_eq {o : Option V} {u : Option Value} (r : RelO o u) : o.isSome = u.isSome := by
  cases o with
  | none => cases u with
    | none => rfl
    | some _ => exact (show False from r).elim
  | some _ => cases u with
    | none => exact (show False from r).elim
    | some _ => rfl
theorem RelO.getD {o : Option V} {u : Option Value} {d : V} {d' : Value} (r : RelO o u) (rd : RelV d d') : RelV (o.getD d) (u.getD d') := by
  cases o with
  | none => cases u with
    | none => exact rd
    | some _ => exact (show False from r).elim
  | some _ => cases u with
    | none => exact (show False from r).elim
    | some _ => exact r
theorem KV.val {kvs : List (κ × V)} {vs : List (κ × Value)} (r : KV kvs vs) (k : κ) : RelO (valV kvs k) (valueAt vs k) := by
  unfold KV at r
  induction r with
  | nil => exact True.intro
  | @cons p q ps qs h t ih =>
    obtain ⟨h1, h2⟩ := h
    by_cases e : p.1 = k
    · have e' : q.1 = k := h1.symm.trans e
      have b : valueAt (q :: qs) k = some q.2 := by simp [valueAt, List.find?_cons, e']
      rw [valV_pos e, b]; exact h2
    · have e' : ¬ q.1 = k := fun z => e (h1.trans z)
      have b : valueAt (q :: qs) k = valueAt qs k := by simp [valueAt, List.find?_cons, e']
      rw [valV_neg e, b]; exact ih
theorem KV.any {kvs : List (κ × V)} {vs : List (κ × Value)} (r : KV kvs vs) (k : κ) : (kvs.any fun kv => decide (kv.1 = k)) = vs.any fun kv => decide (kv.1 = k) := by
  unfold KV at r
  induction r with
  | nil => rfl
  | cons h t ih => rw [List.any_cons, List.any_cons, ih, h.1]
theorem KV.repl {kvs : List (κ × V)} {vs : List (κ × Value)} (r : KV kvs vs) (k : κ) {y : V} {u : Value} (ry : RelV y u) :
    KV (kvs.map fun kv => if kv.1 = k then (kv.1, y) else kv) (vs.map fun kv => if kv.1 = k then (kv.1, u) else kv) := by
  unfold KV at r ⊢
  induction r with
  | nil => exact .nil
  | @cons p q ps qs h t ih =>
    rw [List.map_cons, List.map_cons]
    refine .cons ?_ ih
    obtain ⟨h1, h2⟩ := h
    by_cases e : p.1 = k
    · rw [if_pos e, if_pos (h1.symm.trans e)]; exact ⟨h1, ry⟩
    · rw [if_neg e, if_neg (fun z => e (h1.trans z))]; exact ⟨h1, h2⟩
theorem KV.put {kvs : List (κ × V)} {vs : List (κ × Value)} (r : KV kvs vs) (k : κ) {y : V} {u : Value} (ry : RelV y u) : KV (putK kvs k y) (stored vs k u) := by
  unfold putK stored
  rw [r.any k]
  by_cases e : (vs.any fun kv => decide (kv.1 = k)) = true
  · rw [if_pos e, if_pos e]; exact r.repl k ry
  · rw [if_neg e, if_neg e]; exact Paired.snoc r ⟨rfl, ry⟩
theorem KV.length {kvs : List (κ × V)} {vs : List (κ × Value)} (r : KV kvs vs) : kvs.length = vs.length := Paired.length r
end
theorem kV_is {P : Program} {w : World} {k : Key} {u : Value} (r : RelV (kV k) u) : (mixKind P w).is k u = true := by
  cases k with
  | inl i => obtain ⟨t, e⟩ := (show ∃ t, u = Value.int i t from r); subst e; exact mixKind_int P w i t
  | inr x => obtain ⟨t, e⟩ := (show ∃ t, u = Value.str x t from r); subst e; exact mixKind_str P w x t
theorem items_are {P : Program} {w : World} : ∀ {ks : List Key} {us : List Value}, Vals (ks.map kV) us → ItemsAre (mixKind P w) ks us
  | [], _, r => by rw [List.map_nil] at r; cases r; exact .nil
  | k :: ks, _, r => by
    rw [List.map_cons] at r
    cases r with
    | cons h t => exact .cons (kV_is h) (items_are t)
noncomputable abbrev KT (H : Hp) : List (List Key × V) → List (List Key × Addr × Value) → Prop := Paired fun p q => p.1 = q.1 ∧ H q.2.1 = some (.tup (p.1.map kV)) ∧ RelV p.2 q.2.2
theorem KT.val {H : Hp} {kvs : List (List Key × V)} {xs : List (List Key × Addr × Value)} (r : KT H kvs xs) (k : List Key) : RelO (valV kvs k) ((atKey xs k).map (·.2)) := by
  induction r with
  | nil => exact True.intro
  | @cons p q ps qs h t ih =>
    obtain ⟨h1, _, h2⟩ := h
    by_cases e : p.1 = k
    · have e' : q.1 = k := h1.symm.trans e
      have b : atKey (q :: qs) k = some q.2 := by simp [atKey, List.find?_cons, e']
      rw [valV_pos e, b]; exact h2
    · have e' : ¬ q.1 = k := fun z => e (h1.trans z)
      have b : atKey (q :: qs) k = atKey qs k := by simp [atKey, List.find?_cons, e']
      rw [valV_neg e, b]; exact ih
theorem KT.repl {H : Hp} {kvs : List (List Key × V)} {xs : List (List Key × Addr × Value)} (r : KT H kvs xs) (k : List Key) {y : V} {u : Value} (ry : RelV y u) :
    KT H (kvs.map fun kv => if kv.1 = k then (kv.1, y) else kv) (xs.map (putAt k u)) := by
  induction r with
  | nil => exact .nil
  | @cons p q ps qs h t ih =>
    rw [List.map_cons, List.map_cons]
    refine .cons ?_ ih
    obtain ⟨h1, h2, h3⟩ := h
    unfold putAt
    by_cases e : p.1 = k
    · rw [if_pos e, if_pos (h1.symm.trans e)]; exact ⟨h1, h2, ry⟩
    · rw [if_neg e, if_neg (fun z => e (h1.trans z))]; exact ⟨h1, h2, h3⟩
theorem KT.put {H : Hp} {kvs : List (List Key × V)} {xs : List (List Key × Addr × Value)} (r : KT H kvs xs) (k : List Key) {b : Addr} {y : V} {u : Value} (hb : H b = some (.tup (k.map kV))) (ry : RelV y u) :
    KT H (putK kvs k y) (storedH xs k b u) := by
  have e : (kvs.any fun kv => decide (kv.1 = k)) = (atKey xs k).isSome := by
    rw [valV_any, (r.val k).isSome_eq, Option.isSome_map]
  unfold putK storedH
  rw [e]
  by_cases q : (atKey xs k).isSome = true
  · rw [if_pos q, if_pos q]; exact r.repl k ry
  · rw [if_neg q, if_neg q]; exact Paired.snoc r ⟨rfl, hb, ry⟩
theorem KT.keeps {H H' : Hp} {kvs : List (List Key × V)} {xs : List (List Key × Addr × Value)} (r : KT H kvs xs) (ht : ∀ b ys, H b = some (.tup ys) → H' b = some (.tup ys)) : KT H' kvs xs :=
  Paired.mapP r fun _ _ z => ⟨z.1, ht _ _ z.2.1, z.2.2⟩
section
variable {P : Program} {w : World} {H : Hp} {h : Heap} {a : Addr}
theorem rd_of {u : HO} (ok : HOk P w H h) (e : Rd H a u) : ObjOk P w H h a u := e.ok ok
theorem dk_rd {kvs : List (Key × V)} (ok : HOk P w H h) (e : Rd H a (.dK kvs)) : kvs.length ≤ sizeLine ∧ (a == sysModules) = false ∧ ∃ vs, KV kvs vs ∧ h.DictOf (mixKind P w) a vs :=
  show ObjOk P w H h a (.dK kvs) from rd_of ok e
theorem dk_of {kvs : List (Key × V)} (ok : HOk P w H h) (e : H a = some (.dK kvs)) : kvs.length ≤ sizeLine ∧ (a == sysModules) = false ∧ ∃ vs, KV kvs vs ∧ h.DictOf (mixKind P w) a vs := dk_rd ok (.inl e)
theorem key_of {ks : List Key} (ok : HOk P w H h) (e : H a = some (.tup (ks.map kV))) : (tupleKind (mixKind P w)).is h ks a := by
  obtain ⟨_, its, r, ⟨o, h1, h2, n, h3⟩, _⟩ := (show ObjOk P w H h a (.tup (ks.map kV)) from ok a _ e)
  exact ⟨o, its.toArray, n, h1, h2, h3, by simpa using items_are r⟩
theorem dt_rd {kvs : List (List Key × V)} (ok : HOk P w H h) (e : Rd H a (.dT kvs)) : kvs.length ≤ sizeLine ∧ (a == sysModules) = false ∧
    ∃ xs, KT H kvs xs ∧ h.DictOfH (tupleKind (mixKind P w)) a xs := by
  obtain ⟨z, y, xs, r, o, es, ep, h1, h2, h3, h4, h5⟩ := (show ObjOk P w H h a (.dT kvs) from rd_of ok e)
  refine ⟨z, y, xs, r, o, es, ep, h1, h2, h3, h4, fun x hx => ?_, h5⟩
  have all : ∀ {l : List (List Key × V)} {m : List (List Key × Addr × Value)}, KT H l m → ∀ x ∈ m, (tupleKind (mixKind P w)).is h x.1 x.2.1 := by
    intro l m q
    induction q with
    | nil => intro x hx; exact nomatch hx
    | @cons p q ps qs hq t ih =>
      intro x hx
      rcases List.mem_cons.mp hx with e | hx
      · subst e
        exact key_of ok (by rw [← hq.1]; exact hq.2.1)
      · exact ih x hx
  exact all r x hx
theorem dt_of {kvs : List (List Key × V)} (ok : HOk P w H h) (e : H a = some (.dT kvs)) : kvs.length ≤ sizeLine ∧ (a == sysModules) = false ∧
    ∃ xs, KT H kvs xs ∧ h.DictOfH (tupleKind (mixKind P w)) a xs := dt_rd ok (.inl e)
end
noncomputable def DGet (H : Hp) (a : Addr) (y : V) (r : Option V) : Prop :=
  (∃ kvs k, Rd H a (.dK kvs) ∧ y = kV k ∧ r = valV kvs k) ∨ ∃ kvs k b, Rd H a (.dT kvs) ∧ y = .ref b ∧ H b = some (.tup (k.map kV)) ∧ r = valV kvs k
noncomputable def DPut (H : Hp) (a : Addr) (y v : V) (H' : Hp) : Prop :=
  (∃ kvs k, H a = some (.dK kvs) ∧ y = kV k ∧ kvs.length < sizeLine ∧ H' = upd H a (.dK (putK kvs k v))) ∨
  ∃ kvs k b, H a = some (.dT kvs) ∧ y = .ref b ∧ H b = some (.tup (k.map kV)) ∧ kvs.length < sizeLine ∧ H' = upd H a (.dT (putK kvs k v))
theorem DGet.k {H : Hp} {a : Addr} {kvs : List (Key × V)} {k : Key} (e : H a = some (.dK kvs)) : DGet H a (kV k) (valV kvs k) := .inl ⟨kvs, k, .inl e, rfl, rfl⟩
theorem DPut.k {H : Hp} {a : Addr} {kvs : List (Key × V)} {k : Key} {v : V} (e : H a = some (.dK kvs)) (hl : kvs.length < sizeLine) : DPut H a (kV k) v (upd H a (.dK (putK kvs k v))) := .inl ⟨kvs, k, e, rfl, hl, rfl⟩
section
variable {X : Cx} {pins : List (Addr × Obj)} {σ : St} {H : Hp} {s : Shared} {a : Addr} {y v : V} {u r : Value} {o : Option V} {A : Around} {E : Value → Shared → Prop}
theorem Inv.big (I : Inv X pins σ H s) : sysModules < s.heap.objs.size := by
  have h : mainGlobals < s.heap.objs.size := (I.mod.glob.keeps I.bk).lt
  exact Nat.lt_trans (by decide) h
theorem d_getItem {Q : Value → Shared → Prop} (hu : A.units + 1 < cLine) (I : Inv X pins σ H s) (g : DGet H a y (some v)) (ry : RelV y u) (h : ∀ w' s', Inv X pins σ H s' → RelV v w' → Q w' s') :
    wpAny (model X.prog X.w) A (getItem (.ref a) u) Q E s := by
  rcases g with ⟨kvs, k, e, ey, l⟩ | ⟨kvs, k, b, e, ey, eb, l⟩
  · subst ey
    obtain ⟨z, hd, vs, rel, dd⟩ := dk_rd I.hok e
    obtain ⟨w', hw, rw'⟩ := RelO.some_of (v := v) (o := valueAt vs k) (by rw [l]; exact rel.val k)
    exact wpAny_getItem_of (kV_is ry) dd.mapOf hw (h w' _ (I.tok _) rw')
  · subst ey
    cases (show u = Value.ref b from ry)
    obtain ⟨z, hd, xs, rel, dd⟩ := dt_rd I.hok e
    obtain ⟨w', hw, rw'⟩ := RelO.some_of (v := v) (o := (atKey xs k).map (·.2)) (by rw [l]; exact rel.val k)
    obtain ⟨p, hp, hp2⟩ := Option.map_eq_some_iff.mp hw
    refine wpAny_getItem_heap (tupleKind_room_in1 hu) (key_of I.hok eb) dd hp ?_
    rw [hp2]
    exact h w' _ (I.tok _) rw'
theorem d_notIn {Q : Value → Shared → Prop} (hu : A.units + 1 < cLine) (I : Inv X pins σ H s) (g : DGet H a y o) (ry : RelV y u) (h : ∀ s', Inv X pins σ H s' → Q (.bool (!o.isSome)) s') :
    wpAny (model X.prog X.w) A (compareOp .NotIn u (.ref a)) Q E s := by
  rcases g with ⟨kvs, k, e, ey, l⟩ | ⟨kvs, k, b, e, ey, eb, l⟩
  · subst ey
    obtain ⟨z, hd, vs, rel, dd⟩ := dk_rd I.hok e
    refine wpAny_notIn_of (kV_is ry) hd dd.mapOf ?_
    rw [← (rel.val k).isSome_eq, ← l]
    exact h _ (I.tok _)
  · subst ey
    cases (show u = Value.ref b from ry)
    obtain ⟨z, hd, xs, rel, dd⟩ := dt_rd I.hok e
    refine wpAny_notIn_heap (tupleKind_room_in1 hu) (key_of I.hok eb) hd dd ?_
    have q := (rel.val k).isSome_eq
    rw [Option.isSome_map] at q
    rw [← q, ← l]
    exact h _ (I.tok _)
theorem d_write {h' : Heap} {t' : Nat} {ob : HO} (I : Inv X pins σ H s) (mu : Mut (H a)) (hs : Heap.SameBut a s.heap h') (he : ∃ q, h'.get? a = some q) (new : ObjOk X.prog X.w (upd H a ob) h' a ob) :
    Inv X pins σ (upd H a ob) { s with heap := h', toks := t' } :=
  I.write (x := a) (e := a) mu (.inl rfl) (fun b q hb z => (hs.2 b hb).trans z) he new
theorem dk_new {P : Program} {w : World} {H' : Hp} {h' : Heap} {kvs : List (Key × V)} {vs : List (Key × Value)} (z : kvs.length ≤ sizeLine) (hd : (a == sysModules) = false) (rel : KV kvs vs) (dd : h'.DictOf (mixKind P w) a vs) :
    ObjOk P w H' h' a (.dK kvs) := ⟨z, hd, vs, rel, dd⟩
theorem d_setItem {H' : Hp} {Q : Unit → Shared → Prop} (hu : A.units + 1 < cLine) (I : Inv X pins σ H s) (g : DPut H a y v H') (ry : RelV y u) (rv : RelV v r) (h : ∀ s', Inv X pins σ H' s' → Q () s') :
    wpAny (model X.prog X.w) A (setItem (.ref a) u r) Q E s := by
  rcases g with ⟨kvs, k, e, ey, l, eH⟩ | ⟨kvs, k, b, e, ey, eb, l, eH⟩
  · subst ey eH
    obtain ⟨z, hd, vs, rel, dd⟩ := dk_of I.hok e
    have hz : vs.length ≤ sizeLine := by rw [← rel.length]; exact z
    have hl : (putK kvs k v).length ≤ sizeLine := by have := length_putK kvs k v; omega
    refine wpAny_setItem_pairs (hsz := hz) (kV_is ry) dd fun h' dd' hs => h _ ?_
    have he : ∃ q, h'.get? a = some q := let ⟨q, _, _, hq, _⟩ := dd'; ⟨q, hq⟩
    exact d_write I (by rw [e]; exact True.intro) hs he (dk_new hl hd (rel.put k rv) dd')
  · subst ey eH
    cases (show u = Value.ref b from ry)
    obtain ⟨z, hd, xs, rel, dd⟩ := dt_of I.hok e
    have hz : xs.length ≤ sizeLine := by rw [← Paired.length rel]; exact z
    have hl : (putK kvs k v).length ≤ sizeLine := by have := length_putK kvs k v; omega
    refine wpAny_setItem_heap (hsz := hz) (tupleKind_room_in1 hu) (key_of I.hok eb) dd fun h' dd' hs => h _ ?_
    obtain ⟨q, es, ep, hq, h2, h3, h4, _, h5⟩ := dd'
    refine d_write I (by rw [e]; exact True.intro) hs ⟨q, hq⟩ ⟨hl, hd, _, (rel.put k eb rv).keeps fun c ys ec => ?_, q, es, ep, hq, h2, h3, h4, h5⟩
    rw [upd_ne (ne_of ec e (fun z => nomatch z))]
    exact ec
end
section
variable {X : Cx} {pins : List (Addr × Obj)} {σ : St} {H : Hp} {s : Shared} {a : Addr} {kvs : List (Key × V)} {k : Key} {u : Value} {A : Around} {E : Value → Shared → Prop}
end
noncomputable def NoSl (i : Expr) : Prop := ∀ ov iv, subscripted i false ov iv = operate [ov, iv] (getItem ov iv)
theorem subD_of {prog : Program} {w : World} {A : Around} {E : Value → Shared → Prop} {s : Shared} {env : Env} {value slice : Expr} {pos : Pos} {T id : String} {Q : Value → Shared → Prop}
    (hl : typeLookup (.type T) "__getitem__" = pure (some (.builtin id))) (hs : NoSl slice)
    (h : wpAny (model prog w) A (eval value env) (fun o s₁ => wpAny (model prog w) A (eval slice env) (fun i s₂ => s₂.TypeIs o T ∧ wpAny (model prog w) A (getItem o i) Q E s₂) E s₁) E s) :
    wpAny (model prog w) A (eval (.Subscript value slice pos) env) Q E s := by
  refine Subscript_ (wpAny_mono h (fun o s₁ h₁ => wpAny_mono h₁ (fun i s₂ h₂ => ?_) fun _ _ x => x) fun _ _ x => x)
  obtain ⟨hT, h₂⟩ := h₂
  unfold subscriptTail
  refine wpAny_bind ?_
  rw [getitemInPython_of_ne hT.not_modules]
  refine wpAny_bind (wpAny_specialOf hT hl ?_)
  have fin : wpAny (model prog w) A (subscripted slice false o i) (fun r s₃ => wpAny (model prog w) A (letTemporaryGo value o r >>= fun _ => pure r) Q E s₃) E s₂ := by
    rw [hs o i]
    exact wpAny_operating (wpAny_mono h₂ (fun r s₃ h₃ => wpAny_bind (wpAny_letTemporaryGo (wpAny_pure h₃))) fun _ _ x => x)
  first
    | exact wpAny_pure (wpAny_bind fin)
    | exact wpAny_bind (wpAny_pure (wpAny_bind fin))
    | exact wpAny_bind fin
theorem dict_typeIs {X : Cx} {pins : List (Addr × Obj)} {σ : St} {H : Hp} {s : Shared} {a : Addr} {y : V} {o : Option V} (I : Inv X pins σ H s) (g : DGet H a y o) : s.TypeIs (.ref a) "dict" := by
  rcases g with ⟨kvs, k, e, _, _⟩ | ⟨kvs, k, b, e, _, _, _⟩
  · obtain ⟨_, _, vs, _, dd⟩ := dk_rd I.hok e
    exact dd.typeIs
  · obtain ⟨_, _, xs, _, dd⟩ := dt_rd I.hok e
    exact dd.typeIs
noncomputable def tDGet (td ty : TE) : TE := fun σ H Q => td σ H fun x H1 => ty σ H1 fun y H2 => ∃ a v, x = .ref a ∧ DGet H2 a y (some v) ∧ Q v H2
noncomputable def tDNotIn (ty td : TE) : TE := fun σ H Q => ty σ H fun y H1 => td σ H1 fun x H2 => ∃ a o, x = .ref a ∧ DGet H2 a y o ∧ Q (.bl (!o.isSome)) H2
noncomputable def sDPut (td ty tv : TE) : TS := fun D σ H => tv σ H fun v H1 => td σ H1 fun x H2 => ty σ H2 fun y H3 => ∃ a H4, x = .ref a ∧ DPut H3 a y v H4 ∧ D.nx σ H4
section
variable {X : Cx} {o i e value : Expr} {pos pos' tpos : Pos} {td ty tv : TE}
theorem pe_dget (hu : X.A.units + 1 < cLine) (ho : PE X o td) (hi : PE X i ty) (hs : NoSl i) : PE X (.Subscript o i pos) (tDGet td ty) := by
  intro pins s σ H Q I h
  refine subD_of PySem.F.slot_dict_getitem.lookup hs (thn (ho pins s σ H _ I h) fun u s1 ⟨x, H1, I1, rx, q1⟩ => thn (hi pins s1 σ H1 _ I1 q1) fun iv s2 ⟨y, H2, I2, ry, a, v, ex, g, q2⟩ => ?_)
  subst ex
  obtain rfl : u = Value.ref a := rx
  exact ⟨dict_typeIs I2 g, d_getItem hu I2 g ry fun w' s3 I3 rw' => ⟨v, H2, I3, rw', q2⟩⟩
theorem pc_dnotin (hu : X.A.units + 1 < cLine) (hi : PE X i ty) (ho : PE X o td) : PC X .NotIn i o (tDNotIn ty td) := by
  intro pins s σ H Q I h
  refine thn (hi pins s σ H _ I h) fun iv s1 ⟨y, H1, I1, ry, q1⟩ => thn (ho pins s1 σ H1 _ I1 q1) fun u s2 ⟨x, H2, I2, rx, a, ov, ex, g, q2⟩ => ?_
  subst ex
  obtain rfl : u = Value.ref a := rx
  exact d_notIn hu I2 g ry fun s3 I3 => ⟨.bl (!ov.isSome), H2, I3, rfl, q2⟩
theorem ps_dput (hu : X.A.units + 1 < cLine) (ho : PE X o td) (hi : PE X i ty) (hv : PE X value tv) (hs : swapsWith value (some (.Subscript o i pos')) pos.line X.env = pure false) :
    PS X (.Assign [.Subscript o i pos'] value pos) (sDPut td ty tv) := by
  intro pins s σ H D I h
  refine wpAny_Assign_Subscript (thn (hv pins s σ H _ I h) fun r s1 ⟨v, H1, I1, rv, q1⟩ => thn (ho pins s1 σ H1 _ I1 q1) fun u s2 ⟨x, H2, I2, rx, q2⟩ => thn (hi pins s2 σ H2 _ I2 q2) fun iv s3 ⟨y, H3, I3, ry, a, H4, ex, g, q3⟩ => ?_) hs
  subst ex
  obtain rfl : u = Value.ref a := rx
  exact d_setItem hu I3 g ry rv fun s4 I4 => ⟨σ, H4, I4, q3⟩
end
theorem dk_empty {P : Program} {w : World} {H : Hp} (h : Heap) (hb : sysModules < h.objs.size) : ObjOk P w H (h.push { cls := .type "dict", data := .dict #[] }) h.objs.size (.dK []) :=
  ⟨Nat.zero_le _, beq_eq_false_iff_ne.mpr (Ne.symm (Nat.ne_of_lt hb)), [], .nil, Heap.DictOf.new h⟩
noncomputable def tDNewK : TE := fun _ H Q => ∀ p, H p = none → Q (.ref p) (upd H p (.dK []))
section
variable {X : Cx} {pos : Pos}
theorem pe_dnewK : PE X (.Dict [] [] pos) tDNewK := fun pins s σ H Q I h =>
  wpAny_Dict_empty ⟨.ref s.heap.objs.size, _, I.laid (a := s.heap.objs.size) (o := .dK []) (t' := s.toks) (fun _ _ q => Heap.get?_push_of_some _ q) (Nat.le_refl _) (dk_empty s.heap I.big), rfl, h _ (I.hok.fresh (Nat.le_refl _))⟩
end
noncomputable def mergeK (kvs more : List (Key × V)) : List (Key × V) := more.foldl (fun acc kv => putK acc kv.1 kv.2) kvs
theorem KV.merge : ∀ {more : List (Key × V)} {rs : List (Key × Value)} {kvs : List (Key × V)} {vs : List (Key × Value)}, KV more rs → KV kvs vs → KV (mergeK kvs more) (merged vs rs) := by
  intro more rs kvs vs r
  unfold KV at r
  induction r generalizing kvs vs with
  | nil => intro q; exact q
  | @cons p q ps qs h t ih =>
    intro r0
    have e : KV (putK kvs p.1 p.2) (stored vs q.1 q.2) := by
      have := r0.put p.1 h.2
      rw [← h.1]; exact this
    exact ih e
theorem length_mergeK : ∀ (more kvs : List (Key × V)), (mergeK kvs more).length ≤ kvs.length + more.length
  | [], kvs => by show kvs.length ≤ kvs.length + 0; omega
  | p :: r, kvs => by
    have h1 := length_mergeK r (putK kvs p.1 p.2)
    have h2 := length_putK kvs p.1 p.2
    show (mergeK (putK kvs p.1 p.2) r).length ≤ _
    rw [List.length_cons]; omega
structure M1 (X : Cx) (o : Expr) (m : Str) (apos : Pos) (e : Expr) (cpos : Pos) : Prop where
  base : attributeBase o m X.env (eval o X.env) = eval o X.env
  few : ((backTo cpos (starEach [e] X.env)).all (fun x => !x.1) && (backToKw cpos (keywordEach [] X.env)).all (fun x => x.1.isSome)
    && decide (([e] : List Expr).length + ([] : List Keyword).length + (if ([] : List Keyword).isEmpty then 0 else 1) < 30)) = true
  line : (apos.endLine == cpos.line) = true
  trees : backTo cpos (starEach [e] X.env) = [(false, eval e X.env)]
structure M2 (X : Cx) (o : Expr) (m : Str) (apos : Pos) (e f : Expr) (cpos : Pos) : Prop where
  base : attributeBase o m X.env (eval o X.env) = eval o X.env
  few : ((backTo cpos (starEach [e, f] X.env)).all (fun x => !x.1) && (backToKw cpos (keywordEach [] X.env)).all (fun x => x.1.isSome)
    && decide (([e, f] : List Expr).length + ([] : List Keyword).length + (if ([] : List Keyword).isEmpty then 0 else 1) < 30)) = true
  line : (apos.endLine == cpos.line) = true
  trees : backTo cpos (starEach [e, f] X.env) = [(false, eval e X.env), (false, eval f X.env)]
section
variable {X : Cx} {pins : List (Addr × Obj)} {σ : St} {H : Hp} {s : Shared} {a : Addr} {y d : V} {u r : Value} {o : Option V} {A : Around} {E : Value → Shared → Prop}
end
section
variable {X : Cx} {o e f : Expr} {apos cpos : Pos} {td ty tx : TE}
end
section
variable {X : Cx} {pins : List (Addr × Obj)} {σ : St} {H : Hp} {s : Shared} {a : Addr} {kvs : List (Key × V)} {A : Around} {E : Value → Shared → Prop}
end
section
variable {X : Cx} {pins : List (Addr × Obj)} {σ : St} {H : Hp} {s : Shared} {a : Addr} {y : V} {u : Value} {A : Around} {E : Value → Shared → Prop}
end
end L2
namespace Att
open PySem PySem.W PySem.Calls PyProof.Rows
theorem ints_of_wellAll {P : Params} {h : Heap} : ∀ (ns : List Int) (vs : List Value), WellAll P h vs (ns.map WData.int) → IntsAre vs ns := by
  intro ns
  induction ns with
  | nil =>
    intro vs w
    rw [List.map_nil] at w
    cases w
    exact .nil
  | cons n ns ih =>
    intro vs w
    rw [List.map_cons] at w
    cases w with
    | cons a b =>
      cases a
      exact .cons _ _ (ih _ b)
theorem script_of {l : OpenLaw} {n : Nat} (hn : l.most = some n) {P : Params} {h : Heap} {args : List WData} {vals : List Value}
    (hpre : l.row.toRowW.claim.pre args = true) (hwl : WellAll P h vals args) :
    ∃ a vs ns, vals = [Value.ref a] ∧ args = [WData.list (ns.map WData.int)] ∧ h.get? a = some { cls := .type "list", data := .seq vs.toArray } ∧ IntsAre vs ns ∧ ns.length ≤ n := by
  have hsh : WShape.hasAll [] args [.list .int] = true := (pre_splitW hpre).1
  have hc : l.pre.holds [] { args := args } = true := (pre_splitW hpre).2
  obtain ⟨d, r, rfl, h1, h2⟩ := hasAllW_cons hsh
  obtain rfl := hasAllW_nil h2
  obtain ⟨xs, rfl, h3⟩ := hasW_list h1
  obtain ⟨ns, rfl⟩ := items_int h3
  have hlen : ns.length ≤ n := by
    unfold OpenLaw.pre at hc
    have h4 : (WTm.not (.lt (.lit (.int (n : Int))) (.len (.arg 0)))).holds [] { args := [.list (ns.map .int)] } = true := by
      have h4 := (holds_andW hc).1
      rw [hn] at h4
      exact h4
    have h5 := condW_of h4 (w_not (w_lt w_lit (w_len_list (w_arg rfl))))
    rw [List.length_map] at h5
    refine Nat.le_of_not_lt fun q => ?_
    have q' : (n : Int) < ((ns.length : Nat) : Int) := by omega
    first
      | (rw [decide_eq_true q'] at h5; exact absurd h5 (by decide))
      | (simp at h5; omega)
  cases hwl with
  | cons w1 w2 =>
    cases w2
    cases w1 with
    | list ho hall => exact ⟨_, _, ns, rfl, rfl, ho, ints_of_wellAll ns _ hall, hlen⟩
theorem post_true (l : OpenLaw) (args : List WData) : l.row.toRowW.claim.post args (.bool true) args = true :=
  postW_of (r := l.row.toRowW) (X := (true == true))
    (show WShape.has [] (.bool true) .bool = true by first | rfl | decide | simp [WShape.has, WShape.arms, WShape.armsAll])
    (show (WTm.eq .res (.lit (.bool true))).value [] { args := args, res := some (.bool true), after := args } = some (.bool (true == true)) from w_eq_bool (w_res rfl) w_lit) rfl
theorem attach_call {l : OpenLaw} {n : Nat} {q : Program} {loose : List Str} {XP : (Str → Option Value) → Heap → Prop} {YP : World → Heap → Prop} {d : DefRec}
    (hn : l.most = some n) (hdf : d.params.defaults = [])
    (call : ∀ (w : World) (s₀ s₁ : Shared) (mg mb : Str → Option Value) (fa : Addr) (o : Obj) (pm cd doc : Value) (a : Addr) (vs : List Value) (ns : List Int),
      Ground q loose [] XP w s₀ mg mb s₁.heap → YP w s₁.heap →
      s₁.heap.get? fa = some o → o.data = .func (docDef d.name d.params d.body d.scope pm cd doc) → s₁.heap.CodeRec cd d.name → mg d.name = some (.ref fa) →
      s₁.heap.get? a = some { cls := .type "list", data := .seq vs.toArray } → IntsAre vs ns → ns.length ≤ n → s₁.gens = #[] →
      codeAny (model l.prog w) callerA (.call (.ref fa) ⟨[.ref a], []⟩) (fun r s' => r = .ok (.ret (.bool true)) ∧ OldK s₁.heap s'.heap ∧ s'.os = s₁.os ∧ AllBare s'.gens) s₁) :
    WalkO q loose XP YP l.row.toRowW d [] (fun f vs => PySem.call f vs) := by
  intro w s₀ s₁ mg mb G Y fa o pm cd doc dV kV ho hd hcd hD hmg hg args vals as hpre hlay hrd hwl hlo
  obtain rfl : dV = .none := Dflts.none hD hdf
  obtain rfl : kV = .none := Dflts.noKw hD
  obtain ⟨a, vs, ns, rfl, rfl, hobj, hints, hlen⟩ := script_of hn hpre hwl
  refine enter_call (codeAny_mono (call w s₀ s₁ mg mb fa o pm cd doc a vs ns G Y ho (fd_plain hd) hcd hmg hobj hints hlen hg) fun r s' hq => ?_)
  obtain ⟨rfl, h2, h3, h4⟩ := hq
  exact ⟨.inl ⟨.bool true, .bool true, [], rfl, fun _ => rfl, .bool true, post_true l _, fun _ => ⟨List.Pairwise.nil, fun _ hm => (nomatch hm)⟩⟩, h2, h3, h4⟩
section
variable {prog : Program} {w : World} {A : Around} {E : Value → Shared → Prop} {s : Shared} {K : Frag}
end
end Att
namespace L2
open PySem PySem.Spec PyProof.Rows
theorem vals_ints : ∀ {vs : List Value} {ns : List Int}, IntsAre vs ns → Vals (ns.map V.int) vs
  | _, _, .nil => .nil
  | _, _, .cons n t h => .cons ⟨t, rfl⟩ (vals_ints h)
noncomputable def Only (H : Hp) : Prop := ∀ b, H b = none ∨ ∃ o xs, H b = some (.frz o (.lst xs))
theorem law_call {P : Program} {w : World} {K : PySem.W.Frag} {mg mb : Str → Option Value} {CX : CXT} {k : Nat} {fa a : Addr} {fd : FuncData} {x : Str} {sp : Sp} {s₁ : Shared} {vs : List Value} {ns : List Int}
    (KX : K.In s₁.heap) (hns : s₁.heap.Ns mainGlobals mg) (hb : s₁.heap.Ns builtinsNs mb) (hbb : ∀ x : Str, x ≠ "__name__" → mb x = bootBuiltins x) (hlim : s₁.heap.NoLimit) (hg : s₁.gens = #[])
    (ha : s₁.heap.get? a = some { cls := .type "list", data := .seq vs.toArray }) (hi : IntsAre vs ns) (hl : ns.length ≤ sizeLine) (hr : Room k callerA)
    (F : ∀ base : Heap, K.In base → base.Ns mainGlobals mg → FnOk P w K mg base CX k fa fd [x] sp) (hbind : ∀ (s : Shared) (u : Value), BindsTo s fd ⟨[u], []⟩ [(x, u)])
    (hsp : ∀ H : Hp, Only H → SqL K H a (ns.map V.int) → sp [.ref a] H (fun v _ => v = .bl true) fun _ _ _ => False)
    (hCX : ∀ H e s', CX [] H s₁ (fun _ _ _ => False) e s' → False) :
    codeAny (model P w) callerA (.call (.ref fa) ⟨[.ref a], []⟩) (fun r s' => r = .ok (.ret (.bool true)) ∧ OldK s₁.heap s'.heap ∧ s'.os = s₁.os ∧ AllBare s'.gens) s₁ := by
  have rv := vals_ints hi
  have lenV := hi.length
  have core : ∀ H : Hp, Only H → SqL K H a (ns.map V.int) → HOk P w H s₁.heap → (∀ b, H b ≠ none → b = a) → (H a ≠ none → K.lookup a = none) →
      codeAny (model P w) callerA (.call (.ref fa) ⟨[.ref a], []⟩) (fun r s' => r = .ok (.ret (.bool true)) ∧ OldK s₁.heap s'.heap ∧ s'.os = s₁.os ∧ AllBare s'.gens) s₁ := by
    intro H hO hS hok hA hK
    have base_of : ∀ {b : Addr} {o : Obj}, s₁.heap.get? b = some o → H b = none → (hidT s₁.heap H).get? b = some o := fun e n => hidT_get e n
    have noA : ∀ {b : Addr} {o : Obj} {es : Array DictEntry} {ep : Nat}, s₁.heap.get? b = some o → o.data = .dict es ep → H b = none := fun {b o es ep} e d => by
      cases q : H b with
      | none => rfl
      | some u =>
        have e' : b = a := hA b (by rw [q]; simp)
        subst e'
        rw [ha] at e; cases e
        have d' : Data.seq vs.toArray _ = Data.dict es ep := d
        cases d'
    have nsK : ∀ {b : Addr} {m : Str → Option Value}, s₁.heap.Ns b m → (hidT s₁.heap H).Ns b m := fun {b m} ⟨o, es, ep, e, d, r⟩ => ⟨o, es, ep, base_of e (noA e d), d, r⟩
    have hKb : K.In (hidT s₁.heap H) := fun b o e => base_of (KX b o e) (by
      cases q : H b with
      | none => rfl
      | some u =>
        have e' : b = a := hA b (by rw [q]; simp)
        subst e'
        rw [hK (by rw [q]; simp)] at e; cases e)
    have hM : Mod K mg (hidT s₁.heap H) := ⟨hKb, nsK hns, ⟨mb, nsK hb, hbb⟩, let ⟨mc, h1, h2⟩ := hlim; ⟨mc, nsK h1, h2⟩⟩
    have e0 : Env0 P w K mg (hidT s₁.heap H) callerA [] s₁ H := ⟨rfl, hM, fun b o e => of_hidT e, Nat.le_of_eq (hidT_size _ _), trivial, fun b hb => absurd (show b ∈ ([] : List Addr) from hb) (by simp), hok, .of_eq hg⟩
    refine codeAny_mono ((F _ hKb (nsK hns)).run callerA [] s₁ H ⟨[.ref a], []⟩ [.ref a] [.ref a] _ _ hr e0 (hbind s₁ (.ref a)) (.cons rfl .nil) (hsp H hO hS)) fun r s' h => ?_
    cases r with
    | error e => exact (hCX H e s' h).elim
    | ok fl =>
      cases fl with
      | next => exact False.elim h
      | brk => exact False.elim h
      | cont => exact False.elim h
      | ret u =>
        obtain ⟨v, H', os, bare, un, hok', r', q⟩ := h
        have q' : v = .bl true := q
        subst q'
        obtain rfl : u = Value.bool true := r'
        refine ⟨rfl, OldK.of_keep fun b o e => ?_, os, bare⟩
        cases q : H b with
        | none => exact un.keep b o e q (by intro z; exact absurd (show b ∈ ([] : List Addr) from z) (by simp)) (by simp)
        | some u =>
          rcases hO b with z | ⟨ob, xs, z⟩
          · rw [q] at z; cases z
          · have z2 := un.frzs b ob _ z
            obtain ⟨e1, _⟩ := hok b _ z
            obtain ⟨e2, _⟩ := hok' b _ z2
            rw [e] at e1; cases e1
            exact e2
  cases hk : K.lookup a with
  | some o =>
    have e := KX a o hk
    rw [ha] at e
    cases e
    refine core (fun _ => none) (fun _ => .inl rfl) (.inr ⟨_, vs.toArray, _, hk, rfl, rfl, rfl, by rw [List.size_toArray, lenV]; exact hl, by simpa using rv⟩) (fun b u z => by have z' : (none : Option HO) = some u := z; cases z') (fun b z => absurd rfl z) fun z => absurd rfl z
  | none =>
    refine core (fun b => if b = a then some (.frz { cls := .type "list", data := .seq vs.toArray } (.lst (ns.map V.int))) else none) (fun b => ?_) (.inl (.inr ⟨{ cls := .type "list", data := .seq vs.toArray }, if_pos rfl⟩)) (fun b u z => ?_) (fun b z => ?_) fun _ => hk
    · by_cases hb : b = a
      · exact .inr ⟨_, _, if_pos hb⟩
      · exact .inl (if_neg hb)
    · by_cases hb : b = a
      · have z' := (if_pos hb).symm.trans z
        cases z'
        subst hb
        exact ⟨ha, by rw [List.length_map]; exact hl, vs, _, rv, ha⟩
      · have z' := (if_neg hb).symm.trans z
        cases z'
    · by_cases hb : b = a
      · exact hb
      · exact absurd (if_neg hb) z
end L2
namespace L2
open PySem PySem.Spec PyProof.Rows
theorem walk_of {l : PySem.W.OpenLaw} {n k : Nat} {q : Program} {loose : List Str} {XP : (Str → Option Value) → Heap → Prop} {YP : World → Heap → Prop} {d : DefRec} {K : Params → PySem.W.Frag} {CX : World → CXT} {sp : World → Sp} {x : Str}
    (hn : l.most = some n) (hn2 : n ≤ sizeLine) (hdf : d.params.defaults = []) (hr : Room k callerA)
    (hY : ∀ (w : World) (h : Heap), YP w h → (K w.params).In h)
    (F : ∀ (w : World) (mg : Str → Option Value) (fa : Addr) (h : Heap), (K w.params).In h → h.Ns mainGlobals mg → mg d.name = some (.ref fa) →
      ∃ fd : FuncData, (∀ (s : Shared) (u : Value), BindsTo s fd ⟨[u], []⟩ [(x, u)]) ∧
        ∀ base : Heap, (K w.params).In base → base.Ns mainGlobals mg → FnOk l.prog w (K w.params) mg base (CX w) k fa fd [x] (sp w))
    (hsp : ∀ (w : World) (H : Hp) (a : Addr) (ns : List Int), ns.length ≤ n → Only H → SqL (K w.params) H a (ns.map V.int) → sp w [.ref a] H (fun v _ => v = .bl true) fun _ _ _ => False)
    (hCX : ∀ (w : World) (H : Hp) (s : Shared) (e : Value) (s' : Shared), CX w [] H s (fun _ _ _ => False) e s' → False) :
    PySem.W.WalkO q loose XP YP l.row.toRowW d [] (fun f vs => PySem.call f vs) := by
  refine Att.attach_call hn hdf fun w s₀ s₁ mg mb fa o pm cd doc a vs ns G Y ho hd hcd hmg hobj hints hlen hg => ?_
  have KX := hY w _ Y
  obtain ⟨fd, hb, hF⟩ := F w mg fa _ KX G.T.g hmg
  exact law_call KX G.T.g G.T.b G.T.builtins G.T.nolimit hg hobj hints (Nat.le_trans hlen hn2) hr hF hb (fun H hO hS => hsp w H a ns hlen hO hS) fun H e s' => hCX w H s₁ e s'
end L2
namespace L2
open PySem PySem.Spec PyProof.Rows
noncomputable def defArgs (s : Stmt) : Arguments := match s with
  | .FunctionDef _ a _ _ _ _ _ _ _ _ => a
  | _ => { posonlyargs := [], args := [], vararg := none, kwonlyargs := [], kw_defaults := [], kwarg := none, defaults := [] }
noncomputable def defBody (s : Stmt) : List Stmt := match s with
  | .FunctionDef _ _ b _ _ _ _ _ _ _ => b
  | _ => []
noncomputable def defScope (s : Stmt) : Scope := match s with
  | .FunctionDef _ _ _ _ _ _ sc _ _ _ => sc
  | _ => { kind := .function, names := [], isGenerator := false, isCoroutine := false }
noncomputable abbrev CX0 : CXT := fun _ _ _ _ _ _ => False
noncomputable abbrev E0 : XK := fun _ _ _ => False
theorem pass0 {X : Cx} : Passes CX0 X E0 := fun _ _ _ _ _ _ _ h => h.elim
structure Fun (K : PySem.W.Frag) (x qual : Str) (st : Stmt) (f : Addr) (fd : FuncData) : Prop where
  ex : ∃ (oc : Value) (od : Option Addr) (kV doc pm : Value) (an : Option Addr) (cdv ct : Value) (osl : Array (Option Value)),
    fd = PySem.W.fnOf x qual (defArgs st) (defBody st) (defScope st) .none kV doc pm an cdv ct ∧ K.lookup f = some ⟨oc, od, .func fd, osl⟩ ∧ PySem.W.codeIn K cdv qual = true
  kp : PySem.W.keepIn K (.ref f) = true
section
variable {P : Program} {w : World} {K : PySem.W.Frag} {mg : Str → Option Value} {base : Heap}
theorem Fun.ok {x qual : Str} {st : Stmt} {f : Addr} {fd : FuncData} {N ps : List Str} {k : Nat} {sp : Sp} (F : Fun K x qual st f fd) (S : FnScope N ps (defScope st)) (len : ∀ vs H Q E, sp vs H Q E → vs.length = ps.length)
    (hbody : ∀ (cdv : Value) (A : Around) (outer : List Env) (s : Shared) (H : Hp) (vs : List V) (Q : VK) (E : XK), Room k (A.deeper (envOfC qual (defScope st) s.heap.objs.size f cdv)) → sp vs H Q E →
      ∃ t, PSs (cxOf CX0 P w K mg base N qual (defScope st) f cdv A outer s H E).nox (defBody st) t ∧ t { nx := fun _ H' => Q .non H', rt := Q } (start N vs) H) : FnOk P w K mg base CX0 (k + 1) f fd ps sp := by
  obtain ⟨oc, od, kV, doc, pm, an, cdv, ct, osl, rfl, lk, hcd⟩ := F.ex
  refine fn_of lk hcd S len fun A outer s H vs Q E hr hsp => ?_
  obtain ⟨t, h, q⟩ := hbody cdv A outer s H vs Q E hr hsp
  exact ⟨t, h.nox, q⟩
theorem Fun.binds {x qual : Str} {st : Stmt} {f : Addr} {fd : FuncData} {ps : List Str} (F : Fun K x qual st f fd)
    (h : ∀ (kV doc pm : Value) (an : Option Addr) (cdv ct : Value) (us : List Value), us.length = ps.length → bindArgs (PySem.W.fnOf x qual (defArgs st) (defBody st) (defScope st) .none kV doc pm an cdv ct) ⟨us, []⟩ = pure (ps.zip us)) : Binds K fd ps [] := by
  obtain ⟨oc, od, kV, doc, pm, an, cdv, ct, osl, rfl, lk, hcd⟩ := F.ex
  exact .all (h kV doc pm an cdv ct)
theorem fun_mk {x qual : Str} {st : Stmt} {f : Addr} {oc : Value} {od an : Option Addr} {osl : Array (Option Value)} {kV doc pm cdv ct : Value} (l : K.lookup f = some ⟨oc, od, .func (PySem.W.fnOf x qual (defArgs st) (defBody st) (defScope st) .none kV doc pm an cdv ct), osl⟩)
    (c : PySem.W.codeIn K cdv qual = true) (k : PySem.W.keepIn K (.ref f) = true) : Fun K x qual st f (PySem.W.fnOf x qual (defArgs st) (defBody st) (defScope st) .none kV doc pm an cdv ct) := ⟨⟨oc, od, kV, doc, pm, an, cdv, ct, osl, rfl, l, c⟩, k⟩
end
theorem hu_of {A : Around} {k : Nat} (hr : Room k A) : A.units + 1 < cLine := Nat.lt_of_le_of_lt (Nat.add_le_add_left (by decide : 1 ≤ 64) _) hr.units
theorem small1000 {n : Nat} (h : n ≤ 1000) : n < sizeLine := Nat.lt_of_le_of_lt h (by decide)
section
variable {X : Cx}
theorem pv (i : Nat) {x : Str} {pos : Pos} (hN : X.N[i]? = some x := by rfl) (hv : Vis X.env.scope x := by first | exact Or.inl rfl | exact Or.inr (Or.inl rfl) | exact Or.inr (Or.inr rfl)) (hd : (x == ("__debug__" : Str)) = false := by decide)
    (hcd : (x == ("__classdict__" : Str)) = false := by decide) : PE X (.Name x pos) (tVar i) := pe_var hN hv hd hcd
end
theorem iteF {A B : Prop} (h : B) : if false = true then A else B := by
  rw [if_neg Bool.false_ne_true]
  exact h
theorem iteT {A B : Prop} (h : A) : if true = true then A else B := by
  rw [if_pos rfl]
  exact h
theorem ite2 {c A B : Prop} [Decidable c] (h1 : c → A) (h2 : ¬ c → B) : if c then A else B := by
  by_cases h : c
  · rw [if_pos h]
    exact h1 h
  · rw [if_neg h]
    exact h2 h
noncomputable def Same (H H' : Hp) : Prop := ∀ b o, H b = some o → H' b = some o
theorem Same.refl (H : Hp) : Same H H := fun _ _ h => h
theorem Same.trans {H H1 H2 : Hp} (a : Same H H1) (b : Same H1 H2) : Same H H2 := fun c o h => b c o (a c o h)
theorem Same.free {H H' : Hp} (e : Same H H') {l : Addr} (h : H' l = Option.none) : H l = Option.none := by
  cases q : H l with
  | none => rfl
  | some o =>
    rw [e l o q] at h
    cases h
theorem Same.seq {K : PySem.W.Frag} {H H' : Hp} {a : Addr} {xs : List V} (e : Same H H') (h : SqL K H a xs) : SqL K H' a xs := by
  rcases h with (h | ⟨o, h⟩) | h
  · exact .inl (.inl (e _ _ h))
  · exact .inl (.inr ⟨o, e _ _ h⟩)
  · exact .inr h
section
variable {κ : Type} [DecidableEq κ]
theorem valV_in {kvs : List (κ × V)} {k : κ} {v : V} (h : valV kvs k = some v) : k ∈ kvs.map (·.1) := by
  have q : (kvs.any fun kv => decide (kv.1 = k)) = true := by
    rw [valV_any, h]
    all_goals rfl
  obtain ⟨p, hp, e⟩ := List.any_eq_true.mp q
  exact List.mem_map.mpr ⟨p, hp, of_decide_eq_true e⟩
theorem nd_snoc : ∀ {l : List κ} {k : κ}, l.Nodup → ¬ k ∈ l → (l ++ [k]).Nodup
  | [], k, _, _ => by simp
  | a :: r, k, h, hk => by
    obtain ⟨h1, h2⟩ := List.nodup_cons.mp h
    show (a :: (r ++ [k])).Nodup
    refine List.nodup_cons.mpr ⟨fun m => ?_, nd_snoc h2 fun m => hk (List.mem_cons.mpr (Or.inr m))⟩
    rcases List.mem_append.mp m with q | q
    · exact h1 q
    · exact hk (List.mem_cons.mpr (Or.inl (List.mem_singleton.mp q).symm))
end
end L2
namespace L2
open PySem PySem.Spec PyProof.Rows
section
variable {X : Cx}
theorem ints_items {K : PySem.W.Frag} : ∀ {ns : List Int} {its : List Value}, Vals (ns.map V.int) its → ∃ xs : Array (Int × Tok), its.toArray = intItems xs ∧ ns = xs.toList.map (·.1)
  | [], _, .nil => ⟨#[], by simp [intItems], rfl⟩
  | n :: ns, _, .cons r rr => by
    obtain ⟨t, rfl⟩ := r
    obtain ⟨xs, e1, e2⟩ := ints_items (K := K) rr
    refine ⟨(⟨(n, t) :: xs.toList⟩ : Array (Int × Tok)), ?_, by rw [e2]; rfl⟩
    have : (intItems xs).toList = _ := (congrArg Array.toList e1).symm
    unfold intItems at this ⊢
    refine Array.toList_inj.mp ?_
    simp only [Array.toList_map] at this ⊢
    rw [List.map_cons, this]
theorem num_at {ys : Array (Int × Tok)} {ns : List Int} (en : ns = ys.toList.map (·.1)) {j : Nat} (hj : j < ys.size) : ∃ h : j < ns.length, numAt ys j = ns[j] := by
  subst en
  refine ⟨by simpa using hj, ?_⟩
  simp [numAt, hj]
theorem call_sum (hc : X.calm = true) : CallR X (.builtin "sum") (fun xs H Q => ∃ (p : Addr) (ns : List Int), xs = [.ref p] ∧ SqL X.K H p (ns.map V.int) ∧ Q (.int ns.sum) H) := by
  intro pins s σ H xs us Q I r h
  obtain ⟨p, ns, rfl, hq, q⟩ := h
  obtain ⟨u, rfl, rx⟩ := vals1 r
  cases rx
  obtain ⟨its, r', pl, hz⟩ := I.list hq
  obtain ⟨ys, e, en⟩ := ints_items (K := X.K) r'
  refine sum_intListG (xs := ys) (I.ok.hd hc) (e ▸ pl.isList) fun h' tk t' hk => ⟨.int ns.sum, H, I.kept hk, ⟨t', ?_⟩, q⟩
  rw [preSum_eq, List.take_of_length_le (by simp), en]
theorem call_minL (hc : X.calm = true) : CallR X (.builtin "min") (fun xs H Q => ∃ (p : Addr) (ns : List Int), xs = [.ref p] ∧ SqL X.K H p (ns.map V.int) ∧ ns ≠ [] ∧ ∀ m : Int, m ∈ ns → (∀ a ∈ ns, m ≤ a) → Q (.int m) H) := by
  intro pins s σ H xs us Q I r h
  obtain ⟨p, ns, rfl, hq, hne, q⟩ := h
  obtain ⟨u, rfl, rx⟩ := vals1 r
  cases rx
  obtain ⟨its, r', pl, hz⟩ := I.list hq
  obtain ⟨ys, e, en⟩ := ints_items (K := X.K) r'
  have hsz : 0 < ys.size := by
    rcases Nat.eq_zero_or_pos ys.size with z | z
    · exfalso; apply hne; rw [en]; simp [Array.size_eq_zero_iff.mp z]
    · exact z
  refine min_intList (xs := ys) (I.ok.hd hc) (e ▸ pl.isList) hsz fun v h' tk hv hk => ?_
  obtain ⟨t, rfl⟩ := intItems_at (xs := ys) hv
  have best := argBest_lt (numAt ys) (ys.size - 1)
  obtain ⟨p1, e1⟩ := num_at en (Nat.lt_of_le_of_lt best.1 (show ys.size - 1 < ys.size by omega))
  refine ⟨.int _, H, I.kept hk, ⟨t, rfl⟩, q _ (e1 ▸ List.getElem_mem p1) fun a ha => ?_⟩
  obtain ⟨j, p2, rfl⟩ := List.getElem_of_mem ha
  have lj : j < ys.size := by rw [en] at p2; simpa using p2
  obtain ⟨p3, e3⟩ := num_at en lj
  exact e3 ▸ best.2 j (by omega)
theorem call_maxL (hc : X.calm = true) : CallR X (.builtin "max") (fun xs H Q => ∃ (p : Addr) (ns : List Int), xs = [.ref p] ∧ SqL X.K H p (ns.map V.int) ∧ ns ≠ [] ∧ ∀ m : Int, m ∈ ns → (∀ a ∈ ns, a ≤ m) → Q (.int m) H) := by
  intro pins s σ H xs us Q I r h
  obtain ⟨p, ns, rfl, hq, hne, q⟩ := h
  obtain ⟨u, rfl, rx⟩ := vals1 r
  cases rx
  obtain ⟨its, r', pl, hz⟩ := I.list hq
  obtain ⟨ys, e, en⟩ := ints_items (K := X.K) r'
  have hsz : 0 < ys.size := by
    rcases Nat.eq_zero_or_pos ys.size with z | z
    · exfalso; apply hne; rw [en]; simp [Array.size_eq_zero_iff.mp z]
    · exact z
  refine max_intList (xs := ys) (I.ok.hd hc) (e ▸ pl.isList) hsz fun v h' tk hv hk => ?_
  obtain ⟨t, rfl⟩ := intItems_at (xs := ys) hv
  have best := argBest_gt (numAt ys) (ys.size - 1)
  obtain ⟨p1, e1⟩ := num_at en (Nat.lt_of_le_of_lt best.1 (show ys.size - 1 < ys.size by omega))
  refine ⟨.int _, H, I.kept hk, ⟨t, rfl⟩, q _ (e1 ▸ List.getElem_mem p1) fun a ha => ?_⟩
  obtain ⟨j, p2, rfl⟩ := List.getElem_of_mem ha
  have lj : j < ys.size := by rw [en] at p2; simpa using p2
  obtain ⟨p3, e3⟩ := num_at en lj
  exact e3 ▸ best.2 j (by omega)
noncomputable def rIndex (K : PySem.W.Frag) : V → List V → Hp → VK → Prop := fun x vs H Q => ∃ (l : Addr) (xs : List V) (y : V) (j : Nat), x = .ref l ∧ vs = [y] ∧ SqL K H l xs ∧ xs.all flatV = true ∧ flatV y = true ∧ j < xs.length ∧
  (∀ z, xs[j]? = some z → eqV z y = true) ∧ (∀ (m : Nat) z, m < j → xs[m]? = some z → eqV z y = false) ∧ Q (.int j) H
theorem mt_index : MtR X "list.index" (rIndex X.K) := by
  intro pins s σ H x vs v us Q I rx rv h
  obtain ⟨l, xs, y, j, rfl, rfl, hq, fx, fy, hj, h1, h2, q⟩ := h
  cases rx
  obtain ⟨u, rfl, ru⟩ := rv.one
  obtain ⟨its, r, pl, hz⟩ := I.list hq
  have hlen := r.length
  obtain ⟨⟨cls, dd, data, sl⟩, ho, hc, n, hd⟩ := pl.isList
  simp only at hc hd
  subst hc hd
  have hu : ∀ (i : Nat) (hi : i < its.toArray.size), ∃ z, xs[i]? = some z ∧ eqU y its.toArray[i] = eqV z y := fun i hi => by
    have hi' : i < its.length := by simpa using hi
    have hx : xs[i]? = some (xs[i]'(by omega)) := List.getElem?_eq_getElem (by omega)
    obtain ⟨w', hw, rw'⟩ := r.get hx
    have e : its.toArray[i] = w' := by
      rw [List.getElem?_eq_getElem hi'] at hw
      simpa using Option.some.inj hw
    refine ⟨_, hx, ?_⟩
    rw [e]
    exact eqU_of rw' (List.all_eq_true.mp fx _ (List.mem_of_getElem? hx))
  have hjs : j < its.toArray.size := by rw [List.size_toArray]; omega
  have hline : sizeLine < 2 ^ 63 - 1 := by decide
  refine call_meets PySem.F.slot_list_index ⟨_, ho, rfl⟩ PySem.F.entry_list_index (PySem.F.args_list_index_2 _ _)
    (SeqAt.list_indexAt l its.toArray n dd sl u (eqU y) j hjs (by omega) ?_ ?_) ⟨ho, fun w' hw => mem_eqAt ru fy r fx w' (by simpa using hw), ⟨.int j, H, I.tok _, ⟨_, rfl⟩, q⟩⟩
  · obtain ⟨z, hz', ez⟩ := hu j hjs
    show eqU y its.toArray[j] = true
    rw [ez]; exact h1 z hz'
  · intro m hm hlt
    obtain ⟨z, hz', ez⟩ := hu m hm
    show eqU y its.toArray[m] = false
    rw [ez]; exact h2 m z hlt hz'
theorem strs_are : ∀ {ys : List Str} {its : List Value}, Vals (ys.map V.str) its → StrsAre its ys := by
  intro ys
  induction ys with
  | nil => intro its r; cases r; exact .nil
  | cons y r ih =>
    intro its h
    cases h with
    | cons a b =>
      obtain ⟨t, rfl⟩ := a
      exact .cons _ _ (ih b)
noncomputable def rJoin (K : PySem.W.Frag) : V → List V → Hp → VK → Prop := fun x vs H Q => ∃ (z : Str) (l : Addr) (ys : List Str), x = .str z ∧ vs = [.ref l] ∧ (SqL K H l (ys.map V.str) ∨ SqT K H l (ys.map V.str)) ∧
  (ys.map (·.length)).sum + ys.length * z.length ≤ 16777216 ∧ Q (.str (Txt.join z ys)) H
theorem mt_join : MtR X "str.join" (rJoin X.K) := by
  intro pins s σ H x vs v us Q I rx rv h
  obtain ⟨z, l, ys, rfl, rfl, hq, hz, q⟩ := h
  obtain ⟨t, rfl⟩ := rx
  obtain ⟨u, rfl, ru⟩ := rv.one
  cases ru
  rcases hq with hq | hq
  · obtain ⟨its, r, pl, _⟩ := I.list hq
    exact join_list pl.isList (by simpa using strs_are r) hz fun t' k => ⟨.str _, H, I.tok _, ⟨_, rfl⟩, q⟩
  · obtain ⟨its, r, pl, _⟩ := I.tuple hq
    exact join_tuple pl (by simpa using strs_are r) hz fun t' k => ⟨.str _, H, I.tok _, ⟨_, rfl⟩, q⟩
end
end L2
namespace L2
open PySem PySem.Spec PyProof.Rows
mutual
inductive DatV (K : PySem.W.Frag) (H : Hp) : V → PyData → Prop where
  | non : DatV K H .non .none
  | bl (b : Bool) : DatV K H (.bl b) (.bool b)
  | int (i : Int) : DatV K H (.int i) (.int i)
  | str (x : Str) : DatV K H (.str x) (.str x)
  | lst {a : Addr} {xs : List V} {ds : List PyData} : SqL K H a xs → DatVs K H xs ds → DatV K H (.ref a) (.list ds)
  | tup {a : Addr} {xs : List V} {ds : List PyData} : SqT K H a xs → DatVs K H xs ds → DatV K H (.ref a) (.tuple ds)
inductive DatVs (K : PySem.W.Frag) (H : Hp) : List V → List PyData → Prop where
  | nil : DatVs K H [] []
  | cons {x : V} {d : PyData} {xs : List V} {ds : List PyData} : DatV K H x d → DatVs K H xs ds → DatVs K H (x :: xs) (d :: ds)
end
section
variable {X : Cx} {pins : List (Addr × Obj)} {σ : St} {H : Hp} {s : Shared}
mutual
theorem DatV.reads (I : Inv X pins σ H s) : ∀ {x : V} {d : PyData} {u : Value}, DatV X.K H x d → RelV x u → ∃ as, Reads s.heap u d as
  | _, _, _, .non, r => by cases r; exact ⟨_, .none⟩
  | _, _, _, .bl b, r => by cases r; exact ⟨_, .bool b⟩
  | _, _, _, .int i, r => by obtain ⟨t, rfl⟩ := r; exact ⟨_, .int i t⟩
  | _, _, _, .str x, r => by obtain ⟨t, rfl⟩ := r; exact ⟨_, .str x t⟩
  | _, _, _, .lst hq hs, r => by
    cases r
    obtain ⟨its, rv, ⟨o, n, e, c, _, d⟩, _⟩ := I.list hq
    obtain ⟨as, h⟩ := DatVs.reads I hs rv
    exact ⟨_, .list e c d (by simpa using h)⟩
  | _, _, _, .tup hq hs, r => by
    cases r
    obtain ⟨its, rv, ⟨o, e, c, n, d⟩, _⟩ := I.tuple hq
    obtain ⟨as, h⟩ := DatVs.reads I hs rv
    exact ⟨_, .tuple e c d (by simpa using h)⟩
theorem DatVs.reads (I : Inv X pins σ H s) : ∀ {xs : List V} {ds : List PyData} {us : List Value}, DatVs X.K H xs ds → Vals xs us → ∃ as, ReadsAll s.heap us ds as
  | _, _, _, .nil, .nil => ⟨_, .nil⟩
  | _, _, _, .cons h hs, .cons r rs => by
    obtain ⟨as, h1⟩ := DatV.reads I h r
    obtain ⟨bs, h2⟩ := DatVs.reads I hs rs
    exact ⟨_, .cons h1 h2⟩
end
end
section
variable {X : Cx}
noncomputable def rEqD (K : PySem.W.Frag) (neg : Bool) : R2 := fun x y H Q => ∃ da db, DatV K H x da ∧ DatV K H y db ∧ da.canLay0 = true ∧ db.canLay0 = true ∧ min da.depth db.depth ≤ 60 ∧ Q (.bl (if neg then !PyData.eqv da db else PyData.eqv da db)) H
theorem op_eqD (hu : X.A.units + 64 < cLine) : OpR X (compareOp .Eq) (rEqD X.K false) := by
  intro pins s σ H x y v u Q I rx ry h
  obtain ⟨da, db, h1, h2, l1, l2, dp, q⟩ := h
  obtain ⟨as, r1⟩ := h1.reads I rx
  obtain ⟨bs, r2⟩ := h2.reads I ry
  exact SeqAt.compareEq_reads r1 r2 l1 l2 (by omega) ⟨.bl _, H, I, rfl, q⟩
theorem op_neD (hu : X.A.units + 64 < cLine) : OpR X (compareOp .NotEq) (rEqD X.K true) := by
  intro pins s σ H x y v u Q I rx ry h
  obtain ⟨da, db, h1, h2, l1, l2, dp, q⟩ := h
  obtain ⟨as, r1⟩ := h1.reads I rx
  obtain ⟨bs, r2⟩ := h2.reads I ry
  exact SeqAt.compareNe_reads r1 r2 l1 l2 (by omega) ⟨.bl _, H, I, rfl, q⟩
noncomputable def rEqNil (K : PySem.W.Frag) (neg : Bool) : R2 := fun x y H Q => ∃ (a b : Addr) (xs : List V), x = .ref a ∧ y = .ref b ∧ SqL K H a xs ∧ SqL K H b [] ∧ Q (.bl (if neg then !xs.isEmpty else xs.isEmpty)) H
theorem op_eqNil (hu : X.A.units + 64 < cLine) : OpR X (compareOp .Eq) (rEqNil X.K false) := by
  intro pins s σ H x y v u Q I rx ry h
  obtain ⟨a, b, xs, rfl, rfl, h1, h2, q⟩ := h
  cases rx
  cases ry
  obtain ⟨its, r1, p1, _⟩ := I.list h1
  obtain ⟨its2, r2, p2, _⟩ := I.list h2
  cases r2
  have q' : ∀ b', b' = xs.isEmpty → EP X pins σ Q (.bool b') s := fun b' e => ⟨.bl b', H, I, rfl, by subst e; exact q⟩
  cases r1 with
  | nil => exact SeqAt.RcAt.lists (e := fun _ => true) p1.isList p2.isList rfl (by omega) (fun i h1 _ => by simp at h1) X.prog X.w _ _ (q' _ (by simp))
  | cons r rr => exact SeqAt.RcAt.lists_lengths p1.isList p2.isList (by simp) (by omega) X.prog X.w _ _ (q' _ rfl)
end
end L2
namespace L2
open PySem PySem.Spec PyProof.Rows
section
variable {X : Cx}
noncomputable def cutS (z : Str) (lo hi : Option Int) : Str := ⟨((z.cps.toList.drop (HT.sIx z.length 0 lo)).take (HT.sIx z.length z.length hi - HT.sIx z.length 0 lo)).toArray⟩
theorem indices_cut (lo hi : Option Int) (n : Nat) : Builtin.Str.strSliceIndices lo hi 1 n = (List.range (HT.sIx n n hi - HT.sIx n 0 lo)).map (HT.sIx n 0 lo + ·) := by
  unfold Builtin.Str.strSliceIndices
  rw [← sliceRange_one]
  have h1 : ∀ (v : Option Int) (d : Nat), d ≤ n → (match v with | none => ((d : Nat) : Int) | some i => if (1 : Int) > 0 then max 0 (min (if i < 0 then i + (n : Int) else i) (n : Int)) else max (-1) (min (if i < 0 then i + (n : Int) else i) ((n : Int) - 1))) = ((HT.sIx n d v : Nat) : Int) := by
    intro v d hd
    cases v with
    | none => rfl
    | some i =>
      simp only [HT.sIx, show (1 : Int) > 0 by decide, if_true]
      by_cases h : i < 0
      · simp only [h, if_true] <;> omega
      · simp only [h, if_false] <;> omega
  have e1 := h1 lo 0 (Nat.zero_le _)
  have e2 := h1 hi n (Nat.le_refl _)
  simp only [show (1 : Int) > 0 by decide, if_true] at e1 e2 ⊢
  rw [← e1, ← e2]
  cases lo <;> cases hi <;> rfl
noncomputable def rSlS : V → Option Int → Option Int → Hp → VK → Prop := fun x lo hi H Q => ∃ z : Str, x = .str z ∧ z.length ≤ sizeLine ∧ Q (.str (cutS z lo hi)) H
theorem part_pair {v : Value} {o : Option Int} (p : IsPart v o) : ∃ l : Option (Int × Tok), v = partValue l ∧ o = l.map (·.1) := by
  cases p with
  | none => exact ⟨none, rfl, rfl⟩
  | int i t => exact ⟨some (i, t), rfl, rfl⟩
theorem str_len_list (z : Str) : z.cps.toList.length = z.length := by
  rw [Array.length_toList]; rfl
theorem str_ext {a b : Str} (h : a.cps.toList = b.cps.toList) : a = b := by
  obtain ⟨a⟩ := a; obtain ⟨b⟩ := b
  congr
  exact Array.toList_inj.mp h
theorem sl_str : SlR X rSlS := by
  intro pins s σ H x v vl vu lo hi sl Q I rx hs pl pu h
  obtain ⟨z, rfl, hz, q⟩ := h
  obtain ⟨t, rfl⟩ := rx
  obtain ⟨l, rfl, rfl⟩ := part_pair pl
  obtain ⟨u, rfl, rfl⟩ := part_pair pu
  refine ⟨"str", _, PySem.F.slot_str_getitem.lookup, typeIs_str _ z t, ?_⟩
  refine wpAny_getItem_str_slice (l := l) (u := u) (st := none) hs rfl ?_
  have e : slicePicked z l u none = (List.range (HT.sIx z.length z.length (u.map (·.1)) - HT.sIx z.length 0 (l.map (·.1)))).map (HT.sIx z.length 0 (l.map (·.1)) + ·) := indices_cut _ _ _
  have e2 : (⟨((slicePicked z l u none).filterMap (z.cps[·]?)).toArray⟩ : Str) = cutS z (l.map (·.1)) (u.map (·.1)) := by
    rw [e, pick_run]; rfl
  have hle := HT.sIx_le z.length z.length (Nat.le_refl _) (u.map (·.1))
  have hle0 := HT.sIx_le z.length 0 (Nat.zero_le _) (l.map (·.1))
  unfold sliceMade
  split
  · rename_i hc
    have hc' : (slicePicked z l u none).length = z.length := by
      have := (Bool.and_eq_true _ _).mp hc
      exact eq_of_beq this.2
    have e3 : cutS z (l.map (·.1)) (u.map (·.1)) = z := by
      rw [e, List.length_map, List.length_range] at hc'
      apply str_ext
      show ((z.cps.toList.drop _).take _) = z.cps.toList
      have h0 : HT.sIx z.length 0 (l.map (·.1)) = 0 := by omega
      rw [h0] at hc' ⊢
      rw [List.drop_zero, List.take_of_length_le]
      rw [str_len_list]; omega
    rw [e3] at q
    exact ⟨.str z, H, I, ⟨t, rfl⟩, q⟩
  · rw [e2]
    refine ⟨?_, .str _, H, I.tok _, ⟨_, rfl⟩, q⟩
    have : (cutS z (l.map (·.1)) (u.map (·.1))).length ≤ z.length := by
      show ((z.cps.toList.drop _).take _).toArray.size ≤ _
      rw [List.size_toArray, List.length_take, List.length_drop, str_len_list]
      omega
    omega
theorem hits_same {A : Around} {s : Shared} {kvs : List (Key × V)} {kb : List (Key × Value)} (rb : KV kvs kb) (hn : (kvs.map (·.1)).Nodup) :
    ∀ (r : List (Key × V)) (ka : List (Key × Value)), KV r ka → (∀ p ∈ r, p ∈ kvs) → (∀ p ∈ r, flatV p.2 = true ∧ eqV p.2 p.2 = true) → PySem.W.KeqHits A s kb ka true := by
  intro r
  induction r with
  | nil => intro ka h _ _; cases h; exact .nil
  | cons p r ih =>
    intro ka h hm hf
    cases h with
    | cons h1 h2 =>
      rename_i q ka'
      obtain ⟨k, v⟩ := p
      obtain ⟨k', v'⟩ := q
      obtain ⟨e, rv⟩ := h1
      have e : k = k' := e
      subst e
      have hv : valV kvs k = some v := by
        have hp := hm (k, v) List.mem_cons_self
        have : ∀ (l : List (Key × V)), (l.map (·.1)).Nodup → (k, v) ∈ l → valV l k = some v := by
          intro l
          induction l with
          | nil => intro _ h; cases h
          | cons a l il =>
            intro hn hm
            have hn : (a.1 :: l.map (·.1)).Nodup := hn
            obtain ⟨n1, n2⟩ := List.nodup_cons.mp hn
            rcases List.mem_cons.mp hm with z | z
            · subst z; exact valV_pos rfl
            · rw [valV_neg (fun e => n1 (by rw [e]; exact List.mem_map.mpr ⟨_, z, rfl⟩))]; exact il n2 z
        exact this kvs hn hp
      have hr := rb.val k
      rw [hv] at hr
      obtain ⟨y, ey, ry⟩ := hr.some_of
      obtain ⟨f1, f2⟩ := hf (k, v) List.mem_cons_self
      have hE : SeqAt.EqAt A s v' y (eqV v v) := eqAt_V rv ry f1 f1
      rw [f2] at hE
      have := PySem.W.KeqHits.hit ey hE (ih ka' h2 (fun p hp => hm p (List.mem_cons_of_mem _ hp)) fun p hp => hf p (List.mem_cons_of_mem _ hp))
      simpa using this
noncomputable def rEqDict (v : Bool) : R2 := fun x y H Q => ∃ (a b : Addr) (kvs : List (Key × V)), x = .ref a ∧ y = .ref b ∧ H a = some (.dK kvs) ∧ H b = some (.dK kvs) ∧ (kvs.map (·.1)).Nodup ∧ (∀ p ∈ kvs, flatV p.2 = true ∧ eqV p.2 p.2 = true) ∧ Q (.bl v) H
theorem op_neDict (hu : X.A.units < cLine) : OpR X (compareOp .NotEq) (rEqDict false) := by
  intro pins s σ H x y v u Q I rx ry h
  obtain ⟨a, b, kvs, rfl, rfl, h1, h2, hn, hf, q⟩ := h
  cases rx
  cases ry
  obtain ⟨z1, d1, va, ra, da⟩ := dk_of I.hok h1
  obtain ⟨z2, d2, vb, rb, db⟩ := dk_of I.hok h2
  have hl : va.length = vb.length := by rw [← ra.length, ← rb.length]
  refine PySem.W.keq_ne d1 d2 da db hu (fun _ => hits_same rb hn kvs va ra (fun _ h => h) hf) ⟨.bl _, H, I, rfl, ?_⟩
  rw [hl]; simpa using q
theorem call_isi : CallR X (.builtin "isinstance") (fun xs H Q => ∃ (x c : V) (t cv : Value) (b : Bool), xs = [x, c] ∧ RelV c cv ∧ TyOf X.K H x t ∧ PySem.W.kitOne X.K t cv = some b ∧ Q (.bl b) H) := by
  intro pins s σ H xs us Q I r h
  obtain ⟨x, c, t, cv, b, rfl, rc, ty, e, q⟩ := h
  obtain ⟨u, w', rfl, r1, r2⟩ := vals2 r
  have : w' = cv := by
    cases c with
    | ref a => cases rc; cases r2; rfl
    | ty n => cases rc; cases r2; rfl
    | non => cases rc; cases r2; rfl
    | bl b => cases rc; cases r2; rfl
    | int i => obtain ⟨z, rfl⟩ := rc; exact absurd e (by unfold PySem.W.kitOne PySem.W.kitCls; cases ty <;> simp)
    | str i => obtain ⟨z, rfl⟩ := rc; exact absurd e (by unfold PySem.W.kitOne PySem.W.kitCls; cases ty <;> simp)
    | byt i => obtain ⟨z, rfl⟩ := rc; exact absurd e (by unfold PySem.W.kitOne PySem.W.kitCls; cases ty <;> simp)
    | flt i => obtain ⟨z, rfl⟩ := rc; exact absurd e (by unfold PySem.W.kitOne PySem.W.kitCls; cases ty <;> simp)
  subst this
  exact isinst_ok I r1 ty e fun tk => ⟨.bl b, H, I.tok _, rfl, q⟩
end
end L2
namespace HT
open PySem PyProof.Rows
section
variable {prog : Program} {w : World} {A : Around} {E : Value → Shared → Prop} {s : Shared}
end
end HT
namespace L2
open PySem PySem.Spec PyProof.Rows
section
variable {X : Cx} {e st : Expr} {te ts : TE} {p2 pos : Pos}
end
noncomputable def Its (z : Str) : It := ⟨fun i _ => i < z.length, fun i H x H' => H' = H ∧ ∃ c, z.cps[i]? = some c ∧ x = .str ⟨#[c]⟩, fun i _ => z.length ≤ i⟩
theorem turn_str {P : Program} {w : World} {K : PySem.W.Frag} {tg : Expr} (z : Str) (t : Tok) (it : Addr) : Turn P w K tg (Its z) [it] it (fun i h => h.IsStrIter it "str_ascii_iterator" z t i) where
  mem := by simp
  obj := fun i h st b hb => by
    have e : b = it := by simpa using hb
    subst e
    obtain ⟨o, e, c, d⟩ := st
    exact ⟨o, e, fun v z => by rw [d] at z; cases z⟩
  keep := fun i h h' st k => by
    obtain ⟨o, e, r⟩ := st
    exact ⟨o, k it (by simp) o e, r⟩
  item := by
    intro X hP hw hK hc i pins s σ H E I hf st hg
    subst hP hw hK
    have hg : i < z.length := hg
    obtain ⟨f0, f1, f2, f3, f4, f5⟩ := hf it (by simp)
    have hz : z.cps[i]? = some (z.cps[i]'hg) := Array.getElem?_eq_getElem hg
    refine wpAny_pyNext_ascii_item st hz fun h' st' sb => ?_
    have I1 : Inv X pins σ H { s with heap := h', toks := s.toks + 1 } := I.turned (t' := s.toks + 1) (fun b o hb e => (sb.2 b hb).trans e) f0 f1 f3 f4 f5
    obtain ⟨o, e, c, d⟩ := id st'
    exact ⟨_, rfl, go_of (s := { s with heap := h', toks := s.toks + 1 }) e c d (by decide) ⟨.str ⟨#[z.cps[i]'hg]⟩, H, I1, ⟨_, rfl⟩, ⟨rfl, _, hz, rfl⟩, st', fun b hb => (hf b hb).1⟩⟩
  done := by
    intro X hP hw hK hc i pins s σ H E I hf st hg
    subst hP hw hK
    have hg : z.length ≤ i := hg
    obtain ⟨f0, f1, f2, f3, f4, f5⟩ := hf it (by simp)
    exact wpAny_pyNext_ascii_end (I.ok.hd hc) st (Array.getElem?_eq_none (by exact hg)) fun h' eb => ⟨rfl, I.turned (t' := s.toks) (fun b o hb e => eb b o hb e) f0 f1 f3 f4 f5⟩
  self := fun _ _ _ _ _ st h => wpAny_pyIter_striter_ascii st h
section
variable {X : Cx} {tg : Expr}
noncomputable def iStr (tl : TE) : TI := fun σ H R => tl σ H fun x H1 => ∃ z : Str, x = .str z ∧ z.cps.all (· < 128) = true ∧ R (Its z) H1
theorem pi_str {l : Expr} {tl : TE} (hl : PE X l tl) : PI X tg l (iStr tl) := by
  intro pins s σ H R I h
  refine thn (hl pins s σ H _ I h) fun v s1 ⟨x, H1, I1, r1, z, e1, ha, q⟩ => ?_
  subst e1
  obtain ⟨t, rfl⟩ := r1
  refine wpAny_pyIter_ascii ha ?_
  have I2 : Inv X pins σ H1 { s1 with heap := s1.heap.push { cls := .type "str_ascii_iterator", data := .fields #[.str z t, .int 0 0] } } := I1.kept (t' := s1.toks) fun b ob q => Heap.get?_push_of_some _ q
  refine ⟨s1.heap.objs.size, [s1.heap.objs.size], _, Its z, H1, rfl, I2, turn_str z t _, ⟨_, Heap.get?_push_size _ rfl, rfl, rfl⟩, fun b hb => ?_, q⟩
  have e : b = s1.heap.objs.size := by simpa using hb
  subst e
  exact I1.fpOk (Nat.le_refl _) (I1.hok.fresh (Nat.le_refl _))
end
end L2
namespace L2
open PySem PySem.Spec PyProof.Rows
noncomputable def dedS (acc : List Str) (x : Str) : List Str := if x ∈ acc then acc else acc ++ [x]
noncomputable def ddS (l : List Str) : List Str := l.foldl dedS []
theorem ddS_snoc (l : List Str) (x : Str) : ddS (l ++ [x]) = dedS (ddS l) x := by unfold ddS; rw [List.foldl_append]; rfl
theorem mem_dedS (acc : List Str) (x y : Str) : y ∈ dedS acc x ↔ y ∈ acc ∨ y = x := by
  unfold dedS
  split
  · rename_i h
    constructor
    · exact .inl
    · rintro (q | q)
      · exact q
      · rw [q]; exact h
  · simp [List.mem_append]
theorem len_dedS (acc : List Str) (x : Str) : (dedS acc x).length = if x ∈ acc then acc.length else acc.length + 1 := by
  unfold dedS
  split <;> simp
theorem ddS_le (l : List Str) : ∀ k, (ddS (l.take k)).length ≤ k := by
  intro k
  induction k with
  | zero => simp [ddS]
  | succ k ih =>
    rw [List.take_add_one]
    cases e : l[k]? with
    | none => simp; omega
    | some x =>
      simp only [Option.toList_some]
      rw [ddS_snoc, len_dedS]
      split <;> omega
theorem dedS_mono (r : List Str) : ∀ acc, acc.length ≤ (r.foldl dedS acc).length ∧ (r.foldl dedS acc).length ≤ acc.length + r.length := by
  induction r with
  | nil => intro acc; simp
  | cons x r ih =>
    intro acc
    have h := ih (dedS acc x)
    rw [len_dedS] at h
    simp only [List.foldl_cons, List.length_cons]
    split at h <;> omega
theorem dedS_nodup : ∀ (r acc : List Str), acc.Nodup → (r.foldl dedS acc).length = acc.length + r.length → (acc ++ r).Nodup := by
  intro r
  induction r with
  | nil => intro acc h _; simpa using h
  | cons x r ih =>
    intro acc h e
    simp only [List.foldl_cons, List.length_cons] at e
    have hb := dedS_mono r (dedS acc x)
    rw [len_dedS] at hb
    by_cases hx : x ∈ acc
    · rw [if_pos hx] at hb; omega
    · have e1 : dedS acc x = acc ++ [x] := by unfold dedS; rw [if_neg hx]
      rw [e1] at e
      have := ih (acc ++ [x]) (nd_snoc h hx) (by rw [e]; simp; omega)
      simpa using this
theorem ddS_nodup {l : List Str} (h : (ddS l).length = l.length) : l.Nodup := by
  have := dedS_nodup l [] List.nodup_nil (by simpa [ddS] using h)
  simpa using this
theorem ddS_of_nodup {l : List Str} (h : l.Nodup) : (ddS l).length = l.length := by
  have : ∀ (r acc : List Str), (acc ++ r).Nodup → r.foldl dedS acc = acc ++ r := by
    intro r
    induction r with
    | nil => intro acc _; simp
    | cons x r ih =>
      intro acc hn
      have hx : ¬ x ∈ acc := fun m => by
        have := (List.nodup_append.mp hn).2.2 x m x List.mem_cons_self
        exact this rfl
      simp only [List.foldl_cons]
      have e1 : dedS acc x = acc ++ [x] := by unfold dedS; rw [if_neg hx]
      rw [e1, ih (acc ++ [x]) (by simpa using hn)]
      simp
  unfold ddS
  rw [this l [] (by simpa using h)]
  simp
theorem strSet_congr {P : Program} {w : World} {h : Heap} {a : Addr} {S S' : Str → Bool} {n n' : Nat} (z : h.SetOf (PySem.strKind P w) a S n) (e : ∀ k, S k = S' k) (en : n = n') : h.SetOf (PySem.strKind P w) a S' n' := by
  have : S = S' := funext e
  subst this en
  exact z
section
variable {prog : Program} {w : World} {A : Around} {R : Result → Shared → Prop} {J : Addr} {fp wr : List Addr} {G : Array GenState → Array GenState → Prop} {n : Nat} {P : Nat → Value → Prop} {St : Nat → Shared → Prop}
theorem strs_loop (W : WalksS prog w A.in1 J fp wr G n P St) (a : Addr) (haf : a ∉ fp) (ys : List Str) (hys : ys.length = n) (hp : ∀ i v, P i v → ∃ x t, ys[i]? = some x ∧ v = .str x t) (hb : n + 1 < scanBound) :
    ∀ (k i : Nat) (s : Shared), n - i = k → i ≤ n → St i s → s.heap.SetOf (PySem.strKind prog w) a (fun x => decide (x ∈ ddS (ys.take i))) (ddS (ys.take i)).length →
      (∀ s', Moved (a :: wr) G s s' → s'.heap.SetOf (PySem.strKind prog w) a (fun x => decide (x ∈ ddS ys)) (ddS ys).length → R (.ok (.ret .none)) s') →
      codeAny (model prog w) A (.builtin "set.update.loop" ⟨[.ref a, .ref J], []⟩) R s := by
  have haw : a ∉ wr := fun z => haf (W.sub _ z)
  have hsub : ∀ b ∈ wr, b ∈ a :: wr := fun b z => List.mem_cons_of_mem _ z
  intro k
  induction k with
  | zero =>
    intro i s hk hi st hS hR
    have ei : i = n := by omega
    subst ei
    rw [List.take_of_length_le (by omega)] at hS
    refine codeAny_builtin PyProof.Rows.F.entry_set_update_loop ?_
    rw [Around.under_plainId PyProof.Rows.F.plain_set_update_loop _]
    show wpAny _ A.in1 (pyNext (.ref J) >>= _) _ _ s
    refine wpAny_bind (W.done s _ _ st fun s' mv => ?_)
    show wpAny _ A.in1 (ret Value.none) _ _ s'
    obtain ⟨o, es, ep, t, ho, rest⟩ := hS
    exact wpAny_pure (hR s' (mv.mono hsub) ⟨o, es, ep, t, mv.heap a _ haw ho, rest⟩)
  | succ k ih =>
    intro i s hk hi st hS hR
    have hlt : i < n := by omega
    refine codeAny_builtin PyProof.Rows.F.entry_set_update_loop ?_
    rw [Around.under_plainId PyProof.Rows.F.plain_set_update_loop _]
    show wpAny _ A.in1 (pyNext (.ref J) >>= _) _ _ s
    refine wpAny_bind (W.item i s _ _ hlt st fun v s' hv st' mv => ?_)
    obtain ⟨x, t, hx, rfl⟩ := hp i v hv
    have hS1 : s'.heap.SetOf (PySem.strKind prog w) a (fun x => decide (x ∈ ddS (ys.take i))) (ddS (ys.take i)).length := by
      obtain ⟨o, es, ep, tb, ho, rest⟩ := hS
      exact ⟨o, es, ep, tb, mv.heap a _ haw ho, rest⟩
    show wpAny _ A.in1 (holding [Value.str x t] (setAdd a (.str x t)) >>= _) _ _ s'
    refine wpAny_bind (wpAny_holding ?_)
    unfold setAdd
    refine wpAny_holding ?_
    have hk' : (PySem.strKind prog w).is x (.str x t) = true := by simp [PySem.strKind, Value.isStrOf]
    refine wpAny_bind ((PySem.strKind prog w).pyHash (k := x) hk' ?_)
    have hroom : (ddS (ys.take i)).length + 1 < scanBound := by have := ddS_le ys i; omega
    refine wpAny_setAddHashed_of (knd := strKind prog w) (s := { s' with toks := s'.toks + 1 }) hk' rfl hS1 hroom fun h' sb hS2 => ?_
    have et : ys.take (i + 1) = ys.take i ++ [x] := by rw [List.take_add_one, hx]; rfl
    have hS3 : h'.SetOf (PySem.strKind prog w) a (fun x => decide (x ∈ ddS (ys.take (i + 1)))) (ddS (ys.take (i + 1))).length := by
      refine strSet_congr hS2 (fun y => ?_) ?_
      · rw [et, ddS_snoc]
        have := mem_dedS (ddS (ys.take i)) x y
        by_cases h1 : y ∈ ddS (ys.take i) <;> by_cases h2 : y = x <;> simp only [h1, h2, true_or, or_true, or_false, false_or] at this <;> simp [this, h1, h2]
        all_goals (subst h2; simp [this])
      · rw [et, ddS_snoc, len_dedS]
        by_cases h1 : x ∈ ddS (ys.take i) <;> simp [h1]
    refine wpAny_pure ⟨plainId_quiet PyProof.Rows.F.plain_set_update_loop _, ih (i + 1) _ (by omega) hlt (W.frame _ s' _ _ st' (Nat.le_succ _) fun b hb o e => ?_) hS3 fun s'' mv'' hS'' => ?_⟩
    · rw [sb.2 b (fun z : b = a => haf (by rw [← z]; exact hb))]; exact e
    · refine hR s'' (Moved.trans W.gtrans ((mv.mono hsub).then_heap (Nat.le_succ _) fun b o hb e => ?_) mv'') hS''
      rw [sb.2 b (fun z : b = a => hb (by rw [z]; exact List.mem_cons_self))]; exact e
end
end L2
namespace PySem
open PyProof.Rows L2
section
variable {prog : Program} {w : World} {A : Around}
theorem make_set {E : Value → Shared → Prop} {s : Shared} {x : Value} {Q : Value → Shared → Prop}
    (fill : ∀ g, wpAny (model prog w) A.in1.in1 (Builtin.«set.__init__» ⟨[.ref s.heap.objs.size, x], []⟩)
      (fun f s1 => f = .done (.ret .none) ∧ Q (.ref s.heap.objs.size) s1) E { s with heap := s.heap.push { cls := .type "set", dict := none, data := .set #[] 0 (.fresh 0 0 g) } }) :
    wpAny (model prog w) A (call (.type "set") [x]) Q E s := by
  obtain ⟨c, r, mro⟩ := F.called_set.mro
  refine wpAny_call (codeAny_of_tree (wpAny_pure ⟨Code.quiet_builtin _ (by decide +kernel), codeAny_builtin F.entry_type_call ?_⟩))
  have it := F.called_set
  have body : wpAny (model prog w) A.in1 (Builtin.«type.__call__» ⟨[.type "set", x], []⟩) (fun f s1 => match f with | .done f => wants Q E (.ok f) s1 | .again c' => c'.quiet = true ∧ codeAny (model prog w) A c' (wants Q E) s1) (fun e s1 => wants Q E (.error e) s1) s := by
    unfold Builtin.«type.__call__»
    dsimp only
    rw [it.notType]
    simp only [Bool.false_eq_true, if_false, it.canCreate]
    refine wpAny_bind (wpAny_of_eq (F.typeCall_set_1 x) (wpAny_bind (wpAny_of_eq mro ?_)))
    rw [if_neg (show ¬ (c :: r).isEmpty = true from Bool.false_ne_true)]
    refine wpAny_bind (wpAny_of_eq it.made (wpAny_bind (wpAny_pure (wpAny_bind (wpAny_holding (wpAny_call (code_set_new_1 x fun g => ?_)))))))
    have isSet : Shared.TypeIs { s with heap := s.heap.push { cls := .type "set", dict := none, data := .set #[] 0 (.fresh 0 0 g) } } (.ref s.heap.objs.size) "set" := ⟨_, Heap.get?_push_size _ rfl, rfl⟩
    refine wpAny_bind (wpAny_isInstance isSet it.sub ?_)
    rw [if_neg (show ¬ (!true) = true from Bool.false_ne_true)]
    refine wpAny_bind (wpAny_holding (wpAny_callSpecial?_slot isSet it.init (wpAny_call (codeAny_call_builtin it.init.plain F.entry_set_init (check_set_init_1 isSet ?_)))))
    refine wpAny_mono (fill g) (fun f s1 q => ?_) fun _ _ q => q
    obtain ⟨rfl, q⟩ := q
    exact wpAny_pure q
  exact body
theorem fill_from {E : Value → Shared → Prop} {s : Shared} {S l : Addr} {its : Array Value} {Q : Unit → Shared → Prop} (hl : s.heap.IsList l its)
    (loop : codeAny (model prog w) A (.builtin "set.update.loop" ⟨[.ref S, .ref s.heap.objs.size], []⟩) (fun r s1 => match r with | .ok (.ret _) => Q () s1 | .ok _ => False | .error e => E e s1)
      { s with heap := s.heap.push { cls := .type "list_iterator", data := .fields #[.ref l, .int 0 0] } }) :
    wpAny (model prog w) A (Builtin.Frozenset.updateFrom "set.__init__" S (.ref l)) Q E s := by
  have noset : wpAny (model prog w) A (Builtin.Frozenset.isAnySet (.ref l)) (fun b s1 => b = false ∧ s1 = s) E s :=
    wpAny_bind (wpAny_isInstance hl.typeIs F.sub_list_set (wpAny_isInstance hl.typeIs F.sub_list_frozenset ⟨rfl, rfl⟩))
  refine wpAny_bind (wpAny_mono noset (fun b s1 q => ?_) fun _ _ q => q)
  obtain ⟨rfl, rfl⟩ := q
  refine wpAny_bind (wpAny_typeOf hl.typeIs (wpAny_bind (wpAny_pyIter_list hl (wpAny_bind (wpAny_runValue ?_)))))
  exact codeAny_mono loop fun r s1 q => by
    match r, q with
    | .ok (.ret v), q => exact wpAny_pure q
    | .error e, q => exact q
noncomputable abbrev newSetO (g : Bool) : Obj := { cls := .type "set", dict := none, data := .set #[] 0 (.fresh 0 0 g) }
theorem init_fill {E : Value → Shared → Prop} {s : Shared} {S : Addr} {g : Bool} {x : Value} {Q : Fin → Shared → Prop} (hS : s.heap.get? S = some (newSetO g))
    (fill : wpAny (model prog w) A (Builtin.Frozenset.updateFrom "set.__init__" S x) (fun _ s1 => Q (.done (.ret .none)) s1) E s) :
    wpAny (model prog w) A (Builtin.«set.__init__» ⟨[.ref S, x], []⟩) Q E s := by
  unfold Builtin.«set.__init__»
  generalize Builtin.Frozenset.updateFrom = up at fill ⊢
  wp_walk
  exact wpAny_mono fill (fun _ _ q => wpAny_pure q) fun _ _ q => q
theorem strs_len {us : List Value} {zs : List Str} (z : StrsAre us zs) : zs.length = us.length := by
  induction z with
  | nil => rfl
  | cons _ _ _ ih => rw [List.length_cons, List.length_cons, ih]
theorem strs_get {us : List Value} {zs : List Str} (z : StrsAre us zs) : ∀ {i : Nat} {v : Value}, us[i]? = some v → ∃ x t, zs[i]? = some x ∧ v = .str x t := by
  induction z with
  | nil => intro i v e; cases e
  | cons x t _ ih =>
    intro i v e
    match i, e with
    | 0, e => exact ⟨x, t, rfl, (Option.some.inj e).symm⟩
    | i + 1, e => exact ih (i := i) e
theorem same_but {s s' : Shared} (a : s'.gens = s.gens) (b : s'.drawn = s.drawn) (c : s'.os = s.os) : s' = { s with heap := s'.heap, toks := s'.toks } := by
  cases s
  cases s'
  cases a
  cases b
  cases c
  rfl
set_option maxHeartbeats 800000 in
theorem call_set_strs {E : Value → Shared → Prop} {s : Shared} {l : Addr} {items : Array Value} {ys : List Str} {Q : Value → Shared → Prop} (hh : A.handled = none) (hl : s.heap.IsList l items) (hi : StrsAre items.toList ys) (hb : items.size + 1 < scanBound)
    (h : ∀ (h' : Heap) (tk : Nat), h'.SetOf (PySem.strKind prog w) s.heap.objs.size (fun x => decide (x ∈ ddS ys)) (ddS ys).length → (∀ b o, b < s.heap.objs.size → s.heap.get? b = some o → h'.get? b = some o) →
      Q (.ref s.heap.objs.size) { s with heap := h', toks := tk }) : wpAny (model prog w) A (call (.type "set") [.ref l]) Q E s := by
  refine make_set fun g => init_fill (Heap.get?_push_size _ rfl) (fill_from (hl.push _) ?_)
  have two : (s.heap.push (newSetO g)).objs.size = s.heap.objs.size + 1 := Heap.size_push ..
  have lt : l < s.heap.objs.size := by
    obtain ⟨o, e, _⟩ := hl
    exact Heap.lt_size e
  have ne1 : l ≠ (s.heap.push (newSetO g)).objs.size := by
    rw [two]
    exact Nat.ne_of_lt (Nat.lt_succ_of_lt lt)
  have ne2 : s.heap.objs.size ∉ [(s.heap.push (newSetO g)).objs.size, l] := fun z => by
    rw [two] at z
    rcases List.mem_cons.mp z with q | q
    · exact Nat.ne_of_lt (Nat.lt_succ_self _) q
    · exact Nat.ne_of_gt lt (List.mem_singleton.mp q)
  have len : ys.length = items.size := by rw [strs_len hi, Array.length_toList]
  have item : ∀ (i : Nat) (v : Value), items[i]? = some v → ∃ x t, ys[i]? = some x ∧ v = .str x t := fun i v e => strs_get hi (by rw [Array.getElem?_toList]; exact e)
  have empty : ((s.heap.push (newSetO g)).push { cls := .type "list_iterator", data := .fields #[.ref l, .int 0 0] }).SetOf (PySem.strKind prog w) s.heap.objs.size (fun x => decide (x ∈ ddS (ys.take 0))) (ddS (ys.take 0)).length :=
    strSet_congr ((setObjOf_fresh (knd := PySem.strKind prog w) g).setOf (Heap.get?_push_of_some _ (Heap.get?_push_size _ rfl)) (by unfold scanBound; omega)) (fun _ => by simp [ddS]) (by simp [ddS])
  refine strs_loop ((Walks.list (by simp [hh]) _ l ne1 items).toS) s.heap.objs.size ne2 ys len item hb items.size 0 _ (by omega) (Nat.zero_le _) ⟨⟨_, Heap.get?_push_size _ rfl, rfl, rfl⟩, (hl.push _).push _⟩ empty fun s' mv fin => ?_
  have res := h s'.heap s'.toks fin fun b o lb e => mv.heap b o (fun z => ?_) (Heap.get?_push_of_some _ (Heap.get?_push_of_some _ e))
  · rw [show s' = { s with heap := s'.heap, toks := s'.toks } from same_but mv.gens mv.drawn mv.os]
    exact ⟨rfl, res⟩
  · rcases List.mem_cons.mp z with q | q
    · exact Nat.ne_of_lt lb q
    · have q := List.mem_singleton.mp q
      rw [two] at q
      exact Nat.ne_of_lt (Nat.lt_succ_of_lt lb) q
end
end PySem
namespace L2
open PySem PySem.Spec PyProof.Rows
section
variable {X : Cx}
noncomputable def SetN (P : Program) (w : World) (a : Addr) (n : Nat) : HO := .ext fun h => ∃ S, h.SetOf (PySem.strKind P w) a S n
theorem call_setS (hc : X.calm = true) : CallR X (.type "set") (fun xs H Q => ∃ (p : Addr) (ys : List Str), xs = [.ref p] ∧ SqL X.K H p (ys.map V.str) ∧ ys.length ≤ 4000 ∧ ∀ a, H a = none → Q (.ref a) (upd H a (SetN X.prog X.w a (ddS ys).length))) := by
  intro pins s σ H xs us Q I r h
  obtain ⟨p, ys, rfl, hq, hz, q⟩ := h
  obtain ⟨u, rfl, ru⟩ := vals1 r
  cases ru
  obtain ⟨its, r', pl, _⟩ := I.list hq
  have hlen := r'.length
  rw [List.length_map] at hlen
  refine call_set_strs (I.ok.hd hc) pl.isList (by simpa using strs_are r') (by rw [List.size_toArray]; unfold scanBound; omega) fun h' tk hS hk => ?_
  have hex : ∃ o, h'.get? s.heap.objs.size = some o := by obtain ⟨o, _, _, _, e, _⟩ := hS; exact ⟨o, e⟩
  refine ⟨.ref s.heap.objs.size, _, I.laid (a := s.heap.objs.size) (o := SetN X.prog X.w s.heap.objs.size (ddS ys).length) (t' := tk) (fun b o e => hk b o (Heap.lt_size e) e) (Nat.le_refl _) ?_, rfl, q _ I.fresh⟩
  refine ⟨⟨_, hS⟩, hex, fun h1 h2 ⟨S, z⟩ k => ⟨S, ?_⟩⟩
  obtain ⟨o, es, ep, t, e, rest⟩ := z
  exact ⟨o, es, ep, t, k o e, rest⟩
theorem call_lenS : CallR X (.builtin "len") (fun xs H Q => ∃ (a : Addr) (n : Nat), xs = [.ref a] ∧ H a = some (SetN X.prog X.w a n) ∧ Q (.int n) H) := by
  intro pins s σ H xs us Q I r h
  obtain ⟨a, n, rfl, ha, q⟩ := h
  obtain ⟨u, rfl, ru⟩ := vals1 r
  cases ru
  obtain ⟨⟨S, o, es, ep, t, e, ex, hd, _, _, hb, hf, rfl⟩, _⟩ := I.hok a _ ha
  refine call_len_set e ex hd hf ?_ ⟨.int es.size, H, I.tok _, ⟨_, rfl⟩, q⟩
  have : scanBound = 4096 := rfl
  omega
end
end L2
namespace L2
open PySem PySem.Spec PyProof.Rows
noncomputable def lcOk (N : List Str) (kind : Str → Option NameKind) (scope : Scope) (T capN : List Str) (caps : List Nat) : Bool :=
  scope.names.all (fun p => p.2 != .cell) && scope.names.all (fun p => p.2 != .free || kind p.1 == some .cell) &&
  scope.names.all (fun p => p.2 != .local || scope.names.lookup p.1 == some .local) &&
  (capN.zip caps).all (fun p => decide (N[p.2]? = some p.1) && scope.names.lookup p.1 == some .free) && capN.length == caps.length
noncomputable def lcs (T : List Str) (caps : List Nat) (σ : St) : St := T.map (fun _ => none) ++ caps.map (fun i => (σ[i]?).join)
noncomputable def lcx (X : Cx) (N' : List Str) (scope : Scope) (cl : List (Str × Addr)) (C : Addr) (s₀ : Shared) (H₀ : Hp) (fp : List Addr) : Cx :=
  { prog := X.prog, w := X.w, K := X.K, mg := X.mg, base := X.base, A := X.A, N := N', s₀ := s₀, H₀ := H₀, env := compEnvC scope cl C X.env, outer := X.stack, stack := X.stack, ex := fp,
    fn := fun x => (cl.lookup x).isNone, calm := X.calm, pn := [], xe := fun _ _ => False }
noncomputable def PIfs (X : Cx) (ifs : List Expr) (t : TT) : Prop :=
  ∀ (pins : List (Addr × Obj)) (s : Shared) (σ : St) (H : Hp) (Q : Bool → Hp → Prop), Inv X pins σ H s → t σ H Q →
    wpAny (model X.prog X.w) X.A (forIn ifs true fun c r => if r = true then do let ok ← isTrue c X.env (eval c X.env); pure (ForInStep.yield ok) else pure (ForInStep.yield r)) (TP X pins σ Q) X.xe s
noncomputable def tYes : TT := fun _ H Q => Q true H
theorem pifs_nil {X : Cx} : PIfs X [] tYes := fun pins s σ H Q I h => wpAny_tests_nil ⟨H, I, h⟩
theorem pifs_one {X : Cx} {c : Expr} {t : TT} (h : PT X c t) : PIfs X [c] t := fun pins s σ H Q I hw => wpAny_tests_one (h pins s σ H Q I hw)
noncomputable def LCW (T : List Str) (caps : List Nat) (J : It) (g : TG) (tt : TT) (te : TE) (σ : St) (H1 : Hp) (Q : VK) (D : Addr) : Prop :=
  ∃ W : Nat → Nat → List V → St → Hp → Prop, (∃ m, W 0 m [] (lcs T caps σ) (upd H1 D (.lst []))) ∧ ∀ i m ys σ' H', W i m ys σ' H' →
    (J.stop i H' ∧ Q (.ref D) H') ∨ (J.go i H' ∧ ∃ (N : St → V → Hp → Prop) (F : St → Hp → Prop),
      (∀ σ2 v H5, N σ2 v H5 → H5 D = some (.lst ys) ∧ ys.length < sizeLine ∧ ∃ m', m' < m ∧ W (i + 1) m' (ys ++ [v]) σ2 (upd H5 D (.lst (ys ++ [v])))) ∧ (∀ σ2 H4, F σ2 H4 → ∃ m', m' < m ∧ W (i + 1) m' ys σ2 H4) ∧
      ∀ x H2, J.yld i H' x H2 → g x σ' H2 fun σ2 H3 => tt σ2 H3 fun b H4 => if b = true then te σ2 H4 (N σ2) else F σ2 H4)
noncomputable def tLC (T : List Str) (caps : List Nat) (wi : TI) (g : TG) (tt : TT) (te : TE) : TE := fun σ H Q => wi σ H fun J H1 => ∀ D, H1 D = none → LCW T caps J g tt te σ H1 Q D
theorem closure_ok {env : Env} : ∀ (names : List (Str × NameKind)) (acc : List (Str × Addr)), (∀ p ∈ names, p.2 = .free → ∃ c, env.cells.lookup p.1 = some c) →
    (∀ x c, acc.lookup x = some c → env.cells.lookup x = some c) →
    ∃ cl, (forIn names acc fun x r => if (x.2 == NameKind.free) = true then (cellOf env x.1 >>= fun a => pure (ForInStep.yield ((x.1, a) :: r))) else pure (ForInStep.yield r) : Sem (List (Str × Addr))) = pure cl ∧
      (∀ x c, cl.lookup x = some c → env.cells.lookup x = some c) ∧ (∀ x, (x, NameKind.free) ∈ names → (cl.lookup x).isSome = true) ∧ (∀ x, (acc.lookup x).isSome = true → (cl.lookup x).isSome = true)
  | [], acc, _, ha => ⟨acc, rfl, ha, fun x h => by simp at h, fun _ h => h⟩
  | (n, k) :: r, acc, hf, ha => by
    by_cases hk : k = .free
    · subst hk
      obtain ⟨c, hc⟩ := hf (n, .free) List.mem_cons_self rfl
      have ha' : ∀ x c', ((n, c) :: acc).lookup x = some c' → env.cells.lookup x = some c' := by
        intro x c' h
        rw [List.lookup_cons] at h
        cases e : x == n with
        | true => rw [e] at h; have := beq_iff_eq.mp e; subst this; cases h; exact hc
        | false => rw [e] at h; exact ha x c' h
      obtain ⟨cl, e1, h1, h2, h3⟩ := closure_ok r ((n, c) :: acc) (fun p hp => hf p (List.mem_cons_of_mem _ hp)) ha'
      have hn : (((n, c) :: acc).lookup n).isSome = true := by rw [List.lookup_cons]; simp
      refine ⟨cl, ?_, h1, fun x hx => ?_, fun x hx => h3 x ?_⟩
      · rw [List.forIn_cons]
        simp only [beq_self_eq_true, if_true]
        have : cellOf env n = pure c := by unfold cellOf; rw [hc]
        rw [this]
        exact e1
      · rcases List.mem_cons.mp hx with q | q
        · cases q; exact h3 _ hn
        · exact h2 x q
      · rw [List.lookup_cons]
        cases e : x == n with
        | true => rfl
        | false => exact hx
    · obtain ⟨cl, e1, h1, h2, h3⟩ := closure_ok r acc (fun p hp => hf p (List.mem_cons_of_mem _ hp)) ha
      refine ⟨cl, ?_, h1, fun x hx => ?_, h3⟩
      · rw [List.forIn_cons]
        have : (k == NameKind.free) = false := by simpa using hk
        simp only [this, Bool.false_eq_true, if_false]
        exact e1
      · rcases List.mem_cons.mp hx with q | q
        · cases q; exact absurd rfl hk
        · exact h2 x q
theorem closureFor_ok {scope : Scope} {env : Env} (hf : ∀ p ∈ scope.names, p.2 = .free → ∃ c, env.cells.lookup p.1 = some c) :
    ∃ cl, closureFor scope env = pure cl ∧ (∀ x c, cl.lookup x = some c → env.cells.lookup x = some c) ∧ (∀ x, (x, NameKind.free) ∈ scope.names → (cl.lookup x).isSome = true) := by
  obtain ⟨cl, e, h1, h2, _⟩ := closure_ok (env := env) scope.names [] hf (fun x c h => by simp at h)
  refine ⟨cl, ?_, h1, h2⟩
  simp only [closureFor]
  have e' : (forIn scope.names [] fun x r => if (x.2 == NameKind.free) = true then (cellOf env x.1 >>= fun a => pure (ForInStep.yield ((x.1, a) :: r))) else pure (ForInStep.yield r) : Sem (List (Str × Addr))) = pure cl := e
  first
    | exact e'
    | (simp only [bind_pure]; exact e')
theorem relabel_lookup {scope : Scope} {env : Env} {x : Str} {k : NameKind} (h : scope.names.lookup x = some k) : ∃ k', (relabel scope env).names.lookup x = some k' ∧ (k' = k ∨ (k = .free ∧ k' = .cell)) := by
  have : ∀ names : List (Str × NameKind), names.lookup x = some k → ∃ k', (names.map fun (p : Str × NameKind) => match p with | (n, k) => if (k == NameKind.free && env.scope.kind == .function && env.kindOf n == some .cell) then (n, NameKind.cell) else (n, k)).lookup x = some k' ∧ (k' = k ∨ (k = .free ∧ k' = .cell)) := by
    intro names
    induction names with
    | nil => intro h; simp at h
    | cons p r ih =>
      obtain ⟨n, k0⟩ := p
      intro h
      rw [List.map_cons]
      by_cases hc : (k0 == NameKind.free && env.scope.kind == .function && env.kindOf n == some .cell) = true
      · simp only [hc, if_true]
        rw [List.lookup_cons] at h ⊢
        cases e : x == n with
        | true =>
          rw [e] at h
          cases h
          have : k = NameKind.free := by
            have := (Bool.and_eq_true _ _).mp ((Bool.and_eq_true _ _).mp hc).1
            exact beq_iff_eq.mp this.1
          exact ⟨_, rfl, .inr ⟨this, rfl⟩⟩
        | false => rw [e] at h; exact ih h
      · simp only [hc, if_false]
        rw [if_neg (by simp)]
        rw [List.lookup_cons] at h ⊢
        cases e : x == n with
        | true => rw [e] at h; cases h; exact ⟨_, rfl, .inl rfl⟩
        | false => rw [e] at h; exact ih h
  exact this scope.names h
theorem relabel_inv {scope : Scope} {env : Env} {x : Str} {k : NameKind} (h : (relabel scope env).names.lookup x = some k) (hk : k = .cell ∨ k = .free) (hc : ∀ p ∈ scope.names, p.2 ≠ .cell) : scope.names.lookup x = some .free := by
  cases e : scope.names.lookup x with
  | none =>
    exfalso
    have : ∀ names : List (Str × NameKind), names.lookup x = none → (names.map fun (p : Str × NameKind) => match p with | (n, k) => if (k == NameKind.free && env.scope.kind == .function && env.kindOf n == some .cell) then (n, NameKind.cell) else (n, k)).lookup x = none := by
      intro names
      induction names with
      | nil => intro _; rfl
      | cons p r ih =>
        obtain ⟨n, k0⟩ := p
        intro h
        rw [List.map_cons]
        have h2 : (x == n) = false ∧ r.lookup x = none := by
          rw [List.lookup_cons] at h
          cases e : x == n with
          | true => rw [e] at h; cases h
          | false => rw [e] at h; exact ⟨rfl, h⟩
        dsimp only
        split <;> (rw [List.lookup_cons, h2.1]; exact ih h2.2)
    have q := this scope.names e
    have h' : (relabel scope env).names.lookup x = none := q
    rw [h'] at h; cases h
  | some k0 =>
    obtain ⟨k', e1, e2⟩ := relabel_lookup (env := env) e
    rw [h] at e1
    cases e1
    have hm := PySem.mem_of_lookup e
    rcases e2 with q | ⟨q, _⟩
    · subst q
      rcases hk with z | z
      · subst z; exact absurd rfl (hc _ hm)
      · rw [z]
    · rw [q]
theorem codeAny_compLoop_go {prog : Program} {w : World} {A : Around} {R : Result → Shared → Prop} {s : Shared} {elt target iter : Expr} {ifs : List Expr} {scope : Scope} {pos : Pos} {it acc : Value} {env : Env} (I : Nat → Shared → Prop)
    (turn : ∀ n s, I n s → wpAny (model prog w) A (pyNext it) (fun r s₁ => match r with
      | none => R (.ok .next) s₁
      | some v => wpAny (model prog w) A (letOwnedTupleGo target it v) (fun _ s₁' => wpAny (model prog w) A (assign target env v) (fun _ s₂ =>
          wpAny (model prog w) A (forIn ifs true fun c r => if r = true then do let ok ← isTrue c env (eval c env); pure (ForInStep.yield ok) else pure (ForInStep.yield r)) (fun ok s₃ =>
            if ok = true then wpAny (model prog w) A (eval elt env) (fun x s₄ =>
              wpAny (model prog w) A (call (.builtin "list.append") [acc, x]) (fun _ s₅ => ∃ m, m < n ∧ I m s₅) (fun _ _ => False) s₄) (fun _ _ => False) s₃
            else ∃ m, m < n ∧ I m s₃) (fun _ _ => False) s₂) (fun _ _ => False) s₁') (fun _ _ => False) s₁) (fun _ _ => False) s)
    (n : Nat) (h : I n s) :
    codeAny (model prog w) A (.compLoop (.ListComp elt [⟨target, iter, ifs, 0⟩] scope pos) 0 it acc env) R s := by
  refine codeAny_loop rfl I (fun n s hI => ?_) n h
  show wpAny _ A ((compTurn (.ListComp elt [⟨target, iter, ifs, 0⟩] scope pos) 0 it acc env).onRaise (fun x => do noteFrame x env; theTreesLotGoes x)) _ _ s
  refine wpAny_noted ?_
  rw [compTurn_list]
  refine wpAny_bind (wpAny_standAt (wpAny_bind (wpAny_mono (turn n s hI) (fun r s₁ h₁ => ?_) fun _ _ h' => h'.elim)))
  cases r with
  | none => exact wpAny_pure h₁
  | some v =>
    refine wpAny_bind (wpAny_mono h₁ (fun _ s₁' h₁' => ?_) fun _ _ h' => h'.elim)
    refine wpAny_bind (wpAny_mono h₁' (fun _ s₂ h₂ => wpAny_bind (wpAny_mono h₂ (fun ok s₃ h₃ => ?_) fun _ _ h' => h'.elim)) fun _ _ h' => h'.elim)
    cases ok with
    | false => exact wpAny_pure ⟨rfl, h₃⟩
    | true =>
      exact wpAny_bind (wpAny_bind (wpAny_mono h₃ (fun x s₄ h₄ => wpAny_bind (wpAny_mono h₄ (fun _ s₅ h₅ => wpAny_pure (wpAny_pure ⟨rfl, h₅⟩)) fun _ _ h' => h'.elim)) fun _ _ h' => h'.elim))
end L2
namespace L2
open PySem PySem.Spec PyProof.Rows
structure LcOk (N : List Str) (kind : Str → Option NameKind) (scope : Scope) (capN : List Str) (caps : List Nat) : Prop where
  nocell : ∀ p ∈ scope.names, p.2 ≠ .cell
  free : ∀ p ∈ scope.names, p.2 = .free → kind p.1 = some .cell
  loc : ∀ p ∈ scope.names, p.2 = .local → scope.names.lookup p.1 = some .local
  cap : ∀ (j : Nat) (x : Str), capN[j]? = some x → ∃ i : Nat, caps[j]? = some i ∧ N[i]? = some x ∧ scope.names.lookup x = some .free
  len : capN.length = caps.length
theorem lcOk_of {N : List Str} {kind : Str → Option NameKind} {scope : Scope} {T capN : List Str} {caps : List Nat} (h : lcOk N kind scope T capN caps = true) : LcOk N kind scope capN caps := by
  unfold lcOk at h
  simp only [Bool.and_eq_true] at h
  obtain ⟨⟨⟨⟨h1, h2⟩, h3⟩, h4⟩, h5⟩ := h
  have hl : capN.length = caps.length := beq_iff_eq.mp h5
  refine ⟨fun p hp => ?_, fun p hp e => ?_, fun p hp e => ?_, fun j x e => ?_, hl⟩
  · simpa using List.all_eq_true.mp h1 p hp
  · have := List.all_eq_true.mp h2 p hp
    rw [e] at this
    simpa using this
  · have := List.all_eq_true.mp h3 p hp
    rw [e] at this
    simpa using this
  · have hj : j < capN.length := (List.getElem?_eq_some_iff.mp e).1
    have e2 : caps[j]? = some (caps[j]'(by omega)) := List.getElem?_eq_getElem (by omega)
    have hm : (x, caps[j]'(by omega)) ∈ capN.zip caps := by
      refine List.mem_of_getElem? (i := j) ?_
      rw [List.getElem?_zip_eq_some]
      exact ⟨e, e2⟩
    have := List.all_eq_true.mp h4 _ hm
    simp only [Bool.and_eq_true, decide_eq_true_eq, beq_iff_eq] at this
    exact ⟨_, e2, this.1, this.2⟩
section
variable {X : Cx}
set_option maxHeartbeats 1000000 in
theorem pe_lc {elt tg iter : Expr} {ifs : List Expr} {scope : Scope} {pos : Pos} {wi : TI} {g : TG} {tt : TT} {te : TE} (T capN : List Str) (caps : List Nat) (hc : X.calm = true) (hi : PI X tg iter wi)
    (hk : scope.kind = .function) (ho : lcOk X.N X.env.kindOf scope T capN caps = true)
    (hg : ∀ s₀ H₀ C cl fp, PG (lcx X (T ++ capN) scope cl C s₀ H₀ fp) tg g)
    (ht : ∀ s₀ H₀ C cl fp, PIfs (lcx X (T ++ capN) scope cl C s₀ H₀ fp) ifs tt)
    (he : ∀ s₀ H₀ C cl fp, PE (lcx X (T ++ capN) scope cl C s₀ H₀ fp) elt te)
    (hs : ∀ x, foldedSetIterable iter X.env x = pure x := by intro _; rfl) :
    PE X (.ListComp elt [⟨tg, iter, ifs, 0⟩] scope pos) (tLC T caps wi g tt te) := by
  intro pins s σ H Q I h
  have O := lcOk_of ho
  have hfree : ∀ p ∈ scope.names, p.2 = .free → ∃ c, X.env.cells.lookup p.1 = some c := fun p hp e => I.ok.has p.1 (.inl (O.free p hp e))
  obtain ⟨cl, hclos, cl1, cl2⟩ := closureFor_ok hfree
  rw [eval_ListComp]
  refine wpAny_comprehension_free (use := none) rfl hs hclos hk O.loc (thn (hi pins s σ H _ I h) fun v s1 h1 => thn h1 fun itv s2 h2 => ?_)
  obtain ⟨it, fp, tn, J, H2, rfl, I2, TT', st2, f2, hD⟩ := h2
  refine wpAny_newObj_type ?_
  have I3 : Inv X pins σ (upd H2 s2.heap.objs.size (.lst [])) { s2 with heap := s2.heap.push { cls := .type "list", data := .seq ([] : List Value).toArray } } := I2.lnew (t' := s2.toks) (its := []) (ys := []) .nil (Nat.zero_le _)
  have fD : H2 s2.heap.objs.size = none := I2.fresh
  obtain ⟨W, ⟨m0, w0⟩, turn⟩ := hD s2.heap.objs.size fD
  generalize hDd : s2.heap.objs.size = D at I3 fD w0 turn ⊢
  have st3 : tn 0 (s2.heap.push { cls := .type "list", data := .seq ([] : List Value).toArray }) := TT'.keep _ _ _ st2 fun b _ o e => Heap.get?_push_of_some _ e
  have hfpD : ∀ b ∈ fp, b < D := fun b hb => by
    obtain ⟨o, e, _⟩ := TT'.obj _ _ st2 b hb
    rw [← hDd]; exact Heap.lt_size e
  generalize hs3 : ({ s2 with heap := s2.heap.push { cls := .type "list", data := .seq ([] : List Value).toArray } } : Shared) = s3 at I3 ⊢
  have st3' : tn 0 s3.heap := by rw [← hs3]; exact st3
  generalize hH3 : upd H2 D (.lst []) = H3 at I3 w0
  have f3 : ∀ b ∈ fp, FpOk X pins H3 b := fun b hb => by
    obtain ⟨z0, z⟩ := f2 b hb
    exact ⟨by rw [← hH3, upd_ne (Nat.ne_of_lt (hfpD b hb))]; exact z0, z⟩
  refine wpAny_newFunctionEnv O.nocell (by intro y hy; simp at hy) (fun h₁ hns₁ hsb₁ => ?_) hk
  have hCn : H3 s3.heap.objs.size = none := I3.fresh
  have old : ∀ b o, s3.heap.get? b = some o → h₁.get? b = some o := fun b o e => hsb₁.extBut b o (Nat.ne_of_lt (Heap.lt_size e)) (Heap.get?_push_of_some _ e)
  generalize hC : s3.heap.objs.size = C at hns₁ hsb₁ hCn ⊢
  have hltC : ∀ b o, s3.heap.get? b = some o → b ≠ C := fun b o e => by rw [← hC]; exact Nat.ne_of_lt (Heap.lt_size e)
  have fpC : ∀ b ∈ fp, b ≠ C := fun b hb => by
    obtain ⟨o, e, _⟩ := TT'.obj _ _ st3' b hb
    exact hltC b o e
  have fpS : ∀ b ∈ fp, b ∉ frs X.stack := fun b hb z => by
    rcases List.mem_cons.mp (I3.stkSub b z) with q | q
    · exact (f3 b hb).2.1 q
    · exact (f3 b hb).2.2.1 q
  have fpCl : ∀ b ∈ fp, ∀ x c, cl.lookup x = some c → c ≠ b := fun b hb x c e => (f3 b hb).2.2.2.2.1 x c (cl1 x c e)
  have hXok : (lcx X (T ++ capN) scope cl C s3 H3 fp).Ok := by
    refine ⟨I3.ok.mod, hk, I3.ok.glob, I3.ok.blt, Nat.le_of_eq hC, fun x y c e1 e2 => I3.ok.inj x y c (cl1 x c e1) (cl1 y c e2), fun x hx => ?_, fun x c e1 e2 => ?_, I3.ok.hd, I3.ok.frames, .inl rfl, fun b hb => ⟨fpC b hb, fun x c e => fpCl b hb x c e⟩,
      fun b o e => I3.bs b o e, ?_, fun b o e z => ?_, fun b hb => fpS b hb, I3.stack, I3.stkFree⟩
    · have hx' : (relabel scope X.env).names.lookup x = some .cell ∨ (relabel scope X.env).names.lookup x = some .free := hx
      have hf : scope.names.lookup x = some .free := by
        rcases hx' with q | q
        · exact relabel_inv q (.inl rfl) O.nocell
        · exact relabel_inv q (.inr rfl) O.nocell
      exact Option.isSome_iff_exists.mp (cl2 x (PySem.mem_of_lookup hf))
    · have e1 : (cl.lookup x).isNone = true := e1
      have e2 : cl.lookup x = some c := e2
      rw [e2] at e1; cases e1
    · exact Nat.le_trans I3.ok.bsz I3.sz
    · obtain ⟨z0, z1, z2, z3, _⟩ := f3 b z
      rcases z3 with q | q
      · exact I3.ok.noex b o e q
      · exact absurd (Nat.lt_of_lt_of_le (Heap.lt_size e) (Nat.le_trans I3.ok.bsz q)) (Nat.lt_irrefl _)
  have I4 : Inv (lcx X (T ++ capN) scope cl C s3 H3 fp) [] (lcs T caps σ) H3 { s3 with heap := h₁, toks := s3.toks + ([] : List (Str × Value)).length } := by
    refine ⟨hXok, rfl, I3.bare, Un.kept old, ⟨_, hns₁, fun i x v e1 e2 e3 => ?_⟩, fun x c e => ?_, hCn, fun x c e => I3.freeC x c (cl1 x c e), fun p hp => absurd (show p ∈ ([] : List (Addr × Obj)) from hp) (by simp), I3.hok.kept old, ?_⟩
    · have e1 : (T ++ capN)[i]? = some x := e1
      unfold lcs at e2
      by_cases hi : i < T.length
      · rw [List.getElem?_append_left (by simpa using hi), List.getElem?_map] at e2
        cases q : T[i]? with
        | none => rw [q] at e2; cases e2
        | some z => rw [q] at e2; cases e2
      · rw [List.getElem?_append_right (by omega)] at e1
        rw [List.getElem?_append_right (by simpa using hi), List.getElem?_map, List.length_map] at e2
        obtain ⟨k, k1, k2, k3⟩ := O.cap _ x e1
        rw [k1] at e2
        have e2 : (σ[k]?).join = some v := Option.some.inj e2
        have e2' : σ[k]? = some (some v) := by
          cases q : σ[k]? with
          | none => rw [q] at e2; cases e2
          | some z => rw [q] at e2; exact congrArg some e2
        have hcell : X.env.kindOf x = some .cell := O.free (x, .free) (PySem.mem_of_lookup k3) rfl
        obtain ⟨m, hn, hl⟩ := I3.loc
        obtain ⟨u, r, l⟩ := hl k x v k2 e2' (.inr (.inl hcell))
        refine ⟨u, r, .inr ⟨?_, ?_⟩⟩
        · obtain ⟨k', e5, e6⟩ := relabel_lookup (env := X.env) k3
          rcases e6 with z | ⟨_, z⟩
          · subst z; exact .inr e5
          · subst z; exact .inl e5
        · rcases l with ⟨l1, _⟩ | ⟨_, c, e7, o, ho1, ho2⟩
          · rw [hcell] at l1; cases l1
          · obtain ⟨c', e8⟩ := Option.isSome_iff_exists.mp (cl2 x (PySem.mem_of_lookup k3))
            have := cl1 x c' e8
            rw [e7] at this
            cases this
            exact ⟨c, e8, o, old c o ho1, ho2⟩
    · obtain ⟨v, o, ho1, ho2⟩ := I3.cell x c (cl1 x c e)
      exact ⟨v, o, old c o ho1, ho2⟩
    · show (lcs T caps σ).length = (T ++ capN).length
      unfold lcs
      rw [List.length_append, List.length_append, List.length_map, List.length_map, O.len]
  have fpX : ∀ {H' : Hp}, (∀ b ∈ fp, H' b = none) → ∀ b ∈ fp, FpOk (lcx X (T ++ capN) scope cl C s3 H3 fp) [] H' b := fun hn b hb =>
    ⟨hn b hb, fpC b hb, fpS b hb, .inl hb, fun x c e => fpCl b hb x c e, fun p hp => absurd (show p ∈ ([] : List (Addr × Obj)) from hp) (by simp)⟩
  have st4 : tn 0 h₁ := TT'.keep _ _ _ st3' fun b _ o e => old b o e
  have w0' : W 0 m0 [] (lcs T caps σ) H3 := w0
  have loop : codeAny (model X.prog X.w) X.A (.compLoop (.ListComp elt [⟨tg, iter, ifs, 0⟩] scope pos) 0 (.ref it) (.ref D) (compEnvC scope cl C X.env))
      (compPost (model X.prog X.w) X.A X.xe none (EP X pins σ Q) (.ref D) C) { s3 with heap := h₁, toks := s3.toks + ([] : List (Str × Value)).length } := by
    refine codeAny_compLoop_go (fun n s' => ∃ i ys σ' H', Inv (lcx X (T ++ capN) scope cl C s3 H3 fp) [] σ' H' s' ∧ tn i s'.heap ∧ (∀ b ∈ fp, H' b = none) ∧ W i n ys σ' H') ?_ m0 ⟨0, [], lcs T caps σ, H3, I4, st4, fun b hb => (f3 b hb).1, w0'⟩
    rintro n s5 ⟨i, ys, σ5, H5, I5, st5, fr5, w5⟩
    rcases turn i n ys σ5 H5 w5 with ⟨stop, qn⟩ | ⟨go, N, F, hN, hF, step⟩
    · refine thn (TT'.done (lcx X (T ++ capN) scope cl C s3 H3 fp) rfl rfl rfl hc i [] s5 σ5 H5 _ I5 (fpX fr5) st5 stop) fun r s6 ⟨hr, I6⟩ => ?_
      subst hr
      obtain ⟨m6, hn6, _⟩ := I6.loc
      refine ⟨m6, hn6, fun h' hsb => ?_⟩
      have hfC : H5 C = none := I6.free
      have hok' : HOk X.prog X.w H5 h' := fun b u e => by
        have neb : ∀ c u', H5 c = some u' → c ≠ C := fun c u' e' z => by subst z; rw [hfC] at e'; cases e'
        refine (I6.hok b u e).stay (fun c v hc' q => hsb.extBut c v ?_ q) (fun _ q => q) fun _ _ q => q
        rcases hc' with z | z
        · rw [z]; exact neb b u e
        · exact neb c _ z
      have ub := I6.base
      refine ⟨.ref D, H5, Inv.call' (s' := { s6 with heap := h' }) (ch := fp) I3 I6.os ?_ hok' I6.bare (fun b hb => ⟨(f3 b hb).2.2.2.1, (f3 b hb).2.1, (f3 b hb).2.2.2.2.1, (f3 b hb).2.2.2.2.2⟩), rfl, qn⟩
      exact ⟨fun b o q n hb hx => hsb.extBut b o (hltC b o q) (ub.keep b o q n hb hx),
        fun b o q n hb hx => let ⟨sl, e⟩ := ub.slot b o q n hb hx; ⟨sl, hsb.extBut b _ (hltC b o q) e⟩, ub.free, fun b o q hx => let ⟨o', e⟩ := ub.there b o q hx; ⟨o', hsb.extBut b _ (hltC b o q) e⟩, ub.tups, ub.frzs, ub.tbls⟩
    · refine thn (TT'.item (lcx X (T ++ capN) scope cl C s3 H3 fp) rfl rfl rfl hc i [] s5 σ5 H5 _ I5 (fpX fr5) st5 go) fun r s6 ⟨u, hr, h6⟩ => ?_
      subst hr
      refine thn h6 fun _ s7 ⟨x, H7, I7, r7, y7, st7, fr7⟩ => ?_
      have I7' := I7.pinned (fpX fr7) (TT'.obj _ _ st7)
      have keepT : ∀ {σ8 : St} {H8 : Hp} {s8 : Shared}, Inv (lcx X (T ++ capN) scope cl C s3 H3 fp) ([] ++ pinsAt fp s7.heap) σ8 H8 s8 → tn (i + 1) s8.heap ∧ (∀ b ∈ fp, H8 b = none) := fun {σ8 H8 s8} I8 => by
        refine ⟨TT'.keep _ _ _ st7 fun b hb o e => (I8.pin (b, o) (List.mem_append_right _ (List.mem_append_right _ (mem_pinsAt hb e)))).1, fun b hb => ?_⟩
        obtain ⟨o, e, d⟩ := TT'.obj _ _ st7 b hb
        exact (I8.pin (b, o) (List.mem_append_right _ (List.mem_append_right _ (mem_pinsAt hb e)))).2.1
      refine thn (hg s3 H3 C cl fp _ s7 σ5 H7 x u _ I7' r7 (step x H7 y7)) fun _ s8 ⟨σ8, H8, I8, q8⟩ => ?_
      refine thn (ht s3 H3 C cl fp _ s8 σ8 H8 _ I8 q8) fun ok s9 ⟨H9, I9, q9⟩ => ?_
      cases ok with
      | false =>
        rw [if_neg (by simp)] at q9
        rw [if_neg (by simp)]
        obtain ⟨m', hm, w9⟩ := hF _ _ q9
        exact ⟨m', hm, i + 1, ys, σ8, H9, I9.unpinned, (keepT I9).1, (keepT I9).2, w9⟩
      | true =>
        rw [if_pos rfl] at q9
        rw [if_pos rfl]
        refine thn (he s3 H3 C cl fp _ s9 σ8 H9 _ I9 q9) fun vv s10 ⟨v, H10, I10, r10, n10⟩ => ?_
        obtain ⟨a10, z10, m', hm, w10⟩ := hN _ _ _ n10
        refine thn (mt_append (X := lcx X (T ++ capN) scope cl C s3 H3 fp) _ s10 σ8 H10 (.ref D) [v] (.ref D) [vv] (fun _ H11 => W (i + 1) m' (ys ++ [v]) σ8 H11) I10 rfl (.cons r10 .nil) ⟨D, ys, v, rfl, rfl, a10, z10, w10⟩) fun _ s11 ⟨_, H11, I11, _, w11⟩ => ?_
        exact ⟨m', hm, i + 1, ys ++ [v], σ8, H11, I11.unpinned, (keepT I11).1, (keepT I11).2, w11⟩
  exact codeAny_compStart_list loop (TT'.self _ 0 _ _ _ st4 loop)
end
end L2
namespace L2
open PySem PySem.Spec PyProof.Rows
structure Yields (J : It) (xs : List V) (R : Hp → Prop) : Prop where
  go : ∀ i H, i < xs.length → R H → J.go i H
  yld : ∀ i H x H', i < xs.length → R H → J.yld i H x H' → H' = H ∧ xs[i]? = some x
  stop : ∀ i H, i = xs.length → R H → J.stop i H
theorem yields_list {K : PySem.W.Frag} {a : Addr} {xs : List V} : Yields (Itl K a) xs (fun H => SqL K H a xs) :=
  ⟨fun i H hi r => ⟨xs, xs[i], r, List.getElem?_eq_getElem hi⟩, fun i H x H' hi r y => ⟨y.1, y.2 xs r⟩, fun i H e r => ⟨xs, r, by omega⟩⟩
theorem yields_tup {K : PySem.W.Frag} {a : Addr} {xs : List V} : Yields (Itt K a) xs (fun H => SqT K H a xs) :=
  ⟨fun i H hi r => ⟨xs, xs[i], r, List.getElem?_eq_getElem hi⟩, fun i H x H' hi r y => ⟨y.1, y.2 xs r⟩, fun i H e r => ⟨xs, r, by omega⟩⟩
theorem yields_range {lo : Int} {n : Nat} : Yields (Itr lo n) ((List.range n).map fun (i : Nat) => V.int (lo + (i : Int))) (fun _ => True) :=
  ⟨fun i H hi _ => by simpa [Itr] using hi, fun i H x H' hi _ y => ⟨y.1, by rw [y.2]; simp at hi; simp [hi]⟩, fun i H e _ => by simp [Itr, e]⟩
noncomputable def signsV (z : Str) : List V := z.cps.toList.map fun c => V.str ⟨#[c]⟩
theorem yields_str {z : Str} : Yields (Its z) (signsV z) (fun _ => True) :=
  ⟨fun i H hi _ => by simpa [Its, signsV, Str.length] using hi,
    fun i H x H' hi _ y => by
      obtain ⟨e, c, hc, rfl⟩ := y
      refine ⟨e, ?_⟩
      unfold signsV
      rw [List.getElem?_map, Array.getElem?_toList, hc]
      rfl,
    fun i H e _ => by simp [Its, e, signsV, Str.length]⟩
noncomputable def LcN (cs : St) (D : Addr) (Pv : Nat → List V → Hp → Prop) (i : Nat) (ys : List V) (σ2 : St) : VK := fun v H5 => (∃ t, σ2 = t :: cs) ∧ H5 D = some (.lst ys) ∧ ys.length < sizeLine ∧ Pv (i + 1) (ys ++ [v]) (upd H5 D (.lst (ys ++ [v])))
noncomputable def LcF (cs : St) (Pv : Nat → List V → Hp → Prop) (i : Nat) (ys : List V) (σ2 : St) (H4 : Hp) : Prop := (∃ t, σ2 = t :: cs) ∧ Pv (i + 1) ys H4
theorem lc1 {J : It} {xs : List V} {R : Hp → Prop} {nm : Str} {caps : List Nat} {tt : TT} {te : TE} {σ : St} {H1 : Hp} {Q : VK} {D : Addr} (Y : Yields J xs R) (Pv : Nat → List V → Hp → Prop)
    (h0 : Pv 0 [] (upd H1 D (.lst []))) (hR : ∀ i ys H, i ≤ xs.length → Pv i ys H → R H)
    (hs : ∀ i x ys H, xs[i]? = some x → Pv i ys H → tt (some x :: caps.map (fun i => (σ[i]?).join)) H fun b H4 =>
      if b = true then te (some x :: caps.map (fun i => (σ[i]?).join)) H4 (LcN (caps.map (fun i => (σ[i]?).join)) D Pv i ys (some x :: caps.map (fun i => (σ[i]?).join))) else LcF (caps.map (fun i => (σ[i]?).join)) Pv i ys (some x :: caps.map (fun i => (σ[i]?).join)) H4)
    (hd : ∀ ys H, Pv xs.length ys H → Q (.ref D) H) : LCW [nm] caps J (gName 0) tt te σ H1 Q D := by
  refine ⟨fun i m ys σ' H => m = xs.length - i ∧ i ≤ xs.length ∧ (∃ t, σ' = t :: caps.map (fun i => (σ[i]?).join)) ∧ Pv i ys H, ⟨xs.length, by simp, Nat.zero_le _, ⟨none, rfl⟩, h0⟩, ?_⟩
  rintro i m ys σ' H' ⟨rfl, hi, ⟨t, rfl⟩, p⟩
  by_cases hlt : i < xs.length
  · refine .inr ⟨Y.go i H' hlt (hR i ys H' hi p), LcN (caps.map (fun i => (σ[i]?).join)) D Pv i ys, LcF (caps.map (fun i => (σ[i]?).join)) Pv i ys, ?_, ?_, fun x H2 y => ?_⟩
    · rintro σ2 v H5 ⟨ht, a1, a2, a3⟩
      exact ⟨a1, a2, xs.length - (i + 1), by omega, rfl, hlt, ht, a3⟩
    · rintro σ2 H4 ⟨ht, a3⟩
      exact ⟨xs.length - (i + 1), by omega, rfl, hlt, ht, a3⟩
    · obtain ⟨rfl, hx⟩ := Y.yld i H' x H2 hlt (hR i ys H' hi p) y
      exact hs i x ys H2 hx p
  · have e : i = xs.length := by omega
    subst e
    exact .inl ⟨Y.stop _ _ rfl (hR _ ys H' hi p), hd ys H' p⟩
noncomputable def LcN3 (cs : St) (D : Addr) (Pv : Nat → List V → Hp → Prop) (i : Nat) (ys : List V) (σ2 : St) : VK := fun v H5 => (∃ t u w, σ2 = t :: u :: w :: cs) ∧ H5 D = some (.lst ys) ∧ ys.length < sizeLine ∧ Pv (i + 1) (ys ++ [v]) (upd H5 D (.lst (ys ++ [v])))
theorem lc3 {J : It} {xs : List V} {R : Hp → Prop} {n1 n2 n3 : Str} {caps : List Nat} {te : TE} {σ : St} {H1 : Hp} {Q : VK} {D : Addr} {K : PySem.W.Frag} (Y : Yields J xs R) (Pv : Nat → List V → Hp → Prop)
    (h0 : Pv 0 [] (upd H1 D (.lst []))) (hR : ∀ i ys H, i ≤ xs.length → Pv i ys H → R H)
    (hs : ∀ i x ys H, xs[i]? = some x → Pv i ys H → ∃ a x1 x2 x3, x = .ref a ∧ SqT K H a [x1, x2, x3] ∧ te (some x1 :: some x2 :: some x3 :: caps.map (fun i => (σ[i]?).join)) H (LcN3 (caps.map (fun i => (σ[i]?).join)) D Pv i ys (some x1 :: some x2 :: some x3 :: caps.map (fun i => (σ[i]?).join))))
    (hd : ∀ ys H, Pv xs.length ys H → Q (.ref D) H) : LCW [n1, n2, n3] caps J (gTup K 3 (gCons (gName 0) (gCons (gName 1) (gCons (gName 2) gNil)))) tYes te σ H1 Q D := by
  refine ⟨fun i m ys σ' H => m = xs.length - i ∧ i ≤ xs.length ∧ (∃ t u w, σ' = t :: u :: w :: caps.map (fun i => (σ[i]?).join)) ∧ Pv i ys H, ⟨xs.length, by simp, Nat.zero_le _, ⟨none, none, none, rfl⟩, h0⟩, ?_⟩
  rintro i m ys σ' H' ⟨rfl, hi, ⟨t, u, w, rfl⟩, p⟩
  by_cases hlt : i < xs.length
  · refine .inr ⟨Y.go i H' hlt (hR i ys H' hi p), LcN3 (caps.map (fun i => (σ[i]?).join)) D Pv i ys, fun _ _ => False, ?_, fun _ _ z => z.elim, fun x H2 y => ?_⟩
    · rintro σ2 v H5 ⟨ht, a1, a2, a3⟩
      exact ⟨a1, a2, xs.length - (i + 1), by omega, rfl, hlt, ht, a3⟩
    · obtain ⟨rfl, hx⟩ := Y.yld i H' x H2 hlt (hR i ys H' hi p) y
      obtain ⟨a, x1, x2, x3, rfl, hq, ht⟩ := hs i x ys H2 hx p
      refine ⟨a, _, rfl, hq, rfl, _, _, rfl, _, _, rfl, _, _, rfl, rfl, ?_⟩
      show if (true : Bool) = true then te (some x1 :: some x2 :: some x3 :: caps.map (fun i => (σ[i]?).join)) H2 (LcN3 (caps.map (fun i => (σ[i]?).join)) D Pv i ys (some x1 :: some x2 :: some x3 :: caps.map (fun i => (σ[i]?).join))) else False
      exact iteT ht
  · have e : i = xs.length := by omega
    subst e
    exact .inl ⟨Y.stop _ _ rfl (hR _ ys H' hi p), hd ys H' p⟩
end L2
namespace Lw
open PySem L2
noncomputable def top (i : Nat) : Stmt := PySem.Challenge.pw_laidcells_k05_whole_cells_written_otherw.main.body.getD i (.Pass ⟨0, 0, 0, 0⟩)
noncomputable abbrev sThere : Stmt := top 11
noncomputable abbrev sToldBy : Stmt := top 13
noncomputable abbrev sGateBit : Stmt := top 14
noncomputable abbrev sDeck : Stmt := top 24
noncomputable abbrev sTake : Stmt := top 25
noncomputable abbrev sKept : Stmt := top 26
noncomputable abbrev sMade : Stmt := top 27
noncomputable abbrev sNames : Stmt := top 28
noncomputable abbrev sGate : Stmt := top 29
noncomputable abbrev sCell : Stmt := top 30
noncomputable abbrev sBits : Stmt := top 34
noncomputable abbrev sIsName : Stmt := top 9
noncomputable abbrev sTakes : Stmt := top 10
noncomputable abbrev sRead : Stmt := top 16
noncomputable abbrev sAreIn : Stmt := top 17
noncomputable abbrev sIsGate : Stmt := top 18
noncomputable abbrev sCheckEnd : Stmt := top 19
noncomputable abbrev sKnown : Stmt := top 20
noncomputable abbrev sOnce : Stmt := top 21
noncomputable abbrev sText : Stmt := top 31
noncomputable abbrev sShown : Stmt := top 22
noncomputable abbrev sCalled : Stmt := top 35
noncomputable abbrev sOthers : Stmt := top 36
noncomputable abbrev sOtherw : Stmt := top 37
noncomputable abbrev sTurned : Stmt := top 38
noncomputable abbrev sTold : Stmt := top 39
noncomputable abbrev sLaw : Stmt := top 40
structure Txt (mg : Str → Option Value) : Prop where
  len : mg "len" = none
  range : mg "range" = none
  sum : mg "sum" = none
  min : mg "min" = none
  max : mg "max" = none
  tuple : mg "tuple" = none
  list : mg "list" = none
  set : mg "set" = none
  dict : mg "dict" = none
  int : mg "int" = none
structure Gd (K : PySem.W.Frag) (mg : Str → Option Value) (x : Str) (st : Stmt) (ps : List Str) (f : Addr) (fd : FuncData) : Prop where
  F : Fun K x x st f fd
  m : mg x = some (.ref f)
  k : PySem.W.keepIn K (.ref f) = true
  b : Binds K fd ps []
structure DeckAt (H : Hp) (d c : Addr) : Prop where
  ex : ∃ (ns : List Int) (p : Int), H d = some (.lst [.ref c, .int p]) ∧ H c = some (.lst (ns.map V.int)) ∧ 0 < ns.length ∧ ns.length ≤ 100
noncomputable def Keep (d c : Addr) (H H' : Hp) : Prop := ∀ b o, H b = some o → b ≠ d → b ≠ c → H' b = some o
theorem Keep.trans {d c : Addr} {H H1 H2 : Hp} (a : Keep d c H H1) (b : Keep d c H1 H2) : Keep d c H H2 := fun x o e h1 h2 => b x o (a x o e h1 h2) h1 h2
theorem Keep.new {d c p : Addr} {H : Hp} {o : HO} (h : H p = none) : Keep d c H (upd H p o) := fun b u e _ _ => by rw [upd_ne (ne_of_none e h)]; exact e
theorem DeckAt.ne {H : Hp} {d c : Addr} (D : DeckAt H d c) : d ≠ c := by
  obtain ⟨ns, p, h1, h2, h3, _⟩ := D.ex
  intro e
  subst e
  rw [h1] at h2
  injection h2 with h2
  injection h2 with h2
  cases ns with
  | nil => simp at h3
  | cons a r => simp at h2
theorem DeckAt.upd_other {H : Hp} {d c p : Addr} {o : HO} (D : DeckAt H d c) (hd : p ≠ d) (hc : p ≠ c) : DeckAt (upd H p o) d c := by
  obtain ⟨ns, q, h1, h2, h3, h4⟩ := D.ex
  exact ⟨ns, q, by rw [upd_ne hd.symm]; exact h1, by rw [upd_ne hc.symm]; exact h2, h3, h4⟩
theorem DeckAt.ned {H : Hp} {d c p : Addr} (D : DeckAt H d c) (h : H p = none) : p ≠ d ∧ p ≠ c := by
  obtain ⟨ns, q, h1, h2, _⟩ := D.ex
  exact ⟨(ne_of_none h1 h).symm, (ne_of_none h2 h).symm⟩
theorem DeckAt.new {H : Hp} {d c p : Addr} {o : HO} (D : DeckAt H d c) (h : H p = none) : DeckAt (upd H p o) d c := D.upd_other (D.ned h).1 (D.ned h).2
theorem DeckAt.ne_some {H : Hp} {d c p : Addr} {o : HO} (D : DeckAt H d c) (h : H p = some o) (n1 : ∀ xs, o ≠ .lst xs) : p ≠ d ∧ p ≠ c := by
  obtain ⟨ns, q, h1, h2, _⟩ := D.ex
  exact ⟨ne_of h h1 (n1 _), ne_of h h2 (n1 _)⟩
noncomputable def spTake : Sp := fun vs H Q _ => ∃ (d c : Addr) (m : Int), vs = [.ref d, .int m] ∧ DeckAt H d c ∧ 0 < m ∧ m < 1000000 ∧ ∀ (r : Int) (H' : Hp), 0 ≤ r → r < m → DeckAt H' d c → Keep d c H H' → Q (.int r) H'
section
variable {P : Program} {w : World} {K : PySem.W.Frag} {mg : Str → Option Value} {base : Heap}
theorem scTake : FnScope ["deck", "many", "at", "cell"] ["deck", "many"] (defScope sTake) := ⟨rfl, rfl, rfl, by decide +kernel, rfl, by decide +kernel, by decide +kernel⟩
set_option maxHeartbeats 1000000 in
theorem ok_take {f : Addr} {fd : FuncData} (F : Fun K "_law_take" "_law_take" sTake f fd) (T : Txt mg) : FnOk P w K mg base CX0 1 f fd ["deck", "many"] spTake := by
  refine F.ok scTake (fun vs H Q E h => ?_) (fun cdv A outer s H vs Q E hr h => ?_)
  · obtain ⟨d, c, m, rfl, _⟩ := h
    rfl
  · obtain ⟨d, c, m, rfl, D, hm0, hm, k⟩ := h
    obtain ⟨ns, p, h1, h2, h3, h4⟩ := id D.ex
    have hdc := D.ne
    refine ⟨_, pss_cons (ps_set (i := 2) scTake.nd rfl (Or.inl rfl) (pe_op op_mod (pe_ix ix_list (pv 0) pe_int (fun _ _ => rfl)) (pe_callB call_len_seq (by rfl) T.len PySem.boot_len (pa_cons (pe_ix ix_list (pv 0) pe_int (fun _ _ => rfl)) pa_nil))))
      (pss_cons (ps_asg (pe_op op_add (pe_ix ix_list (pv 0) pe_int (fun _ _ => rfl)) pe_int) (pg_sub (pv 0) pe_int set_list))
      (pss_cons (ps_set (i := 3) scTake.nd rfl (Or.inl rfl) (pe_ix ix_list (pe_ix ix_list (pv 0) pe_int (fun _ _ => rfl)) (pv 2) (fun _ _ => rfl)))
      (pss_cons (ps_asg (pe_op op_fdiv (pv 3) (pv 1)) (pg_sub (pe_ix ix_list (pv 0) pe_int (fun _ _ => rfl)) (pv 2) set_list))
      (pss_one (ps_ret (pe_op op_mod (pv 3) (pv 1))))))), ?_⟩
    refine ⟨_, rfl, d, _, _, _, rfl, rfl, SqL.of h1, rfl, _, rfl, d, _, _, _, rfl, rfl, SqL.of h1, rfl, c, _, rfl, .inl (SqL.of h2), _, _, rfl, rfl, ?_, ?_⟩
    · rw [List.length_map]; omega
    · rw [List.length_map]
      have b0 := Int.emod_nonneg p (show (ns.length : Int) ≠ 0 by omega)
      have b1 := Int.emod_lt_of_pos p (show (0 : Int) < ns.length by omega)
      obtain ⟨j, hj⟩ := Int.eq_ofNat_of_zero_le b0
      have hjl : j < ns.length := by omega
      have hat : (ns.map V.int)[j]? = some (V.int ns[j]) := by simp [hjl]
      refine ⟨_, rfl, d, _, _, _, rfl, rfl, SqL.of h1, rfl, _, _, rfl, rfl, _, rfl, d, _, _, 1, rfl, rfl, h1, rfl, ?_⟩
      have g1 : upd H d (.lst ([V.ref c, V.int p].set 1 (V.int (p + 1)))) d = some (.lst [.ref c, .int (p + 1)]) := upd_same
      have g2 : upd H d (.lst ([V.ref c, V.int p].set 1 (V.int (p + 1)))) c = some (.lst (ns.map V.int)) := by rw [upd_ne hdc.symm]; exact h2
      refine ⟨_, rfl, d, _, _, _, rfl, rfl, SqL.of g1, rfl, _, rfl, c, _, _, V.int ns[j], rfl, rfl, SqL.of g2, (by rw [hj]; exact atI_nat hat), ?_⟩
      · refine ⟨_, rfl, _, rfl, _, _, rfl, rfl, ⟨hm0, by omega⟩, _, rfl, d, _, _, _, rfl, rfl, SqL.of g1, rfl, _, rfl, c, _, _, j, rfl, rfl, g2, ?_, ?_⟩
        · rw [hj, List.length_map]
          unfold ixN
          rw [if_pos (by omega), if_pos (by omega)]
          simp
        · refine ⟨_, rfl, _, rfl, _, _, rfl, rfl, hm0, ?_⟩
          refine k _ _ (Int.emod_nonneg _ (by omega)) (Int.emod_lt_of_pos _ hm0) ⟨ns.set j (ns[j] / m), p + 1, ?_, ?_, by rw [List.length_set]; exact h3, by rw [List.length_set]; exact h4⟩ ?_
          · rw [upd_ne hdc]; exact g1
          · rw [upd_same, List.map_set]
          · intro b o e n1 n2
            rw [upd_ne n2, upd_ne n1]; exact e
end
end Lw
namespace Lw
open PySem L2
theorem Same.new {p : Addr} {H : Hp} {o : HO} (h : H p = none) : Same H (upd H p o) := fun b u e => by rw [upd_ne (ne_of_none e h)]; exact e
theorem cutV_ints (ns : List Int) (lo hi : Option Int) : ∃ ms : List Int, cutV (ns.map V.int) lo hi = ms.map V.int ∧ ms.length ≤ ns.length := by
  refine ⟨(ns.drop (HT.sIx ns.length 0 lo)).take (HT.sIx ns.length ns.length hi - HT.sIx ns.length 0 lo), ?_, ?_⟩
  · unfold cutV; rw [List.length_map, List.map_take, List.map_drop]
  · rw [List.length_take, List.length_drop]; omega
noncomputable def spDeck (K : PySem.W.Frag) : Sp := fun vs H Q _ => ∃ (a : Addr) (ns : List Int), vs = [.ref a] ∧ SqL K H a (ns.map V.int) ∧ ns.length ≤ 63 ∧ ∀ (d c : Addr) (H' : Hp), DeckAt H' d c → H d = none → H c = none → Same H H' → Q (.ref d) H'
section
variable {P : Program} {w : World} {K : PySem.W.Frag} {mg : Str → Option Value} {base : Heap}
theorem scDeck : FnScope ["script", "cells", "k", "mixed"] ["script"] (defScope sDeck) := ⟨rfl, rfl, rfl, by decide +kernel, rfl, by decide +kernel, by decide +kernel⟩
set_option maxHeartbeats 2000000 in
theorem ok_deck {f : Addr} {fd : FuncData} (F : Fun K "_law_deck" "_law_deck" sDeck f fd) (T : Txt mg) : FnOk P w K mg base CX0 1 f fd ["script"] (spDeck K) := by
  refine F.ok scDeck (fun vs H Q E h => ?_) (fun cdv A outer s H vs Q E hr h => ?_)
  · obtain ⟨a, ns, rfl, _⟩ := h
    rfl
  · obtain ⟨a, ns, rfl, hS, hlen, k⟩ := h
    refine ⟨_, pss_cons (ps_set (i := 1) scDeck.nd rfl (Or.inl rfl) (pe_op op_cat (pe_slice sl_list (pv 0) po_none (po_some pe_int)) (pe_lst (pa_cons (pe_callB call_len_seq (by rfl) T.len PySem.boot_len (pa_cons (pv 0) pa_nil)) pa_nil))))
      (pss_cons (ps_if (pt_cmpR op_eq (pe_op op_mod (pe_callB (call_sum rfl) (by rfl) T.sum PyProof.Rows.boot_sum (pa_cons (pe_slice sl_list (pv 0) po_none (po_some pe_int)) pa_nil)) pe_int) pe_int (nomark _))
        (pss_one (ps_for PassesOwn.never rfl (pi_range1 rfl T.range (pa_cons (pe_callB call_len_seq (by rfl) T.len PySem.boot_len (pa_cons (pv 1) pa_nil)) pa_nil)) (pg_name (i := 2) scDeck.nd rfl (Or.inl rfl))
          (pss_cons (ps_set (i := 3) scDeck.nd rfl (Or.inl rfl) (pe_op op_mod (pe_op op_mul (pe_op op_add (pe_op op_add (pe_op op_mod (pe_ix ix_list (pv 1) (pv 2) (fun _ _ => rfl)) pe_int) (pe_op op_mul pe_int (pv 2))) pe_int) pe_int) pe_int))
          (pss_cons (ps_set (i := 3) scDeck.nd rfl (Or.inl rfl) (pe_op op_mod (pe_op op_mul (pe_op op_mod (pe_op op_add (pe_op op_mul (pv 3) (pv 3)) (pe_op op_mul pe_int (pv 2))) pe_int) pe_int) pe_int))
          (pss_one (ps_asg (pe_op op_add (pe_op op_mul (pe_op op_mul (pv 3) (pv 3)) pe_int) (pe_op op_mod (pe_op op_mul (pv 3) pe_int) pe_int)) (pg_sub (pv 1) (pv 2) set_list)))))))
        pss_nil)
      (pss_one (ps_ret (pe_lst (pa_cons (pv 1) (pa_cons pe_int pa_nil)))))), ?_⟩
    obtain ⟨ms, em, hms⟩ := cutV_ints ns none (some 63)
    refine ⟨_, rfl, _, rfl, a, _, rfl, hS, fun p1 n1 => ?_⟩
    have s1 : Same H (upd H p1 (.lst (cutV (ns.map V.int) none (some 63)))) := Same.new n1
    rw [em] at s1 ⊢
    refine ⟨_, rfl, a, _, rfl, .inl (s1.seq hS), (by show 1 ≤ sizeLine; decide), fun p2 n2 => ?_⟩
    have s2 := s1.trans (Same.new (o := .lst [V.int ((ns.map V.int).length : Nat)]) n2)
    have q1 : upd (upd H p1 (.lst (ms.map V.int))) p2 (.lst [V.int ((ns.map V.int).length : Nat)]) p1 = some (.lst (ms.map V.int)) := by rw [upd_ne (ne_of_none upd_same n2)]; exact upd_same
    refine ⟨p1, p2, _, _, rfl, rfl, q1, upd_same, ?_, fun c nc => ?_⟩
    · rw [List.length_map]; exact Nat.le_trans (show ms.length + 1 ≤ 64 by omega) (by decide)
    have s3 := s2.trans (Same.new (o := .lst (ms.map V.int ++ [V.int ((ns.map V.int).length : Nat)])) nc)
    have ec : ms.map V.int ++ [V.int ((ns.map V.int).length : Nat)] = (ms ++ [((ns.map V.int).length : Int)]).map V.int := by simp
    rw [ec] at s3 ⊢
    generalize hcs : ms ++ [((ns.map V.int).length : Int)] = cs at s3
    have hcl : 0 < cs.length ∧ cs.length ≤ 64 := by rw [← hcs, List.length_append, List.length_singleton]; omega
    have hc0 : H c = none := s2.free nc
    generalize hH3 : upd (upd (upd H p1 (.lst (ms.map V.int))) p2 (.lst [V.int ((ns.map V.int).length : Nat)])) c (.lst (cs.map V.int)) = H3 at s3
    have c3 : H3 c = some (.lst (cs.map V.int)) := by rw [← hH3]; exact upd_same
    have fin : ∀ (cs' : List Int) (v2 v3 : Option V) (H4 : Hp), Same H H4 → H4 c = some (.lst (cs'.map V.int)) → 0 < cs'.length → cs'.length ≤ 64 →
        (tRet (tLst (tCons (tVar 1) (tCons (tC (.int 0)) tNil)))) { nx := fun _ H' => Q .non H', rt := Q } [some (.ref a), some (.ref c), v2, v3] H4 := by
      intro cs' v2 v3 H4 s4 c4 l1 l2
      refine ⟨_, rfl, (by show 2 ≤ sizeLine; decide), fun d nd => ?_⟩
      refine k d c _ ⟨cs', 0, upd_same, by rw [upd_ne (ne_of_none c4 nd)]; exact c4, l1, by omega⟩ (s4.free nd) hc0 (s4.trans (Same.new nd))
    refine ⟨_, rfl, _, rfl, a, _, rfl, s3.seq hS, fun p4 n4 => ?_⟩
    rw [em]
    have s4 := s3.trans (Same.new (o := .lst (ms.map V.int)) n4)
    have c4 : upd H3 p4 (.lst (ms.map V.int)) c = some (.lst (cs.map V.int)) := by rw [upd_ne (ne_of_none c3 n4)]; exact c3
    refine ⟨p4, ms, rfl, SqL.of upd_same, _, _, rfl, rfl, (by show (0 : Int) < 2; decide), rfl, _, rfl, ?_⟩
    refine ite2 (fun _ => ?_) (fun _ => ?_)
    · refine ⟨_, rfl, c, _, rfl, .inl (SqL.of c4), _, rfl, by omega, by rw [List.length_map]; omega, ?_⟩
      rw [List.length_map, Int.toNat_natCast]
      refine for_range (lo := 0) (n := cs.length) (fun i σ H5 => ∃ (cs' : List Int) (v2 v3 : Option V), σ = [some (.ref a), some (.ref c), v2, v3] ∧ Same H H5 ∧ H5 c = some (.lst (cs'.map V.int)) ∧ cs'.length = cs.length)
        ⟨cs, none, none, rfl, s4, c4, rfl⟩ ?_ ?_
      · rintro i σ H5 hi ⟨cs', v2, v3, rfl, s5, c5, hl⟩
        have hat : (cs'.map V.int)[i]? = some (V.int (cs'[i]'(by omega))) := by simp [hl, hi]
        refine ⟨_, rfl, _, rfl, c, _, _, V.int (cs'[i]'(by omega)), rfl, rfl, SqL.of c5, (by rw [Int.zero_add]; exact atI_nat hat), _, _, rfl, rfl, (by show (0 : Int) < 2147483587; decide), _, rfl, _, _, rfl, rfl, .inl (by decide), _, _, rfl, rfl, _, _, rfl, rfl, _, _, rfl, rfl, .inr (by decide), _, _, rfl, rfl, (by show (0 : Int) < 2147483629; decide), ?_⟩
        refine ⟨_, rfl, _, rfl, _, _, rfl, rfl, .inl ?_, _, rfl, _, _, rfl, rfl, .inl (by decide), _, _, rfl, rfl, _, _, rfl, rfl, (by show (0 : Int) < 2147483563; decide), _, _, rfl, rfl, .inr (by decide), _, _, rfl, rfl, (by show (0 : Int) < 2147483549; decide), ?_⟩
        · have b0 := Int.emod_nonneg ((cs'[i]'(by omega) % 2147483587 + 853 * (0 + (i : Int)) + 11) * 69621) (show (2147483629 : Int) ≠ 0 by decide)
          have b1 := Int.emod_lt_of_pos ((cs'[i]'(by omega) % 2147483587 + 853 * (0 + (i : Int)) + 11) * 69621) (show (0 : Int) < 2147483629 by decide)
          exact ⟨by omega, by omega⟩
        generalize hM : ((cs'[i]'(by omega) % 2147483587 + 853 * (0 + (i : Int)) + 11) * 69621 % 2147483629) = M
        have b0 := Int.emod_nonneg ((M * M + 31 * (0 + (i : Int))) % 2147483563 * 16807) (show (2147483549 : Int) ≠ 0 by decide)
        have b1 := Int.emod_lt_of_pos ((M * M + 31 * (0 + (i : Int))) % 2147483563 * 16807) (show (0 : Int) < 2147483549 by decide)
        refine ⟨_, rfl, _, rfl, _, _, rfl, rfl, .inl ?_, _, _, rfl, rfl, .inr (by decide), _, rfl, _, _, rfl, rfl, .inl ?_, _, _, rfl, rfl, (by show (0 : Int) < 2147483579; decide), _, _, rfl, rfl, _, rfl, _, rfl, c, _, _, i, rfl, rfl, c5, ?_, ?_⟩
        · exact ⟨by omega, by omega⟩
        · exact ⟨by omega, by omega⟩
        · rw [List.length_map]
          unfold ixN
          rw [if_pos (by omega), if_pos (by omega)]
          congr 1
          omega
        · refine ⟨cs'.set i _, _, _, rfl, ?_, by rw [upd_same, List.map_set], by rw [List.length_set]; exact hl⟩
          intro b o e
          rw [upd_ne (ne_of_none e hc0)]; exact s5 b o e
      · rintro σ H5 ⟨cs', v2, v3, rfl, s5, c5, hl⟩
        exact fin cs' v2 v3 H5 s5 c5 (by omega) (by omega)
    · exact fin cs none none _ s4 c4 hcl.1 hcl.2
end
end Lw
namespace Lw
open PySem L2
structure LS (n m : Nat) (x : Str) : Prop where
  az : ∀ c ∈ x.cps.toList, 97 ≤ c ∧ c ≤ 122
  lo : n ≤ x.length
  hi : x.length ≤ m
theorem app_list (x y : Str) : (x ++ y).cps.toList = x.cps.toList ++ y.cps.toList := by
  show (x.cps ++ y.cps).toList = _
  simp
theorem app_len (x y : Str) : (x ++ y).length = x.length + y.length := by
  show (x.cps ++ y.cps).size = _
  simp [Str.length]
theorem LS.app {a b c d : Nat} {x y : Str} (h : LS a b x) (g : LS c d y) : LS (a + c) (b + d) (x ++ y) :=
  ⟨fun z hz => by rw [app_list] at hz; exact (List.mem_append.mp hz).elim (h.az z) (g.az z), by rw [app_len]; have := h.lo; have := g.lo; omega, by rw [app_len]; have := h.hi; have := g.hi; omega⟩
theorem LS.weak {a b c d : Nat} {x : Str} (h : LS a b x) (h1 : c ≤ a) (h2 : b ≤ d) : LS c d x := ⟨h.az, Nat.le_trans h1 h.lo, Nat.le_trans h.hi h2⟩
noncomputable def lsB (n m : Nat) (x : Str) : Bool := x.cps.toList.all (fun c => decide (97 ≤ c) && decide (c ≤ 122)) && decide (n ≤ x.length) && decide (x.length ≤ m)
theorem LS.of {n m : Nat} {x : Str} (h : lsB n m x = true) : LS n m x := by
  unfold lsB at h
  simp only [Bool.and_eq_true, List.all_eq_true, decide_eq_true_eq] at h
  exact ⟨h.1.1, h.1.2, h.2⟩
theorem LS.cutL {n : Nat} {z : Str} (h : LS n n z) {k : Nat} (hk : k ≤ n) : LS k k (cutS z none (some (k : Int))) := by
  have e : z.length = n := Nat.le_antisymm h.hi h.lo
  have e1 : HT.sIx z.length z.length (some (k : Int)) = k := by rw [HT.sIx_nat]; omega
  have e2 : (cutS z none (some (k : Int))).cps.toList = z.cps.toList.take k := by
    show ((z.cps.toList.drop (HT.sIx z.length 0 none)).take _).toArray.toList = _
    rw [e1, HT.sIx_none]; simp
  have el : (cutS z none (some (k : Int))).length = k := by
    rw [← str_len_list, e2, List.length_take, str_len_list]; omega
  exact ⟨fun c hc => by rw [e2] at hc; exact h.az c (List.mem_of_mem_take hc), by omega, by omega⟩
theorem LS.cutR {n : Nat} {z : Str} (h : LS n n z) {k : Nat} (hk : k ≤ n) : LS (n - k) (n - k) (cutS z (some (k : Int)) none) := by
  have e : z.length = n := Nat.le_antisymm h.hi h.lo
  have e1 : HT.sIx z.length 0 (some (k : Int)) = k := by rw [HT.sIx_nat]; omega
  have e2 : (cutS z (some (k : Int)) none).cps.toList = z.cps.toList.drop k := by
    show ((z.cps.toList.drop (HT.sIx z.length 0 (some (k : Int)))).take _).toArray.toList = _
    rw [e1, HT.sIx_none]
    simp only [List.toList_toArray]
    rw [List.take_of_length_le]
    rw [List.length_drop, str_len_list]; omega
  have el : (cutS z (some (k : Int)) none).length = n - k := by
    rw [← str_len_list, e2, List.length_drop, str_len_list]; omega
  exact ⟨fun c hc => by rw [e2] at hc; exact h.az c (List.mem_of_mem_drop hc), by omega, by omega⟩
theorem LS.sign {c : Nat} (h : 97 ≤ c ∧ c ≤ 122) : LS 1 1 ⟨#[c]⟩ := ⟨fun d hd => by simp at hd; subst hd; exact h, Nat.le_refl _, Nat.le_refl _⟩
theorem glue_signs : ∀ (ys : List Str), (∀ y ∈ ys, LS 1 1 y) → LS ys.length ys.length (Str.join "" ys)
  | [], _ => ⟨fun c hc => (nomatch hc), Nat.le_refl _, Nat.le_refl _⟩
  | [x], h => h x List.mem_cons_self
  | x :: y :: r, h => by
    have h1 := h x List.mem_cons_self
    have h2 := glue_signs (y :: r) fun z hz => h z (List.mem_cons_of_mem _ hz)
    have e0 : LS 0 0 (Str.ofString "") := LS.of (by decide +kernel)
    have := (h1.app e0).app h2
    show LS _ _ (x ++ (Str.ofString "") ++ Str.join "" (y :: r))
    exact this.weak (by simp; omega) (by simp; omega)
theorem at_in {α : Type} {xs : List α} {i : Int} (h0 : 0 ≤ i) (h1 : i < xs.length) : ∃ v, atI xs i = some v ∧ v ∈ xs := by
  obtain ⟨j, rfl⟩ := Int.eq_ofNat_of_zero_le h0
  have hj : j < xs.length := by omega
  exact ⟨xs[j], atI_nat (List.getElem?_eq_getElem hj), List.getElem_mem hj⟩
theorem at_str {xs : List Str} {i : Int} (h0 : 0 ≤ i) (h1 : i < xs.length) : ∃ x, atI (xs.map V.str) i = some (V.str x) ∧ x ∈ xs := by
  obtain ⟨j, rfl⟩ := Int.eq_ofNat_of_zero_le h0
  have hj : j < xs.length := by omega
  exact ⟨xs[j], atI_nat (by simp [hj]), List.getElem_mem hj⟩
noncomputable def lettersS : Str := "abcdefghijklmnopqrstuvwxyz"
theorem letters_len : lettersS.length = 26 := by decide +kernel
theorem letters_at {i : Int} (h0 : 0 ≤ i) (h1 : i < 26) : ∃ c, atI lettersS.cps.toList i = some c ∧ 97 ≤ c ∧ c ≤ 122 := by
  obtain ⟨c, e, m⟩ := at_in (xs := lettersS.cps.toList) h0 (by rw [str_len_list, letters_len]; exact h1)
  have h : LS 26 26 lettersS := LS.of (by decide +kernel)
  exact ⟨c, e, h.az c m⟩
noncomputable def keptS : List Str := ["and", "or", "odd", "most", "not", "one", "nil", "in", "out"]
theorem kept_ls {x : Str} (h : x ∈ keptS) : LS 2 4 x := by
  have : keptS.all (lsB 2 4) = true := by decide +kernel
  exact LS.of (List.all_eq_true.mp this x h)
structure GoodName (x : Str) : Prop where
  ls : LS 1 8 x
  nk : x ∉ keptS
end Lw
namespace L2
open PySem PySem.Spec PyProof.Rows
noncomputable def noStar : Expr → Bool
  | .Starred _ _ => false
  | _ => true
theorem starEach_cons {env : Env} {e : Expr} {es : List Expr} (h : noStar e = true) : starEach (e :: es) env = (false, eval e env) :: starEach es env := by
  cases e <;> first | rfl | (simp [noStar] at h)
section
variable {X : Cx} {e : Expr} {es : List Expr} {te : TE} {t : TA}
theorem pa_c (ha : PE X e te) (hr : PA X es t) (h : noStar e = true := by rfl) : PA X (e :: es) (tCons te t) := pa_cons ha hr (starEach_cons h)
noncomputable def tStrs (xs : List Str) : TA := fun _ H Q => Q (xs.map V.str) H
theorem pa_strs : ∀ (l : List (Str × Nat × Pos)), PA X (l.map fun p => .Constant (.str p.1) p.2.1 p.2.2) (tStrs (l.map (·.1)))
  | [] => pa_nil
  | a :: r => fun pos pins s σ H Q I h => pa_c (pe_str (x := a.1) (j := a.2.1) (pos := a.2.2)) (pa_strs r) (by rfl) pos pins s σ H Q I h
end
theorem lc1y {J : It} {xs : List V} {R : Hp → Prop} {nm : Str} {caps : List Nat} {te : TE} {σ : St} {H1 : Hp} {Q : VK} {D : Addr} (Y : Yields J xs R) (Pv : Nat → List V → Hp → Prop)
    (h0 : Pv 0 [] (upd H1 D (.lst []))) (hR : ∀ i ys H, i ≤ xs.length → Pv i ys H → R H)
    (hs : ∀ i x ys H, xs[i]? = some x → Pv i ys H → te (some x :: caps.map (fun i => (σ[i]?).join)) H (LcN (caps.map (fun i => (σ[i]?).join)) D Pv i ys (some x :: caps.map (fun i => (σ[i]?).join))))
    (hd : ∀ ys H, Pv xs.length ys H → Q (.ref D) H) : LCW [nm] caps J (gName 0) tYes te σ H1 Q D := by
  refine lc1 Y Pv h0 hR (fun i x ys H hx p => ?_) hd
  unfold tYes
  dsimp only
  rw [if_pos rfl]
  exact hs i x ys H hx p
theorem lcMap {J : It} {xs : List V} {R : Hp → Prop} {nm : Str} {caps : List Nat} {te : TE} {σ : St} {H1 : Hp} {Q : VK} {D : Addr} (Y : Yields J xs R) (f : V → V) (nD : H1 D = none) (hR : ∀ H, Same H1 H → R H) (hl : xs.length ≤ 1000)
    (hs : ∀ (i : Nat) x H (k : VK), xs[i]? = some x → Same H1 H → k (f x) H → te (some x :: caps.map (fun i => (σ[i]?).join)) H k)
    (hd : Q (.ref D) (upd H1 D (.lst (xs.map f)))) : LCW [nm] caps J (gName 0) tYes te σ H1 Q D := by
  have sm : ∀ o, Same H1 (upd H1 D o) := fun o b u e => by rw [upd_ne (ne_of_none e nD)]; exact e
  refine lc1y Y (fun i ys H => i ≤ xs.length ∧ ys = (xs.take i).map f ∧ H = upd H1 D (.lst ys)) ⟨Nat.zero_le _, by simp, rfl⟩ (fun i ys H _ p => hR H (by rw [p.2.2]; exact sm _)) ?_ ?_
  · rintro i x ys H hx ⟨hi, rfl, rfl⟩
    have hlt := (List.getElem?_eq_some_iff.mp hx).1
    have et : xs.take (i + 1) = xs.take i ++ [x] := by rw [List.take_add_one, hx]; rfl
    refine hs i x _ _ hx (sm _) ⟨⟨_, rfl⟩, upd_same, ?_, hlt, ?_, ?_⟩
    · rw [List.length_map, List.length_take]; exact Nat.lt_of_le_of_lt (show min i xs.length ≤ 1000 by omega) (by decide)
    · rw [et, List.map_append]; rfl
    · rw [upd_upd]
  · rintro ys H ⟨_, rfl, rfl⟩
    rw [List.take_of_length_le (Nat.le_refl _)]
    exact hd
end L2
namespace L2
open PySem PySem.Spec PyProof.Rows
theorem ex_cut {X : Cx} {st : Stmt} {rest : List Stmt} {D : Ends} {σ : St} {H : Hp} (I : St → Hp → Prop) (g : ∀ u : TS, (∀ σ' H', I σ' H' → u D σ' H') → ∃ t, PS X st t ∧ t { D with nx := u D } σ H)
    (h : ∀ σ' H', I σ' H' → ∃ u, PSs X rest u ∧ u D σ' H') : ∃ t, PSs X (st :: rest) t ∧ t D σ H := by
  let u : TS := fun D' σ' H' => ∃ u0, PSs X rest u0 ∧ u0 D' σ' H'
  have pu : PSs X rest u := fun pins s σ' H' D' I' ⟨u0, p0, h0⟩ => p0 pins s σ' H' D' I' h0
  obtain ⟨t, pt, ht⟩ := g u h
  exact ⟨tSeq t u, pss_cons pt pu, ht⟩
theorem ex_next {X : Cx} {st : Stmt} {rest : List Stmt} {D : Ends} {σ : St} {H : Hp} (t : TS) (p : PS X st t) (h : t { D with nx := fun σ' H' => ∃ u, PSs X rest u ∧ u D σ' H' } σ H) : ∃ t, PSs X (st :: rest) t ∧ t D σ H := by
  let u : TS := fun D' σ' H' => ∃ u0, PSs X rest u0 ∧ u0 D' σ' H'
  have pu : PSs X rest u := fun pins s σ' H' D' I' ⟨u0, p0, h0⟩ => p0 pins s σ' H' D' I' h0
  exact ⟨tSeq t u, pss_cons p pu, h⟩
end L2
namespace L2
open PySem PySem.Spec PyProof.Rows
section
variable {X : Cx} {o e : Expr} {es : List Expr} {to : TE} {t : TA} {name : Str} {apos cpos : Pos} {T id : String} {r : V → List V → Hp → VK → Prop}
noncomputable def rLenK (K : PySem.W.Frag) : List V → Hp → VK → Prop := fun xs H Q => ∃ p ys, xs = [.ref p] ∧ (SqL K H p ys ∨ SqT K H p ys) ∧ Q (.int ys.length) H
theorem call_lenK (K : PySem.W.Frag) (hK : X.K = K := by rfl) : CallR X (.builtin "len") (rLenK K) := by subst hK; exact call_len_seq
theorem ix_tupK (K : PySem.W.Frag) (hK : X.K = K := by rfl) : IxR X (rIxT K) := by subst hK; exact ix_tup
theorem pe_bmK (K : PySem.W.Frag) (pa : PlainAttrs T) (slot : Slot T name id) (hty : typeOf (.builtin id) = pure (.type "method_descriptor")) (hm : MtR X id r) (ho : PE X o to) (ha : PA X (e :: es) t) (hK : X.K = K := by rfl)
    (hbase : attributeBase o name X.env (eval o X.env) = eval o X.env := by rfl)
    (hfew : ((backTo cpos (starEach (e :: es) X.env)).all (fun x => !x.1) && (backToKw cpos (keywordEach [] X.env)).all (fun x => x.1.isSome)
      && decide ((e :: es).length + ([] : List Keyword).length + (if ([] : List Keyword).isEmpty then 0 else 1) < 30)) = true := by rfl)
    (hline : (apos.endLine == cpos.line) = true := by rfl) (hs : starEach (e :: es) X.env = (false, eval e X.env) :: starEach es X.env := by rfl) (hplain : (backTo cpos (starEach es X.env)).any (·.1) = false := by rfl) :
    PE X (.Call (.Attribute o name apos) (e :: es) [] cpos) (tBM K T r to t) := by
  subst hK
  exact pe_bm pa slot hty hm ho ha hbase hfew hline hs hplain
end
end L2
namespace L2
open PySem PySem.Spec PyProof.Rows
section
variable {X : Cx}
noncomputable def tInts (xs : List Int) : TA := fun _ H Q => Q (xs.map V.int) H
theorem pa_ints : ∀ (l : List (Int × Nat × Pos)), PA X (l.map fun p => .Constant (.int p.1) p.2.1 p.2.2) (tInts (l.map (·.1)))
  | [] => pa_nil
  | a :: r => fun pos pins s σ H Q I h => pa_c (pe_int (i := a.1) (j := a.2.1) (pos := a.2.2)) (pa_ints r) (by rfl) pos pins s σ H Q I h
end
end L2
namespace L2
open PySem PySem.Spec PyProof.Rows
section
variable {X : Cx}
end
theorem kit_same (K : PySem.W.Frag) (T : String) : PySem.W.kitOne K (.type T) (.type T) = some true := by
  unfold PySem.W.kitOne
  rw [if_pos (by simp)]
end L2
namespace Lw
open PySem L2
noncomputable def spKept : Sp := fun vs H Q _ => vs = [] ∧ ∀ l, H l = none → Q (.ref l) (upd H l (.lst (keptS.map V.str)))
noncomputable def spMade : Sp := fun vs H Q _ => ∃ (d c : Addr) (m : Nat), vs = [.ref d, .int m] ∧ DeckAt H d c ∧ m ≤ 40 ∧ ∀ (l : Addr) (xs : List Str) (H' : Hp), H l = none → H' l = some (.lst (xs.map V.str)) → xs.length = m → (∀ x ∈ xs, LS 1 8 x) →
  DeckAt H' d c → Keep d c H H' → Q (.ref l) H'
theorem Keep.free {d c l : Addr} {H H' : Hp} (k : Keep d c H H') (h1 : l ≠ d) (h2 : l ≠ c) (h : H' l = none) : H l = none := by
  cases e : H l with
  | none => rfl
  | some o => rw [k l o e h1 h2] at h; cases h
theorem map_len_le {ys : List Str} {n m : Nat} (h : ∀ y ∈ ys, y.length ≤ m) (hn : ys.length ≤ n) : (ys.map (·.length)).sum ≤ n * m := by
  have : ∀ ys : List Str, (∀ y ∈ ys, y.length ≤ m) → (ys.map (·.length)).sum ≤ ys.length * m := by
    intro ys
    induction ys with
    | nil => intro _; simp
    | cons a r ih =>
      intro h
      have h1 := h a List.mem_cons_self
      have h2 := ih fun y hy => h y (List.mem_cons_of_mem _ hy)
      simp only [List.map_cons, List.sum_cons, List.length_cons, Nat.add_mul, Nat.one_mul]
      omega
  exact Nat.le_trans (this ys h) (Nat.mul_le_mul_right m hn)
theorem small_size {n : Nat} (h : n ≤ 1000) : n ≤ sizeLine := Nat.le_trans h (by decide)
section
variable {P : Program} {w : World} {K : PySem.W.Frag} {mg : Str → Option Value} {base : Heap}
theorem scKept : FnScope [] [] (defScope sKept) := ⟨rfl, rfl, rfl, by decide +kernel, rfl, by decide +kernel, by decide +kernel⟩
theorem ok_kept {f : Addr} {fd : FuncData} (F : Fun K "_law_kept" "_law_kept" sKept f fd) : FnOk P w K mg base CX0 1 f fd [] spKept := by
  refine F.ok scKept (fun vs H Q E h => ?_) (fun cdv A outer s H vs Q E hr h => ?_)
  · obtain ⟨rfl, _⟩ := h
    rfl
  · obtain ⟨rfl, k⟩ := h
    refine ⟨_, @pss_one _ _ _ (@ps_ret _ _ _ _ (@pe_lst _ _ _ _ (@pa_strs _ [("and", _, _), ("or", _, _), ("odd", _, _), ("most", _, _), ("not", _, _), ("one", _, _), ("nil", _, _), ("in", _, _), ("out", _, _)]))), ?_⟩
    have hz : 9 ≤ sizeLine := by decide
    refine ⟨hz, ?_⟩
    exact k
theorem scMade : FnScope ["deck", "many", "letters", "base", "at", "shift", "way", "names", "k", "sign", "word", "name"] ["deck", "many"] (defScope sMade) := ⟨rfl, rfl, rfl, by decide +kernel, rfl, by decide +kernel, by decide +kernel⟩
theorem ndMade : (["k", "letters", "deck"] : List Str).Nodup := by decide +kernel
theorem q01 {i : Int} (h0 : 0 ≤ i) (h1 : i < 2) (q : Str) (hq : LS 0 1 q) : ∃ x, atI [V.str "", V.str q] i = some (V.str x) ∧ LS 0 1 x := by
  have : i = 0 ∨ i = 1 := by omega
  rcases this with rfl | rfl
  · exact ⟨"", rfl, LS.of (by decide +kernel)⟩
  · exact ⟨q, rfl, hq⟩
set_option maxHeartbeats 4000000 in
theorem ok_made {f fT fK : Addr} {fd fdT fdK : FuncData} (F : Fun K "_law_made_names" "_law_made_names" sMade f fd) (T : Txt mg) (gT : Gd K mg "_law_take" sTake ["deck", "many"] fT fdT) (gK : Gd K mg "_law_kept" sKept [] fK fdK) :
    FnOk P w K mg base CX0 2 f fd ["deck", "many"] spMade := by
  have GT : FnOk P w K mg base CX0 1 fT fdT ["deck", "many"] spTake := ok_take gT.F T
  have GK : FnOk P w K mg base CX0 1 fK fdK [] spKept := ok_kept gK.F
  refine F.ok scMade (fun vs H Q E h => ?_) (fun cdv A outer s H vs Q E hr h => ?_)
  · obtain ⟨d, c, m, rfl, _⟩ := h
    rfl
  · obtain ⟨d, c, m, rfl, D, hm, k⟩ := h
    refine ⟨_, pss_cons (ps_set (i := 2) scMade.nd rfl (Or.inr rfl) pe_str)
      (pss_cons (ps_set (i := 3) scMade.nd rfl (Or.inl rfl) (pe_bm PySem.F.plainAttrs_str PySem.F.slot_str_join PySem.F.type_str_join mt_join pe_str (pa_c
        (pe_lc ["k"] ["letters", "deck"] [2, 0] rfl (pi_range1 rfl T.range (pa_c (pe_call GT hr rfl gT.m gT.k gT.b .nil pass0 (pa_c (pv 0) (pa_c pe_int pa_nil))) pa_nil)) rfl rfl
          (fun s₀ H₀ C cl fp => pg_name (i := 0) ndMade rfl (Or.inl rfl)) (fun s₀ H₀ C cl fp => pifs_nil)
          (fun s₀ H₀ C cl fp => pe_ix ix_str (pv 1) (pe_call GT hr rfl gT.m gT.k gT.b .nil pass0 (pa_c (pv 2) (pa_c pe_int pa_nil))) (fun _ _ => rfl))) pa_nil)))
      (pss_cons (ps_set (i := 4) scMade.nd rfl (Or.inl rfl) (pe_call GT hr rfl gT.m gT.k gT.b .nil pass0 (pa_c (pv 0) (pa_c (pe_op op_add (pe_callB call_len_str (by rfl) T.len PySem.boot_len (pa_c (pv 3) pa_nil)) pe_int) pa_nil))))
      (pss_cons (ps_set (i := 5) scMade.nd rfl (Or.inl rfl) (pe_call GT hr rfl gT.m gT.k gT.b .nil pass0 (pa_c (pv 0) (pa_c pe_int pa_nil))))
      (pss_cons (ps_set (i := 6) scMade.nd rfl (Or.inl rfl) (pe_call GT hr rfl gT.m gT.k gT.b .nil pass0 (pa_c (pv 0) (pa_c pe_int pa_nil))))
      (pss_cons (ps_set (i := 7) scMade.nd rfl (Or.inl rfl) (pe_lst pa_nil))
      (pss_cons (ps_for PassesOwn.never rfl (pi_range1 rfl T.range (pa_c (pv 1) pa_nil)) (pg_name (i := 8) scMade.nd rfl (Or.inl rfl))
        (pss_cons (ps_set (i := 9) scMade.nd rfl (Or.inl rfl) (pe_ix ix_str (pv 2) (pe_op op_mod (pe_op op_add (pv 5) (pv 8)) pe_int) (fun _ _ => rfl)))
        (pss_cons (ps_set (i := 10) scMade.nd rfl (Or.inl rfl) (pe_ix ix_list (pe_call0 GK hr rfl gK.m gK.k gK.b .nil pass0) (pe_op op_mod (pe_op op_add (pv 5) (pv 8)) pe_int) (fun _ _ => rfl)))
        (pss_cons (ps_set (i := 11) scMade.nd rfl (Or.inl rfl) (pe_op op_add_str (pe_op op_add_str (pe_op op_add_str (pe_op op_add_str (pe_slice sl_str (pv 3) po_none (po_some (pv 4))) (pv 9))
          (pe_ix ix_list (pe_lst (pa_c pe_str (pa_c pe_str pa_nil))) (pe_op op_mod (pv 8) pe_int) (fun _ _ => rfl))) (pe_slice sl_str (pv 3) (po_some (pv 4)) po_none)) (pe_ix ix_list (pe_lst (pa_c pe_str (pa_c pe_str pa_nil))) (pe_op op_fdiv (pv 8) pe_int) (fun _ _ => rfl))))
        (pss_one (ps_expr (pe_bm PySem.F.plainAttrs_list PySem.F.slot_list_append PySem.F.type_list_append mt_append (pv 7) (pa_c (pe_ix ix_list (pe_lst (pa_c (pv 11) (pa_c (pe_op op_add_str (pv 9) (pv 10)) (pa_c (pe_op op_add_str (pv 10) (pv 9))
          (pa_c (pe_op op_add_str (pe_op op_add_str (pv 9) (pv 10)) (pe_ix ix_str (pv 2) (pe_op op_mod (pv 8) pe_int) (fun _ _ => rfl))) pa_nil))))) (pv 6) (fun _ _ => rfl)) pa_nil))))))))
      (pss_one (ps_ret (pv 7))))))))), ?_⟩
    refine ⟨rfl, _, rfl, d, c, 6, rfl, D, by decide, by decide, fun r1 H1 a0 a1 D1 k1 => ⟨_, rfl, by omega, by omega, fun D0 nD0 => ?_⟩⟩
    have nd0 := D1.ned nD0
    have hHD : H D0 = none := k1.free nd0.1 nd0.2 nD0
    refine lc1y yields_range (fun i ys H2 => ∃ zs : List Str, ys = zs.map V.str ∧ zs.length = i ∧ (∀ z ∈ zs, LS 1 1 z) ∧ DeckAt H2 d c ∧ Keep d c H H2 ∧ H2 D0 = some (.lst ys))
      ⟨[], rfl, rfl, (fun z hz => nomatch hz), D1.new nD0, k1.trans (Keep.new nD0), upd_same⟩ (fun _ _ _ _ _ => True.intro) ?_ ?_
    · rintro i x ys H2 hx ⟨zs, rfl, hl, hzs, D2, k2, hD⟩
      have hi : i < 6 := by
        have := (List.getElem?_eq_some_iff.mp hx).1
        simp at this
        omega
      refine ⟨_, rfl, _, rfl, d, c, 26, rfl, D2, by decide, by decide, fun r H3 b0 b1 D3 k3 => ?_⟩
      obtain ⟨cc, hat, hcc⟩ := letters_at b0 b1
      have hD3 := k3 D0 _ hD nd0.1 nd0.2
      refine ⟨lettersS, _, cc, rfl, rfl, (by rw [letters_len]; decide), hat, ⟨_, rfl⟩, hD3, (by rw [List.length_map]; exact Nat.lt_of_lt_of_le (show zs.length < 1000 by omega) (by decide)), zs ++ [⟨#[cc]⟩], by simp, by simp [hl], fun z hz => ?_, D3.upd_other nd0.1 nd0.2, ?_, upd_same⟩
      · rcases List.mem_append.mp hz with q | q
        · exact hzs z q
        · rw [List.mem_singleton.mp q]; exact LS.sign hcc
      · exact fun b o e h1 h2 => by rw [upd_ne (ne_of_none e hHD)]; exact k3 b o (k2 b o e h1 h2) h1 h2
    · rintro ys H2 ⟨zs, rfl, hl, hz, D2, k2, hD⟩
      rw [List.length_map, List.length_range] at hl
      have hB := glue_signs zs hz
      have hBl : zs.length ≤ 5 := by omega
      refine ⟨"", D0, zs, rfl, rfl, .inl (SqL.of hD), ?_, ?_⟩
      · have h1 := map_len_le (m := 1) (fun y hy => (hz y hy).hi) hBl
        have h2 : (Str.ofString "").length = 0 := by decide +kernel
        rw [h2]; omega
      have ej : Txt.join (Str.ofString "") zs = Str.join (Str.ofString "") zs := StrLaws.glued_eq_join _ _
      rw [ej]
      generalize Str.join (Str.ofString "") zs = B at hB
      have eB : B.length = zs.length := Nat.le_antisymm hB.hi hB.lo
      refine ⟨_, rfl, _, rfl, B, rfl, small_size (by omega), _, _, rfl, rfl, d, c, _, rfl, D2, by omega, by omega, fun r2 H3 b0 b1 D3 k3 => ?_⟩
      refine ⟨_, rfl, d, c, 26, rfl, D3, by decide, by decide, fun r3 H4 c0 c1 D4 k4 => ?_⟩
      refine ⟨_, rfl, d, c, 4, rfl, D4, by decide, by decide, fun r4 H5 d0 d1 D5 k5 => ?_⟩
      refine ⟨(by show 0 ≤ sizeLine; decide), fun l nl => ?_⟩
      have kk : Keep d c H H5 := ((k2.trans k3).trans k4).trans k5
      have nl2 := D5.ned nl
      have hHl : H l = none := kk.free nl2.1 nl2.2 nl
      obtain ⟨at', rfl⟩ := Int.eq_ofNat_of_zero_le b0
      refine ⟨_, rfl, _, rfl, by omega, by omega, ?_⟩
      rw [Int.toNat_natCast]
      refine for_range (lo := 0) (n := m) (fun i σ H6 => ∃ (xs : List Str) (v8 v9 v10 v11 : Option V), σ = [some (.ref d), some (.int m), some (.str lettersS), some (.str B), some (.int at'), some (.int r3), some (.int r4), some (.ref l), v8, v9, v10, v11] ∧
          xs.length = i ∧ (∀ x ∈ xs, LS 1 8 x) ∧ H6 l = some (.lst (xs.map V.str)) ∧ DeckAt H6 d c ∧ Keep d c H H6)
        ⟨[], none, none, none, none, rfl, rfl, (fun z hz => nomatch hz), upd_same, D5.new nl, kk.trans (Keep.new nl)⟩ ?_ ?_
      · rintro i σ H6 hi ⟨xs, v8, v9, v10, v11, rfl, hl6, hx6, h6, D6, k6⟩
        have e26 : ∀ z : Int, 0 ≤ z % 26 ∧ z % 26 < 26 := fun z => ⟨Int.emod_nonneg z (by decide), Int.emod_lt_of_pos z (by decide)⟩
        have e9 : ∀ z : Int, 0 ≤ z % 9 ∧ z % 9 < 9 := fun z => ⟨Int.emod_nonneg z (by decide), Int.emod_lt_of_pos z (by decide)⟩
        have e2 : ∀ z : Int, 0 ≤ z % 2 ∧ z % 2 < 2 := fun z => ⟨Int.emod_nonneg z (by decide), Int.emod_lt_of_pos z (by decide)⟩
        obtain ⟨cc, hat1, hcc⟩ := letters_at (e26 (r3 + (0 + (i : Int)))).1 (e26 _).2
        obtain ⟨wd, hat2, hwd⟩ := at_str (xs := keptS) (e9 (r3 + (0 + (i : Int)))).1 (by exact (e9 _).2)
        obtain ⟨x1, hat3, hx1⟩ := q01 (e2 (0 + (i : Int))).1 (e2 _).2 "q" (LS.of (by decide +kernel))
        obtain ⟨x2, hat4, hx2⟩ := q01 (i := (0 + (i : Int)) / 26) (by omega) (by omega) "w" (LS.of (by decide +kernel))
        obtain ⟨c5, hat5, hc5⟩ := letters_at (e26 (0 + (i : Int))).1 (e26 _).2
        have hS := LS.sign hcc
        have hW := kept_ls hwd
        have hatn : at' ≤ zs.length := by omega
        have hP := hB.cutL hatn
        have hR := hB.cutR hatn
        have n1 := hP.app hS
        have n2 := n1.app hx1
        have n3 := n2.app hR
        have n4 := n3.app hx2
        have w1 := hS.app hW
        have w2 := hW.app hS
        have w3 := w1.app (LS.sign hc5)
        have sz : ∀ {a b c' d' : Nat} {x y : Str}, LS a b x → LS c' d' y → b + d' ≤ 100 → x.length + y.length ≤ sizeLine := fun g1 g2 hb => small_size (by have := g1.hi; have := g2.hi; omega)
        have lsz : lettersS.length ≤ sizeLine := by rw [letters_len]; decide
        have bsz : B.length ≤ sizeLine := small_size (by omega)
        refine ⟨_, rfl, _, rfl, _, rfl, _, _, rfl, rfl, _, _, rfl, rfl, (by show (0 : Int) < 26; decide), lettersS, _, cc, rfl, rfl, lsz, hat1, ?_⟩
        refine ⟨rfl, fun p np => ?_⟩
        have D7 : DeckAt (upd H6 p (.lst (keptS.map V.str))) d c := D6.new np
        refine ⟨_, rfl, _, rfl, _, _, rfl, rfl, _, _, rfl, rfl, (by show (0 : Int) < 9; decide), p, _, _, .str wd, rfl, rfl, SqL.of upd_same, hat2, ?_⟩
        have k7 : Keep d c H (upd H6 p (.lst (keptS.map V.str))) := k6.trans (Keep.new np)
        have h7 : upd H6 p (.lst (keptS.map V.str)) l = some (.lst (xs.map V.str)) := by rw [upd_ne (ne_of_none h6 np)]; exact h6
        generalize upd H6 p (.lst (keptS.map V.str)) = H7 at D7 k7 h7 ⊢
        refine ⟨_, rfl, _, rfl, _, rfl, B, rfl, bsz, _, rfl, _, _, rfl, rfl, sz hP hS (by omega), (by show 2 ≤ sizeLine; decide), fun p2 np2 => ?_⟩
        have D8 := D7.new (o := .lst [V.str (Str.ofString ""), V.str (Str.ofString "q")]) np2
        have k8 := k7.trans (Keep.new (d := d) (c := c) (o := .lst [V.str (Str.ofString ""), V.str (Str.ofString "q")]) np2)
        have h8 : upd H7 p2 (.lst [V.str (Str.ofString ""), V.str (Str.ofString "q")]) l = some (.lst (xs.map V.str)) := by rw [upd_ne (ne_of_none h7 np2)]; exact h7
        refine ⟨_, rfl, _, _, rfl, rfl, (by show (0 : Int) < 2; decide), p2, _, _, .str x1, rfl, rfl, SqL.of upd_same, hat3, _, _, rfl, rfl, sz n1 hx1 (by omega), _, rfl, _, rfl, _, rfl, B, rfl, bsz, _, _, rfl, rfl, sz n2 hR (by omega), (by show 2 ≤ sizeLine; decide), fun p3 np3 => ?_⟩
        generalize upd H7 p2 (.lst [V.str (Str.ofString ""), V.str (Str.ofString "q")]) = H8 at D8 k8 h8 np3 ⊢
        have D9 := D8.new (o := .lst [V.str (Str.ofString ""), V.str (Str.ofString "w")]) np3
        have k9 := k8.trans (Keep.new (d := d) (c := c) (o := .lst [V.str (Str.ofString ""), V.str (Str.ofString "w")]) np3)
        have h9 : upd H8 p3 (.lst [V.str (Str.ofString ""), V.str (Str.ofString "w")]) l = some (.lst (xs.map V.str)) := by rw [upd_ne (ne_of_none h8 np3)]; exact h8
        refine ⟨_, rfl, _, _, rfl, rfl, ⟨by decide, by decide⟩, p3, _, _, .str x2, rfl, rfl, SqL.of upd_same, hat4, _, _, rfl, rfl, sz n3 hx2 (by omega), ?_⟩
        generalize upd H8 p3 (.lst [V.str (Str.ofString ""), V.str (Str.ofString "w")]) = H9 at D9 k9 h9 ⊢
        generalize hNm : (cutS B none (some (at' : Int)) ++ (⟨#[cc]⟩ : Str) ++ x1 ++ cutS B (some (at' : Int)) none ++ x2) = nm at n4
        refine ⟨_, rfl, .inl ⟨rfl, _, SqL.of h9⟩, _, rfl, _, rfl, _, rfl, _, _, rfl, rfl, sz hS hW (by omega), _, rfl, _, rfl, _, _, rfl, rfl, sz hW hS (by omega), _, rfl, _, rfl, _, _, rfl, rfl, sz hS hW (by omega), _, rfl, _, rfl, _, _, rfl, rfl, (by show (0 : Int) < 26; decide), lettersS, _, c5, rfl, rfl, lsz, hat5, _, _, rfl, rfl, sz w1 (LS.sign hc5) (by omega),
          (by show 4 ≤ sizeLine; decide), fun p4 np4 => ?_⟩
        obtain ⟨z, hat6, hz6⟩ := at_str (xs := [nm, (⟨#[cc]⟩ : Str) ++ wd, wd ++ (⟨#[cc]⟩ : Str), (⟨#[cc]⟩ : Str) ++ wd ++ (⟨#[c5]⟩ : Str)]) d0 (by exact d1)
        have hzl : LS 1 8 z := by
          simp only [List.mem_cons, List.not_mem_nil, or_false] at hz6
          rcases hz6 with rfl | rfl | rfl | rfl
          · exact n4.weak (by omega) (by omega)
          · exact w1.weak (by omega) (by omega)
          · exact w2.weak (by omega) (by omega)
          · exact w3.weak (by omega) (by omega)
        have h10 : ∀ o4, upd H9 p4 o4 l = some (.lst (xs.map V.str)) := fun o4 => by rw [upd_ne (ne_of_none h9 np4)]; exact h9
        refine ⟨_, rfl, p4, _, _, .str z, rfl, rfl, SqL.of upd_same, hat6, l, xs.map V.str, .str z, rfl, rfl, ?_, ?_, xs ++ [z], _, _, _, _, rfl, by simp [hl6], ?_, ?_, ?_, ?_⟩
        · exact h10 _
        · rw [List.length_map]; exact Nat.lt_of_lt_of_le (show xs.length < 1000 by omega) (by decide)
        · intro y hy
          rcases List.mem_append.mp hy with q | q
          · exact hx6 y q
          · rw [List.mem_singleton.mp q]; exact hzl
        · rw [upd_same]; simp
        · exact (D9.new np4).upd_other nl2.1 nl2.2
        · exact fun b o e g1 g2 => by rw [upd_ne (ne_of_none e hHl)]; exact (k9.trans (Keep.new np4)) b o e g1 g2
      · rintro σ H6 ⟨xs, v8, v9, v10, v11, rfl, hl6, hx6, h6, D6, k6⟩
        exact ⟨_, rfl, k l xs H6 hHl h6 hl6 hx6 D6 k6⟩
end
end Lw
namespace Lw
open PySem L2
noncomputable def spare1 : List Str := ["cell", "along", "lay", "judge", "late", "gates", "ways", "show"]
noncomputable def spare2 : List Str := ["andx", "orb", "oddly", "mosts", "nots", "ones", "nila", "inn", "outer", "aa", "ab", "ba"]
noncomputable def spare3 : List Str := ["abcdefgh", "abcdefgi", "zzzzzzzz", "names", "judged", "rowsofx"]
noncomputable def signsS (z : Str) : List Str := z.cps.toList.map fun c => (⟨#[c]⟩ : Str)
noncomputable def spareS : List Str := signsS lettersS ++ spare1 ++ spare2 ++ spare3
theorem spare_nodup : spareS.Nodup := by decide +kernel
theorem spare_len : spareS.length = 52 := by decide +kernel
theorem spare_good : ∀ x ∈ spareS, GoodName x := by
  have h : spareS.all (fun x => lsB 1 8 x && !keptS.contains x) = true := by decide +kernel
  intro x hx
  have := List.all_eq_true.mp h x hx
  rw [Bool.and_eq_true] at this
  refine ⟨LS.of this.1, fun m => ?_⟩
  have h2 := this.2
  rw [List.contains_iff_mem.mpr m] at h2
  cases h2
noncomputable def spNames : Sp := fun vs H Q _ => ∃ (d c : Addr) (m : Nat), vs = [.ref d, .int m] ∧ DeckAt H d c ∧ m ≤ 40 ∧ ∀ (l : Addr) (xs : List Str) (H' : Hp), H l = none → H' l = some (.lst (xs.map V.str)) → xs.length = m → xs.Nodup → (∀ x ∈ xs, GoodName x) →
  DeckAt H' d c → Keep d c H H' → Q (.ref l) H'
theorem pop_perm : ∀ {sp : List Str} {k : Nat} {y : Str}, sp[k]? = some y → (y :: sp.eraseIdx k).Perm sp
  | [], k, y, h => by simp at h
  | a :: r, 0, y, h => by
    simp at h
    subst h
    exact List.Perm.refl _
  | a :: r, k + 1, y, h => by
    have h' : r[k]? = some y := by simpa using h
    show (y :: a :: r.eraseIdx k).Perm (a :: r)
    exact (List.Perm.swap a y _).trans ((pop_perm h').cons a)
theorem erase_map {α β : Type} (f : α → β) : ∀ (l : List α) (k : Nat), (l.map f).eraseIdx k = (l.eraseIdx k).map f
  | [], _ => rfl
  | _ :: _, 0 => rfl
  | a :: r, k + 1 => by simp [erase_map f r k]
theorem inV_str (x : Str) (ys : List Str) : inV (.str x) (ys.map V.str) = decide (x ∈ ys) := by
  unfold inV
  induction ys with
  | nil => rfl
  | cons y r ih =>
    rw [List.map_cons, List.any_cons, ih]
    have : eqV (V.str y) (V.str x) = decide (y = x) := by
      simp only [eqV]
      exact Bool.beq_eq_decide_eq y x
    rw [this]
    by_cases h : x = y
    · subst h; simp
    · have h' : ¬ y = x := fun e => h e.symm
      simp [h, h']
theorem flat_strs (ys : List Str) : (ys.map V.str).all flatV = true := by
  rw [List.all_eq_true]
  intro v hv
  obtain ⟨y, _, rfl⟩ := List.mem_map.mp hv
  rfl
section
variable {P : Program} {w : World} {K : PySem.W.Frag} {mg : Str → Option Value} {base : Heap}
theorem scNames : FnScope ["deck", "many", "letters", "names", "spare"] ["deck", "many"] (defScope sNames) := ⟨rfl, rfl, rfl, by decide +kernel, rfl, by decide +kernel, by decide +kernel⟩
theorem nd1 (x : Str) : ([x] : List Str).Nodup := by simp
theorem ndSpare : (["k", "spare", "deck"] : List Str).Nodup := by decide +kernel
set_option maxHeartbeats 4000000 in
theorem ok_names {f fT fK fM : Addr} {fd fdT fdK fdM : FuncData} (F : Fun K "_law_names" "_law_names" sNames f fd) (T : Txt mg) (gT : Gd K mg "_law_take" sTake ["deck", "many"] fT fdT) (gK : Gd K mg "_law_kept" sKept [] fK fdK)
    (gM : Gd K mg "_law_made_names" sMade ["deck", "many"] fM fdM) : FnOk P w K mg base CX0 3 f fd ["deck", "many"] spNames := by
  have GT : FnOk P w K mg base CX0 1 fT fdT ["deck", "many"] spTake := ok_take gT.F T
  have GK : FnOk P w K mg base CX0 1 fK fdK [] spKept := ok_kept gK.F
  have GM : FnOk P w K mg base CX0 2 fM fdM ["deck", "many"] spMade := ok_made gM.F T gT gK
  refine F.ok scNames (fun vs H Q E h => ?_) (fun cdv A outer s H vs Q E hr h => ?_)
  · obtain ⟨d, c, m, rfl, _⟩ := h
    rfl
  · obtain ⟨d, c, m, rfl, D, hm, k⟩ := h
    have hr1 : Room 1 _ := hr.mono (by decide)
    have hu := hr.units
    refine ex_next _ (ps_set (i := 2) scNames.nd rfl (Or.inl rfl) pe_str) ?_
    refine ex_cut (fun σ H4 => ∃ v3, σ = [some (.ref d), some (.int m), some (.str lettersS), v3, none] ∧ DeckAt H4 d c ∧ Keep d c H H4) (fun u hu' => ?_) ?_
    · -- if _law_take(deck, 2) == 1
      refine ⟨_, ps_if (pt_cmpR op_eq (pe_call GT hr1 rfl gT.m gT.k gT.b .nil pass0 (pa_c (pv 0) (pa_c pe_int pa_nil))) pe_int (nomark _))
        (pss_cons (ps_set (i := 3) scNames.nd rfl (Or.inl rfl) (pe_call GM hr rfl gM.m gM.k gM.b .nil pass0 (pa_c (pv 0) (pa_c (pv 1) pa_nil))))
        (pss_one (ps_if (PW.pt (pw_and (pt_cmpR op_eq (pe_callB call_lenS (by rfl) T.len PySem.boot_len (pa_c (pe_callTy (call_setS rfl) (by rfl) T.set PyProof.Rows.boot_set (pa_c (pv 3) pa_nil)) pa_nil)) (pv 1) (nomark _))
          (pw_and1 (pt_cmpR (op_eqNil hu) (pe_lc ["name"] [] [] rfl (pi_list (pv 3)) rfl rfl (fun s₀ H₀ C cl fp => pg_name (i := 0) (nd1 _) rfl (Or.inl rfl))
            (fun s₀ H₀ C cl fp => pifs_one (pt_cmpR (r := rIn K false) op_in_seq (pv 0) (pe_call0 GK hr1 rfl gK.m gK.k gK.b .nil pass0) rfl)) (fun s₀ H₀ C cl fp => pv 0)) (pe_lst pa_nil) (nomark _)))))
          (pss_one (ps_ret (pv 3))) pss_nil))) pss_nil, ?_⟩
      refine ⟨_, rfl, d, c, 2, rfl, D, by decide, by decide, fun r1 H1 a0 a1 D1 k1 => ⟨rfl, _, rfl, ?_⟩⟩
      refine ite2 (fun _ => ?_) (fun _ => hu' _ _ ⟨none, rfl, D1, k1⟩)
      refine ⟨_, rfl, _, rfl, d, c, m, rfl, D1, hm, fun l xs H2 nl hl hlen hls D2 k2 => ?_⟩
      have kk : Keep d c H H2 := k1.trans k2
      have nl1 := D1.ned nl
      have hHl : H l = none := k1.free nl1.1 nl1.2 nl
      refine ⟨_, rfl, l, xs, rfl, SqL.of hl, by omega, fun p np => ?_⟩
      have k3 := kk.trans (Keep.new (d := d) (c := c) (o := SetN P w p (ddS xs).length) np)
      have D3 := D2.new (o := SetN P w p (ddS xs).length) np
      have hl3 : upd H2 p (SetN P w p (ddS xs).length) l = some (.lst (xs.map V.str)) := by rw [upd_ne (ne_of_none hl np)]; exact hl
      refine ⟨p, _, rfl, upd_same, _, rfl, rfl, _, rfl, ?_⟩
      refine ite2 (fun hdd => ?_) (fun _ => iteF (hu' _ _ ⟨_, rfl, D3, k3⟩))
      have hnd : xs.Nodup := by
        have := of_decide_eq_true hdd
        injection this with this
        exact ddS_nodup (by omega)
      refine ⟨_, rfl, l, rfl, ⟨_, SqL.of hl3⟩, fun D0 nD0 => ?_⟩
      have nd0 := D3.ned nD0
      have hHD : H D0 = none := k3.free nd0.1 nd0.2 nD0
      have lD : l ≠ D0 := ne_of_none hl3 nD0
      refine lc1 yields_list (fun i ys H4 => ∃ zs : List Str, ys = zs.map V.str ∧ zs.length ≤ i ∧ ((∃ x ∈ xs.take i, x ∈ keptS) → zs ≠ []) ∧ ((∀ x ∈ xs.take i, x ∉ keptS) → zs = []) ∧ DeckAt H4 d c ∧ Keep d c H H4 ∧ H4 D0 = some (.lst ys) ∧ H4 l = some (.lst (xs.map V.str)))
        ⟨[], rfl, Nat.le_refl _, (fun ⟨x, hx, _⟩ => by simp at hx), (fun _ => rfl), D3.new nD0, k3.trans (Keep.new nD0), upd_same, by rw [upd_ne lD]; exact hl3⟩ (fun i ys H4 _ ⟨_, _, _, _, _, _, _, _, h⟩ => SqL.of h) ?_ ?_
      · rintro i x ys H4 hx ⟨zs, rfl, hz1, hz2, hz3, D4, k4, hD4, hl4⟩
        obtain ⟨y, hy, rfl⟩ : ∃ y, xs[i]? = some y ∧ V.str y = x := by
          rw [List.getElem?_map] at hx
          cases e : xs[i]? with
          | none => rw [e] at hx; cases hx
          | some y => rw [e] at hx; exact ⟨y, rfl, Option.some.inj hx⟩
        have hi : i < xs.length := (List.getElem?_eq_some_iff.mp hy).1
        have et : xs.take (i + 1) = xs.take i ++ [y] := by rw [List.take_add_one, hy]; rfl
        refine ⟨_, rfl, rfl, fun q nq => ?_⟩
        have nq1 := D4.ned nq
        refine ⟨q, _, rfl, .inl (SqL.of upd_same), rfl, flat_strs _, _, rfl, ?_⟩
        have D5 := D4.new (o := .lst (keptS.map V.str)) nq
        have k5 := k4.trans (Keep.new (d := d) (c := c) (o := .lst (keptS.map V.str)) nq)
        have hD5 : upd H4 q (.lst (keptS.map V.str)) D0 = some (.lst (zs.map V.str)) := by rw [upd_ne (ne_of_none hD4 nq)]; exact hD4
        have hl5 : upd H4 q (.lst (keptS.map V.str)) l = some (.lst (xs.map V.str)) := by rw [upd_ne (ne_of_none hl4 nq)]; exact hl4
        rw [inV_str]
        refine ite2 (fun hk => ?_) (fun hk => ?_)
        · have hk' : y ∈ keptS := of_decide_eq_true hk
          refine ⟨_, rfl, ⟨_, rfl⟩, hD5, ?_, zs ++ [y], by simp, by simp; omega, fun _ => by simp, fun h => absurd hk' (h y (by rw [et]; simp)), D5.upd_other nd0.1 nd0.2, ?_, upd_same, ?_⟩
          · rw [List.length_map]; exact Nat.lt_of_lt_of_le (show zs.length < 1000 by omega) (by decide)
          · exact fun b o e g1 g2 => by rw [upd_ne (ne_of_none e hHD)]; exact k5 b o e g1 g2
          · rw [upd_ne lD]; exact hl5
        · have hk' : y ∉ keptS := fun z => hk (decide_eq_true z)
          refine ⟨⟨_, rfl⟩, zs, rfl, by omega, ?_, ?_, D5, k5, hD5, hl5⟩
          · rintro ⟨z, hz, hzk⟩
            rw [et] at hz
            rcases List.mem_append.mp hz with q' | q'
            · exact hz2 ⟨z, q', hzk⟩
            · rw [List.mem_singleton.mp q'] at hzk; exact absurd hzk hk'
          · exact fun h => hz3 fun z hz => h z (by rw [et]; exact List.mem_append_left _ hz)
      · rintro ys H4 ⟨zs, rfl, hz1, hz2, hz3, D4, k4, hD4, hl4⟩
        rw [List.length_map] at hz1 hz2 hz3
        rw [List.take_of_length_le (Nat.le_refl _)] at hz2 hz3
        refine ⟨(by show 0 ≤ sizeLine; decide), fun q nq => ?_⟩
        have D5 := D4.new (o := .lst []) nq
        have k5 := k4.trans (Keep.new (d := d) (c := c) (o := .lst []) nq)
        have hD5 : upd H4 q (.lst []) D0 = some (.lst (zs.map V.str)) := by rw [upd_ne (ne_of_none hD4 nq)]; exact hD4
        have hl5 : upd H4 q (.lst []) l = some (.lst (xs.map V.str)) := by rw [upd_ne (ne_of_none hl4 nq)]; exact hl4
        refine ⟨D0, q, _, rfl, rfl, SqL.of hD5, SqL.of upd_same, _, rfl, ?_⟩
        refine ite2 (fun he => ?_) (fun _ => hu' _ _ ⟨_, rfl, D5, k5⟩)
        have hz0 : zs = [] := by
          cases zs with
          | nil => rfl
          | cons a r => simp at he
        refine ⟨_, rfl, k l xs _ hHl hl5 hlen hnd (fun x hx => ⟨hls x hx, fun hk => hz2 ⟨x, hx, hk⟩ hz0⟩) D5 k5⟩
    · rintro σ H4 ⟨v3, rfl, D4, k4⟩
      refine ex_cut (fun σ H7 => ∃ p2, σ = [some (.ref d), some (.int m), some (.str lettersS), v3, some (.ref p2)] ∧ H7 p2 = some (.lst ((signsS lettersS ++ spare1).map V.str)) ∧ DeckAt H7 d c ∧ Keep d c H H7 ∧ H p2 = none) (fun u hu' => ?_) ?_
      · refine ⟨_, ps_set (i := 4) scNames.nd rfl (Or.inr rfl) (pe_op op_cat (pe_lc ["sign"] [] [] rfl (pi_str (pv 2)) rfl rfl (fun s₀ H₀ C cl fp => pg_name (i := 0) (nd1 _) rfl (Or.inl rfl)) (fun s₀ H₀ C cl fp => pifs_nil) (fun s₀ H₀ C cl fp => pv 0))
          (@pe_lst _ _ _ _ (@pa_strs _ [("cell", _, _), ("along", _, _), ("lay", _, _), ("judge", _, _), ("late", _, _), ("gates", _, _), ("ways", _, _), ("show", _, _)]))), ?_⟩
        refine ⟨_, rfl, lettersS, rfl, by decide +kernel, fun D0 nD0 => ?_⟩
        refine lcMap yields_str id nD0 (fun _ _ => True.intro) (by rw [show (signsV lettersS).length = 26 by decide +kernel]; decide) (fun i x H5 kk hx _ h => ⟨_, rfl, h⟩) ?_
        have e1 : (signsV lettersS).map id = (signsS lettersS).map V.str := by rw [List.map_id]; unfold signsV signsS; rw [List.map_map]; rfl
        rw [e1]
        refine ⟨(by show 8 ≤ sizeLine; decide), fun p1 n1 => ?_⟩
        have h0 : upd (upd H4 D0 (.lst ((signsS lettersS).map V.str))) p1 (.lst (spare1.map V.str)) D0 = some (.lst ((signsS lettersS).map V.str)) := by rw [upd_ne (ne_of_none upd_same n1)]; exact upd_same
        refine ⟨D0, p1, _, _, rfl, rfl, h0, upd_same, (by rw [List.length_map, show (signsS lettersS).length = 26 by decide +kernel]; show 26 + 8 ≤ sizeLine; decide), fun p2 n2 => ?_⟩
        have D7 := ((D4.new (o := .lst ((signsS lettersS).map V.str)) nD0).new (o := .lst (spare1.map V.str)) n1)
        have k7 := (k4.trans (Keep.new (d := d) (c := c) (o := .lst ((signsS lettersS).map V.str)) nD0)).trans (Keep.new (d := d) (c := c) (o := .lst (spare1.map V.str)) n1)
        have np2 := D7.ned n2
        refine hu' _ _ ⟨p2, rfl, ?_, D7.new n2, k7.trans (Keep.new n2), k7.free np2.1 np2.2 n2⟩
        rw [upd_same, List.map_append]
        rfl
      rintro σ H7 ⟨p2, rfl, h7, D7, k7, z7⟩
      refine ex_cut (fun σ H8 => ∃ p3, σ = [some (.ref d), some (.int m), some (.str lettersS), v3, some (.ref p3)] ∧ H8 p3 = some (.lst ((signsS lettersS ++ spare1 ++ spare2).map V.str)) ∧ DeckAt H8 d c ∧ Keep d c H H8 ∧ H p3 = none) (fun u hu' => ?_) ?_
      · refine ⟨_, ps_set (i := 4) scNames.nd rfl (Or.inr rfl) (pe_op op_cat (pv 4)
          (@pe_lst _ _ _ _ (@pa_strs _ [("andx", _, _), ("orb", _, _), ("oddly", _, _), ("mosts", _, _), ("nots", _, _), ("ones", _, _), ("nila", _, _), ("inn", _, _), ("outer", _, _), ("aa", _, _), ("ab", _, _), ("ba", _, _)]))), ?_⟩
        refine ⟨_, rfl, (by show 12 ≤ sizeLine; decide), fun p1 n1 => ?_⟩
        have h0 : upd H7 p1 (.lst (spare2.map V.str)) p2 = some (.lst ((signsS lettersS ++ spare1).map V.str)) := by rw [upd_ne (ne_of_none h7 n1)]; exact h7
        refine ⟨p2, p1, _, _, rfl, rfl, h0, upd_same, (by rw [List.length_map, show (signsS lettersS ++ spare1).length = 34 by decide +kernel]; show 34 + 12 ≤ sizeLine; decide), fun p3 n3 => ?_⟩
        have D8 := D7.new (o := .lst (spare2.map V.str)) n1
        have k8 := k7.trans (Keep.new (d := d) (c := c) (o := .lst (spare2.map V.str)) n1)
        have np3 := D8.ned n3
        refine hu' _ _ ⟨p3, rfl, ?_, D8.new n3, k8.trans (Keep.new n3), k8.free np3.1 np3.2 n3⟩
        rw [upd_same, List.map_append (l₁ := signsS lettersS ++ spare1)]
        rfl
      rintro σ H8 ⟨p3, rfl, h8, D8, k8, z8⟩
      refine ex_cut (fun σ H9 => ∃ p4, σ = [some (.ref d), some (.int m), some (.str lettersS), v3, some (.ref p4)] ∧ H9 p4 = some (.lst (spareS.map V.str)) ∧ DeckAt H9 d c ∧ Keep d c H H9 ∧ H p4 = none) (fun u hu' => ?_) ?_
      · refine ⟨_, ps_set (i := 4) scNames.nd rfl (Or.inr rfl) (pe_op op_cat (pv 4)
          (@pe_lst _ _ _ _ (@pa_strs _ [("abcdefgh", _, _), ("abcdefgi", _, _), ("zzzzzzzz", _, _), ("names", _, _), ("judged", _, _), ("rowsofx", _, _)]))), ?_⟩
        refine ⟨_, rfl, (by show 6 ≤ sizeLine; decide), fun p1 n1 => ?_⟩
        have h0 : upd H8 p1 (.lst (spare3.map V.str)) p3 = some (.lst ((signsS lettersS ++ spare1 ++ spare2).map V.str)) := by rw [upd_ne (ne_of_none h8 n1)]; exact h8
        refine ⟨p3, p1, _, _, rfl, rfl, h0, upd_same, (by rw [List.length_map, show (signsS lettersS ++ spare1 ++ spare2).length = 46 by decide +kernel]; show 46 + 6 ≤ sizeLine; decide), fun p4 n4 => ?_⟩
        have D9 := D8.new (o := .lst (spare3.map V.str)) n1
        have k9 := k8.trans (Keep.new (d := d) (c := c) (o := .lst (spare3.map V.str)) n1)
        have np4 := D9.ned n4
        refine hu' _ _ ⟨p4, rfl, ?_, D9.new n4, k9.trans (Keep.new n4), k9.free np4.1 np4.2 n4⟩
        unfold spareS
        rw [upd_same, List.map_append (l₁ := signsS lettersS ++ spare1 ++ spare2)]
        rfl
      rintro σ H9 ⟨p4, rfl, h9, D9, k9, z9⟩
      refine ⟨_, pss_one (ps_ret (pe_lc ["k"] ["spare", "deck"] [4, 0] rfl (pi_range1 rfl T.range (pa_c (pv 1) pa_nil)) rfl rfl (fun s₀ H₀ C cl fp => pg_name (i := 0) ndSpare rfl (Or.inl rfl)) (fun s₀ H₀ C cl fp => pifs_nil)
        (fun s₀ H₀ C cl fp => pe_bmK K PySem.F.plainAttrs_list PySem.F.slot_list_pop PySem.F.type_list_pop mt_popAt (pv 1) (pa_c (pe_call GT hr1 rfl gT.m gT.k gT.b .nil pass0 (pa_c (pv 2) (pa_c (pe_callB (call_lenK K) (by rfl) T.len PySem.boot_len (pa_c (pv 1) pa_nil)) pa_nil))) pa_nil)))), ?_⟩
      refine ⟨_, rfl, _, rfl, by omega, by omega, fun D0 nD0 => ?_⟩
      have nd0 := D9.ned nD0
      have hHD : H D0 = none := k9.free nd0.1 nd0.2 nD0
      have np4 : p4 ≠ d ∧ p4 ≠ c := D.ned z9
      have p4D : p4 ≠ D0 := ne_of_none h9 nD0
      refine lc1y yields_range (fun i ys H10 => ∃ zs sp : List Str, ys = zs.map V.str ∧ zs.length = i ∧ sp.length + i = 52 ∧ (zs ++ sp).Nodup ∧ (∀ x ∈ zs ++ sp, GoodName x) ∧ H10 p4 = some (.lst (sp.map V.str)) ∧ DeckAt H10 d c ∧ Keep d c H H10 ∧ H10 D0 = some (.lst ys))
        ⟨[], spareS, rfl, rfl, spare_len, spare_nodup, spare_good, by rw [upd_ne p4D]; exact h9, D9.new nD0, k9.trans (Keep.new nD0), upd_same⟩ (fun _ _ _ _ _ => True.intro) ?_ ?_
      · rintro i x ys H10 hx ⟨zs, sp, rfl, hzl, hsl, hnd, hg, h10, D10, k10, hD10⟩
        have hi : i < 40 := by
          have := (List.getElem?_eq_some_iff.mp hx).1
          simp at this
          omega
        refine ⟨_, rfl, .inl ⟨rfl, _, SqL.of h10⟩, _, rfl, _, rfl, p4, _, rfl, .inl (SqL.of h10), d, c, _, rfl, D10, by rw [List.length_map]; omega, by rw [List.length_map]; omega, fun r H11 b0 b1 D11 k11 => ?_⟩
        rw [List.length_map] at b1
        obtain ⟨j, rfl⟩ := Int.eq_ofNat_of_zero_le b0
        have hj : j < sp.length := by omega
        have h11 := k11 p4 _ h10 np4.1 np4.2
        have hD11 := k11 D0 _ hD10 nd0.1 nd0.2
        have hy : sp[j]? = some sp[j] := List.getElem?_eq_getElem hj
        have pm := pop_perm hy
        have pm2 : ((zs ++ [sp[j]]) ++ sp.eraseIdx j).Perm (zs ++ sp) := by
          rw [List.append_assoc]
          exact List.Perm.append_left zs pm
        have hel : (sp.eraseIdx j).length + 1 = sp.length := by
          rw [List.length_eraseIdx, if_pos hj]; omega
        refine ⟨p4, _, _, j, .str sp[j], rfl, rfl, h11, by omega, by omega, ?_, by simp [hj], ⟨_, rfl⟩, by rw [upd_ne p4D.symm]; exact hD11, ?_, zs ++ [sp[j]], sp.eraseIdx j, by simp, by simp [hzl], by omega, pm2.symm.nodup hnd, fun x hx => hg x (pm2.mem_iff.mp hx), ?_, ?_, ?_, upd_same⟩
        · rw [List.length_map]; exact PySem.StrLaws.seqIndex_nonneg (by omega) (by omega)
        · rw [List.length_map]; exact Nat.lt_of_lt_of_le (show zs.length < 1000 by omega) (by decide)
        · rw [upd_ne p4D, upd_same, erase_map]
        · exact (D11.upd_other np4.1 np4.2).upd_other nd0.1 nd0.2
        · exact fun b o e g1 g2 => by rw [upd_ne (ne_of_none e hHD), upd_ne (ne_of_none e z9)]; exact k11 b o (k10 b o e g1 g2) g1 g2
      · rintro ys H10 ⟨zs, sp, rfl, hzl, hsl, hnd, hg, h10, D10, k10, hD10⟩
        rw [List.length_map, List.length_range] at hzl
        exact k D0 zs H10 hHD hD10 (by omega) (List.Nodup.sublist (List.sublist_append_left zs sp) hnd) (fun x hx => hg x (List.mem_append_left _ hx)) D10 k10
end
end Lw
namespace Lw
open PySem L2
noncomputable def two3 : List Str := ["and", "or", "odd"]
structure ArOk (w : Str) (n : Nat) : Prop where
  ok : (w ∈ two3 ∧ (n = 2 ∨ n = 3)) ∨ (w = "most" ∧ n = 3) ∨ (w = "not" ∧ n = 1) ∨ (w = "one" ∧ n = 0) ∨ (w = "nil" ∧ n = 0)
noncomputable def words10 : List Str := ["and", "or", "odd", "most", "not", "one", "nil", "and", "odd", "most"]
noncomputable def words4 : List Str := ["most", "not", "one", "nil"]
noncomputable def nums4 : List Int := [3, 1, 0, 0]
theorem words_cases {w : Str} (h : w ∈ words10) (h2 : w ∉ two3) : w = "most" ∨ w = "not" ∨ w = "one" ∨ w = "nil" := by
  unfold words10 at h
  unfold two3 at h2
  simp only [List.mem_cons, List.not_mem_nil, or_false, not_or] at h h2
  obtain ⟨g1, g2, g3⟩ := h2
  rcases h with q | q | q | q | q | q | q | q | q | q
  · exact absurd q g1
  · exact absurd q g2
  · exact absurd q g3
  · exact .inl q
  · exact .inr (.inl q)
  · exact .inr (.inr (.inl q))
  · exact .inr (.inr (.inr q))
  · exact absurd q g1
  · exact absurd q g3
  · exact .inl q
theorem idx4 {w : Str} (h : w = "most" ∨ w = "not" ∨ w = "one" ∨ w = "nil") : ∃ (j : Nat) (n : Nat), j < 4 ∧ (∀ z, (words4.map V.str)[j]? = some z → eqV z (.str w) = true) ∧ (∀ (m : Nat) z, m < j → (words4.map V.str)[m]? = some z → eqV z (.str w) = false) ∧
    atI (nums4.map V.int) (j : Int) = some (.int n) ∧ ArOk w n := by
  have go : ∀ (j : Nat) (n : Nat), j < 4 → words4[j]? = some w → atI (nums4.map V.int) (j : Int) = some (.int n) → (∀ m, m < j → ∀ y, words4[m]? = some y → ¬ y = w) → ArOk w n → ∃ (j : Nat) (n : Nat), j < 4 ∧ (∀ z, (words4.map V.str)[j]? = some z → eqV z (.str w) = true) ∧ (∀ (m : Nat) z, m < j → (words4.map V.str)[m]? = some z → eqV z (.str w) = false) ∧
      atI (nums4.map V.int) (j : Int) = some (.int n) ∧ ArOk w n := by
    intro j n hj hw ha hn ho
    refine ⟨j, n, hj, fun z hz => ?_, fun m z hm hz => ?_, ha, ho⟩
    · rw [List.getElem?_map, hw] at hz
      cases hz
      show (w == w) = true
      exact beq_self_eq_true w
    · rw [List.getElem?_map] at hz
      cases e : words4[m]? with
      | none => rw [e] at hz; cases hz
      | some y =>
        rw [e] at hz
        cases hz
        show (y == w) = false
        exact beq_eq_false_iff_ne.mpr (hn m hm y e)
  have bd : ∀ {a b : Nat}, a < b → b ≤ 4 → a = 0 ∨ a = 1 ∨ a = 2 ∨ a = 3 := fun h1 h2 => by omega
  rcases h with rfl | rfl | rfl | rfl
  · exact go 0 3 (by decide) rfl rfl (fun m hm => absurd hm (Nat.not_lt_zero _)) ⟨.inr (.inl ⟨rfl, rfl⟩)⟩
  · refine go 1 1 (by decide) rfl rfl (fun m hm y hy => ?_) ⟨.inr (.inr (.inl ⟨rfl, rfl⟩))⟩
    obtain rfl : m = 0 := by omega
    cases hy; decide +kernel
  · refine go 2 0 (by decide) rfl rfl (fun m hm y hy => ?_) ⟨.inr (.inr (.inr (.inl ⟨rfl, rfl⟩)))⟩
    rcases (show m = 0 ∨ m = 1 by omega) with rfl | rfl <;> (cases hy; decide +kernel)
  · refine go 3 0 (by decide) rfl rfl (fun m hm y hy => ?_) ⟨.inr (.inr (.inr (.inr ⟨rfl, rfl⟩)))⟩
    rcases (show m = 0 ∨ m = 1 ∨ m = 2 by omega) with rfl | rfl | rfl <;> (cases hy; decide +kernel)
noncomputable def spGate : Sp := fun vs H Q _ => ∃ (d c kn : Addr) (ks : List Str), vs = [.ref d, .ref kn] ∧ DeckAt H d c ∧ H kn = some (.lst (ks.map V.str)) ∧ kn ≠ d ∧ kn ≠ c ∧ ks.length ≤ 100 ∧
  ∀ (t q : Addr) (wd : Str) (ps : List Str) (H' : Hp), H t = none → H q = none → H' t = some (.tup [.str wd, .ref q]) → H' q = some (.tup (ps.map V.str)) → ArOk wd ps.length → (∀ p ∈ ps, p ∈ ks) → DeckAt H' d c → Keep d c H H' → Q (.ref t) H'
section
variable {P : Program} {w : World} {K : PySem.W.Frag} {mg : Str → Option Value} {base : Heap}
theorem scGate : FnScope ["deck", "known", "word", "many", "parts", "k", "at"] ["deck", "known"] (defScope sGate) := ⟨rfl, rfl, rfl, by decide +kernel, rfl, by decide +kernel, by decide +kernel⟩
set_option maxHeartbeats 4000000 in
theorem ok_gate {f fT : Addr} {fd fdT : FuncData} (F : Fun K "_law_gate" "_law_gate" sGate f fd) (T : Txt mg) (gT : Gd K mg "_law_take" sTake ["deck", "many"] fT fdT) : FnOk P w K mg base CX0 2 f fd ["deck", "known"] spGate := by
  have GT : FnOk P w K mg base CX0 1 fT fdT ["deck", "many"] spTake := ok_take gT.F T
  refine F.ok scGate (fun vs H Q E h => ?_) (fun cdv A outer s H vs Q E hr h => ?_)
  · obtain ⟨d, c, kn, ks, rfl, _⟩ := h
    rfl
  · obtain ⟨d, c, kn, ks, rfl, D, hkn, knd, knc, hks, k⟩ := h
    have hu := hr.units
    refine ex_cut (fun σ H1 => ∃ wd, σ = [some (.ref d), some (.ref kn), some (.str wd), none, none, none, none] ∧ wd ∈ words10 ∧ DeckAt H1 d c ∧ Keep d c H H1) (fun u hu' => ?_) ?_
    · refine ⟨_, @ps_set _ _ 2 _ _ _ _ scGate.nd rfl (Or.inl rfl) (@pe_ix _ _ _ _ _ _ _ ix_list (@pe_lst _ _ _ _ (@pa_strs _ [("and", _, _), ("or", _, _), ("odd", _, _), ("most", _, _), ("not", _, _), ("one", _, _), ("nil", _, _), ("and", _, _), ("odd", _, _), ("most", _, _)]))
        (pe_call GT hr rfl gT.m gT.k gT.b .nil pass0 (pa_c (pv 0) (pa_c pe_int pa_nil))) (fun _ _ => rfl)) (by rfl) (.inl rfl), ?_⟩
      refine ⟨(by show 10 ≤ sizeLine; decide), fun p np => ⟨_, rfl, d, c, 10, rfl, D.new np, by decide, by decide, fun r H1 a0 a1 D1 k1 => ?_⟩⟩
      have np1 := D.ned np
      have h1 := k1 p _ upd_same np1.1 np1.2
      obtain ⟨wd, hat, hw⟩ := at_str (xs := words10) a0 (by exact a1)
      exact ⟨p, _, _, .str wd, rfl, rfl, SqL.of h1, hat, hu' _ _ ⟨wd, rfl, hw, D1, (Keep.new np).trans k1⟩⟩
    rintro σ H1 ⟨wd, rfl, hw, D1, k1⟩
    refine ex_cut (fun σ H2 => ∃ n : Int, σ = [some (.ref d), some (.ref kn), some (.str wd), some (.int n), none, none, none] ∧ DeckAt H2 d c ∧ Keep d c H H2) (fun u hu' => ?_) ?_
    · refine ⟨_, @ps_set _ _ 3 _ _ _ _ scGate.nd rfl (Or.inl rfl) (@pe_ix _ _ _ _ _ _ _ ix_list (@pe_lst _ _ _ _ (@pa_ints _ [(2, _, _), (2, _, _), (2, _, _), (3, _, _), (1, _, _), (0, _, _), (0, _, _), (3, _, _), (3, _, _), (3, _, _)]))
        (pe_call GT hr rfl gT.m gT.k gT.b .nil pass0 (pa_c (pv 0) (pa_c pe_int pa_nil))) (fun _ _ => rfl)) (by rfl) (.inl rfl), ?_⟩
      refine ⟨(by show 10 ≤ sizeLine; decide), fun p np => ⟨_, rfl, d, c, 10, rfl, D1.new np, by decide, by decide, fun r H2 a0 a1 D2 k2 => ?_⟩⟩
      have np1 := D1.ned np
      have h2 := k2 p _ upd_same np1.1 np1.2
      obtain ⟨j, rfl⟩ := Int.eq_ofNat_of_zero_le a0
      have hj : j < ([2, 2, 2, 3, 1, 0, 0, 3, 3, 3] : List Int).length := by show j < 10; omega
      have hat : atI (([2, 2, 2, 3, 1, 0, 0, 3, 3, 3] : List Int).map V.int) ((j : Nat) : Int) = some (V.int ([2, 2, 2, 3, 1, 0, 0, 3, 3, 3] : List Int)[j]) := atI_nat (by rw [List.getElem?_map, List.getElem?_eq_getElem hj]; rfl)
      exact ⟨p, _, _, _, rfl, rfl, SqL.of h2, hat, hu' _ _ ⟨_, rfl, D2, k1.trans ((Keep.new np).trans k2)⟩⟩
    rintro σ H2 ⟨n0, rfl, D2, k2⟩
    refine ex_cut (fun σ H3 => ∃ n : Nat, σ = [some (.ref d), some (.ref kn), some (.str wd), some (.int n), none, none, none] ∧ ArOk wd n ∧ n ≤ 3 ∧ DeckAt H3 d c ∧ Keep d c H H3) (fun u hu' => ?_) ?_
    · refine ⟨_, ps_if (pt_cmpR op_in_seq (pv 2) (@pe_lst _ _ _ _ (@pa_strs _ [("and", _, _), ("or", _, _), ("odd", _, _)])) rfl)
        (pss_one (@ps_set _ _ 3 _ _ _ _ scGate.nd rfl (Or.inl rfl) (@pe_ix _ _ _ _ _ _ _ ix_list (@pe_lst _ _ _ _ (@pa_ints _ [(2, _, _), (3, _, _)])) (pe_op op_mod (pv 3) pe_int) (fun _ _ => rfl)) (by rfl) (.inl rfl)))
        (pss_one (@ps_set _ _ 3 _ _ _ _ scGate.nd rfl (Or.inl rfl) (@pe_ix _ _ _ _ _ _ _ ix_list (@pe_lst _ _ _ _ (@pa_ints _ [(3, _, _), (1, _, _), (0, _, _), (0, _, _)]))
          (pe_bm PySem.F.plainAttrs_list PySem.F.slot_list_index PySem.F.type_list_index mt_index (@pe_lst _ _ _ _ (@pa_strs _ [("most", _, _), ("not", _, _), ("one", _, _), ("nil", _, _)])) (pa_c (pv 2) pa_nil)) (fun _ _ => rfl)) (by rfl) (.inl rfl))), ?_⟩
      refine ⟨_, rfl, (by show 3 ≤ sizeLine; decide), fun p np => ⟨p, two3.map V.str, rfl, .inl (SqL.of upd_same), rfl, flat_strs _, _, rfl, ?_⟩⟩
      have D3 := D2.new (o := .lst (two3.map V.str)) np
      have k3 := k2.trans (Keep.new (d := d) (c := c) (o := .lst (two3.map V.str)) np)
      rw [inV_str]
      refine ite2 (fun hk => ?_) (fun hk => ?_)
      · have hk' : wd ∈ two3 := of_decide_eq_true hk
        refine ⟨(by show 2 ≤ sizeLine; decide), fun p2 np2 => ⟨_, rfl, _, _, rfl, rfl, (by show (0 : Int) < 2; decide), ?_⟩⟩
        have b0 := Int.emod_nonneg n0 (show (2 : Int) ≠ 0 by decide)
        have b1 := Int.emod_lt_of_pos n0 (show (0 : Int) < 2 by decide)
        have D4 := D3.new (o := .lst [V.int 2, V.int 3]) np2
        have k4 := k3.trans (Keep.new (d := d) (c := c) (o := .lst [V.int 2, V.int 3]) np2)
        rcases (show n0 % 2 = 0 ∨ n0 % 2 = 1 by omega) with e | e
        · exact ⟨p2, _, _, .int 2, rfl, rfl, SqL.of upd_same, by rw [e]; rfl, hu' _ _ ⟨2, rfl, ⟨.inl ⟨hk', .inl rfl⟩⟩, by decide, D4, k4⟩⟩
        · exact ⟨p2, _, _, .int 3, rfl, rfl, SqL.of upd_same, by rw [e]; rfl, hu' _ _ ⟨3, rfl, ⟨.inl ⟨hk', .inr rfl⟩⟩, by decide, D4, k4⟩⟩
      · have hk' : wd ∉ two3 := fun z => hk (decide_eq_true z)
        obtain ⟨j, n, hj, i1, i2, hat, ho⟩ := idx4 (words_cases hw hk')
        refine ⟨(by show 4 ≤ sizeLine; decide), fun p2 np2 => ⟨(by show 4 ≤ sizeLine; decide), fun p3 np3 => ⟨.inl ⟨rfl, _, SqL.of upd_same⟩, _, rfl, ?_⟩⟩⟩
        have D4 := (D3.new (o := .lst (nums4.map V.int)) np2).new (o := .lst (words4.map V.str)) np3
        have k4 := (k3.trans (Keep.new (d := d) (c := c) (o := .lst (nums4.map V.int)) np2)).trans (Keep.new (d := d) (c := c) (o := .lst (words4.map V.str)) np3)
        refine ⟨p3, words4.map V.str, .str wd, j, rfl, rfl, SqL.of upd_same, flat_strs _, rfl, hj, i1, i2, ?_⟩
        have h2 : upd (upd (upd H2 p (.lst (two3.map V.str))) p2 (.lst (nums4.map V.int))) p3 (.lst (words4.map V.str)) p2 = some (.lst (nums4.map V.int)) := by rw [upd_ne (ne_of_none upd_same np3)]; exact upd_same
        refine ⟨p2, nums4.map V.int, _, .int n, rfl, rfl, SqL.of h2, hat, hu' _ _ ⟨n, rfl, ho, ?_, D4, k4⟩⟩
        rcases ho.ok with ⟨_, q | q⟩ | ⟨_, q⟩ | ⟨_, q⟩ | ⟨_, q⟩ | ⟨_, q⟩ <;> omega
    rintro σ H3 ⟨n, rfl, ho, hn, D3, k3⟩
    have hkn3 := k3 kn _ hkn knd knc
    refine ex_cut (fun σ H4 => ∃ a : Nat, σ = [some (.ref d), some (.ref kn), some (.str wd), some (.int n), none, none, none] ∧ 0 < ks.length ∧ DeckAt H4 d c ∧ Keep d c H H4) (fun u hu' => ?_) ?_
    · refine ⟨_, ps_if (pt_cmpR (op_eqNil hu) (pv 1) (pe_lst pa_nil) (nomark _)) (pss_one (ps_ret (pe_tup (pa_c (pe_ix ix_list (pe_lst (pa_c pe_str (pa_c pe_str pa_nil))) (pe_op op_mod (pv 3) pe_int) (fun _ _ => rfl)) (pa_c (pe_tup pa_nil) pa_nil))))) pss_nil, ?_⟩
      refine ⟨_, rfl, (by show 0 ≤ sizeLine; decide), fun p np => ?_⟩
      have D4 := D3.new (o := .lst []) np
      have k4 := k3.trans (Keep.new (d := d) (c := c) (o := .lst []) np)
      have hkn4 : upd H3 p (.lst []) kn = some (.lst (ks.map V.str)) := by rw [upd_ne (ne_of_none hkn3 np)]; exact hkn3
      refine ⟨kn, p, _, rfl, rfl, SqL.of hkn4, SqL.of upd_same, _, rfl, ?_⟩
      refine ite2 (fun he => ?_) (fun he => hu' _ _ ⟨0, rfl, ?_, D4, k4⟩)
      · refine ⟨(by show 2 ≤ sizeLine; decide), fun p2 np2 => ⟨_, rfl, _, _, rfl, rfl, (by show (0 : Int) < 2; decide), ?_⟩⟩
        have b0 := Int.emod_nonneg (n : Int) (show (2 : Int) ≠ 0 by decide)
        have b1 := Int.emod_lt_of_pos (n : Int) (show (0 : Int) < 2 by decide)
        have D5 := D4.new (o := .lst [V.str (Str.ofString "one"), V.str (Str.ofString "nil")]) np2
        have k5 := k4.trans (Keep.new (d := d) (c := c) (o := .lst [V.str (Str.ofString "one"), V.str (Str.ofString "nil")]) np2)
        have fin : ∀ w2 : Str, ArOk w2 0 → ∀ q, upd (upd H3 p (.lst [])) p2 (.lst [V.str (Str.ofString "one"), V.str (Str.ofString "nil")]) q = none →
            ∀ t, upd (upd (upd H3 p (.lst [])) p2 (.lst [V.str (Str.ofString "one"), V.str (Str.ofString "nil")])) q (.tup []) t = none →
            Q (.ref t) (upd (upd (upd (upd H3 p (.lst [])) p2 (.lst [V.str (Str.ofString "one"), V.str (Str.ofString "nil")])) q (.tup [])) t (.tup [.str w2, .ref q])) := by
          intro w2 ho2 q nq t nt
          have D6 := D5.new (o := .tup []) nq
          have k6 := k5.trans (Keep.new (d := d) (c := c) (o := .tup []) nq)
          have nq1 := D5.ned nq
          have nt1 := D6.ned nt
          exact k t q w2 [] _ (k6.free nt1.1 nt1.2 nt) (k5.free nq1.1 nq1.2 nq) upd_same (by rw [upd_ne (ne_of_none upd_same nt)]; exact upd_same) ho2 (fun p hp => nomatch hp) (D6.new nt) (k6.trans (Keep.new nt))
        rcases (show (n : Int) % 2 = 0 ∨ (n : Int) % 2 = 1 by omega) with e | e
        · refine ⟨p2, _, _, .str "one", rfl, rfl, SqL.of upd_same, by rw [e]; rfl, (by show 0 ≤ sizeLine; decide), fun q nq => ⟨(by show 2 ≤ sizeLine; decide), fun t nt => ?_⟩⟩
          exact fin "one" ⟨.inr (.inr (.inr (.inl ⟨rfl, rfl⟩)))⟩ q nq t nt
        · refine ⟨p2, _, _, .str "nil", rfl, rfl, SqL.of upd_same, by rw [e]; rfl, (by show 0 ≤ sizeLine; decide), fun q nq => ⟨(by show 2 ≤ sizeLine; decide), fun t nt => ?_⟩⟩
          exact fin "nil" ⟨.inr (.inr (.inr (.inr ⟨rfl, rfl⟩)))⟩ q nq t nt
      · cases ks with
        | nil => simp at he
        | cons a r => simp
    rintro σ H4 ⟨_, rfl, hk0, D4, k4⟩
    refine ⟨_, pss_cons (ps_set (i := 4) scGate.nd rfl (Or.inl rfl) (pe_lst pa_nil))
      (pss_cons (ps_for PassesOwn.never rfl (pi_range1 rfl T.range (pa_c (pv 3) pa_nil)) (pg_name (i := 5) scGate.nd rfl (Or.inl rfl))
        (pss_cons (ps_set (i := 6) scGate.nd rfl (Or.inl rfl) (pe_ix ix_list (pe_lst (pa_c (pe_call GT hr rfl gT.m gT.k gT.b .nil pass0 (pa_c (pv 0) (pa_c (pe_callB call_len_seq (by rfl) T.len PySem.boot_len (pa_c (pv 1) pa_nil)) pa_nil)))
          (pa_c (pe_op op_sub (pe_op op_sub (pe_callB call_len_seq (by rfl) T.len PySem.boot_len (pa_c (pv 1) pa_nil)) pe_int) (pe_call GT hr rfl gT.m gT.k gT.b .nil pass0 (pa_c (pv 0) (pa_c (pe_callB (call_min2 rfl) (by rfl) T.min PyProof.Rows.boot_min (pa_c pe_int (pa_c (pe_callB call_len_seq (by rfl) T.len PySem.boot_len (pa_c (pv 1) pa_nil)) pa_nil))) pa_nil)))) pa_nil)))
          (pe_call GT hr rfl gT.m gT.k gT.b .nil pass0 (pa_c (pv 0) (pa_c pe_int pa_nil))) (fun _ _ => rfl)))
        (pss_one (ps_expr (pe_bm PySem.F.plainAttrs_list PySem.F.slot_list_append PySem.F.type_list_append mt_append (pv 4) (pa_c (pe_ix ix_list (pv 1) (pv 6) (fun _ _ => rfl)) pa_nil))))))
      (pss_one (ps_ret (pe_tup (pa_c (pv 2) (pa_c (pe_callTy call_tuple_of (by rfl) T.tuple PyProof.Rows.boot_tuple (pa_c (pv 4) pa_nil)) pa_nil)))))), ?_⟩
    refine ⟨(by show 0 ≤ sizeLine; decide), fun l nl => ?_⟩
    have nl1 := D4.ned nl
    have hHl : H l = none := k4.free nl1.1 nl1.2 nl
    have lk : l ≠ kn := (ne_of_none hkn hHl).symm
    refine ⟨_, rfl, _, rfl, by omega, by omega, ?_⟩
    rw [Int.toNat_natCast]
    refine for_range (lo := 0) (n := n) (fun i σ H5 => ∃ (ps : List Str) (v5 v6 : Option V), σ = [some (.ref d), some (.ref kn), some (.str wd), some (.int n), some (.ref l), v5, v6] ∧ ps.length = i ∧ (∀ p ∈ ps, p ∈ ks) ∧ H5 l = some (.lst (ps.map V.str)) ∧ DeckAt H5 d c ∧ Keep d c H H5)
      ⟨[], none, none, rfl, rfl, (fun p hp => nomatch hp), upd_same, D4.new nl, k4.trans (Keep.new nl)⟩ ?_ ?_
    · rintro i σ H5 hi ⟨ps, v5, v6, rfl, hl5, hp5, h5, D5, k5⟩
      have hkn5 := k5 kn _ hkn knd knc
      have hml : (if ((ks.map V.str).length : Int) < 4 then ((ks.map V.str).length : Int) else 4) = (if (ks.length : Int) < 4 then (ks.length : Int) else 4) := by rw [List.length_map]
      refine ⟨_, rfl, _, rfl, kn, _, rfl, .inl (SqL.of hkn5), d, c, _, rfl, D5, by rw [List.length_map]; omega, by rw [List.length_map]; omega, fun r1 H6 a0 a1 D6 k6 => ?_⟩
      have hkn6 := k6 kn _ hkn5 knd knc
      refine ⟨_, rfl, kn, _, rfl, .inl (SqL.of hkn6), _, _, rfl, rfl, _, rfl, _, rfl, kn, _, rfl, .inl (SqL.of hkn6), _, _, rfl, d, c, _, rfl, D6, ?_, ?_, fun r2 H7 b0 b1 D7 k7 => ?_⟩
      · rw [hml]; split <;> omega
      · rw [hml]; split <;> omega
      have b1' : r2 < ks.length := by
        rw [hml] at b1
        split at b1 <;> omega
      refine ⟨_, _, rfl, rfl, (by show 2 ≤ sizeLine; decide), fun p np => ?_⟩
      have D8 := D7.new (o := .lst [V.int r1, V.int (((ks.map V.str).length : Int) - 1 - r2)]) np
      refine ⟨_, rfl, d, c, 2, rfl, D8, by decide, by decide, fun r3 H9 c0 c1 D9 k9 => ?_⟩
      have np1 := D7.ned np
      have h9 := k9 p _ upd_same np1.1 np1.2
      have k8 : Keep d c H5 H9 := ((k6.trans k7).trans (Keep.new np)).trans k9
      have hkn9 := k8 kn _ hkn5 knd knc
      have nl2 : l ≠ d ∧ l ≠ c := nl1
      have hl9 := k8 l _ h5 nl2.1 nl2.2
      rw [List.length_map] at a1
      have fin : ∀ a : Int, 0 ≤ a → a < ks.length → ∃ x, atI (ks.map V.str) a = some (V.str x) ∧ x ∈ ks := fun a g0 g1 => at_str g0 g1
      have go : ∀ a : Int, 0 ≤ a → a < ks.length → atI [V.int r1, V.int (((ks.map V.str).length : Int) - 1 - r2)] r3 = some (V.int a) → rIxL K (.ref p) (.int r3) H9 fun x H1 => gName 6 x [some (.ref d), some (.ref kn), some (.str wd), some (.int n), some (.ref l), some (.int (0 + i)), v6] H1 fun σ' H' =>
          (tDrop (tBM K "list" rAppend (tVar 4) (tCons (tOp (rIxL K) (tVar 1) (tVar 6)) tNil))) { nx := fun σ H5 => ∃ (ps : List Str) (v5 v6 : Option V), σ = [some (.ref d), some (.ref kn), some (.str wd), some (.int n), some (.ref l), v5, v6] ∧ ps.length = i + 1 ∧ (∀ p ∈ ps, p ∈ ks) ∧ H5 l = some (.lst (ps.map V.str)) ∧ DeckAt H5 d c ∧ Keep d c H H5, rt := Q } σ' H' := by
        intro a g0 g1 hat
        obtain ⟨x, hx, hm⟩ := fin a g0 g1
        refine ⟨p, _, _, .int a, rfl, rfl, SqL.of h9, hat, _, rfl, .inl ⟨rfl, _, SqL.of hl9⟩, _, rfl, _, rfl, kn, _, _, .str x, rfl, rfl, SqL.of hkn9, hx, l, _, .str x, rfl, rfl, hl9, ?_, ps ++ [x], _, _, rfl, by simp [hl5], ?_, ?_, D9.upd_other nl2.1 nl2.2, ?_⟩
        · rw [List.length_map]; exact Nat.lt_of_lt_of_le (show ps.length < 1000 by omega) (by decide)
        · intro y hy
          rcases List.mem_append.mp hy with q | q
          · exact hp5 y q
          · rw [List.mem_singleton.mp q]; exact hm
        · rw [upd_same]; simp
        · exact fun b o e g1 g2 => by rw [upd_ne (ne_of_none e hHl)]; exact (k5.trans k8) b o e g1 g2
      rcases (show r3 = 0 ∨ r3 = 1 by omega) with e | e
      · exact go r1 a0 a1 (by rw [e]; rfl)
      · exact go (((ks.map V.str).length : Int) - 1 - r2) (by rw [List.length_map]; omega) (by rw [List.length_map]; omega) (by rw [e]; rfl)
    · rintro σ H5 ⟨ps, v5, v6, rfl, hl5, hp5, h5, D5, k5⟩
      refine ⟨_, rfl, _, rfl, l, _, rfl, .inl ⟨SqL.of h5, fun q nq => ⟨(by show 2 ≤ sizeLine; decide), fun t nt => ?_⟩⟩⟩
      have nq1 := D5.ned nq
      have D6 := D5.new (o := .tup (ps.map V.str)) nq
      have k6 := k5.trans (Keep.new (d := d) (c := c) (o := .tup (ps.map V.str)) nq)
      have nt1 := D6.ned nt
      exact k t q wd ps _ (k6.free nt1.1 nt1.2 nt) (k5.free nq1.1 nq1.2 nq) upd_same (by rw [upd_ne (ne_of_none upd_same nt)]; exact upd_same) (by rw [hl5]; exact ho) hp5 (D6.new nt) (k6.trans (Keep.new nt))
end
end Lw
namespace Lw
open PySem L2
structure Cel where
  ins : List Str
  gates : List (Str × Str × List Str)
  outs : List Str
noncomputable def Cel.names (C : Cel) : List Str := C.ins ++ C.gates.map (·.1)
noncomputable def GateAt (H : Hp) (a : Addr) (g : Str × Str × List Str) : Prop := ∃ q, H a = some (.tup [.str g.1, .str g.2.1, .ref q]) ∧ H q = some (.tup (g.2.2.map V.str))
noncomputable abbrev GatesAt (H : Hp) : List Addr → List (Str × Str × List Str) → Prop := Paired (GateAt H)
structure CellAt (H : Hp) (a : Addr) (C : Cel) : Prop where
  ex : ∃ (i g o : Addr) (as : List Addr), H a = some (.tup [.ref i, .ref g, .ref o]) ∧ H i = some (.tup (C.ins.map V.str)) ∧ H g = some (.tup (as.map V.ref)) ∧ H o = some (.tup (C.outs.map V.str)) ∧ GatesAt H as C.gates
noncomputable def Tups (H H' : Hp) : Prop := ∀ b xs, H b = some (.tup xs) → H' b = some (.tup xs)
theorem Tups.trans {H H1 H2 : Hp} (a : Tups H H1) (b : Tups H1 H2) : Tups H H2 := fun x xs e => b x xs (a x xs e)
theorem Tups.of_keep {d c : Addr} {H H' : Hp} (D : DeckAt H d c) (k : Keep d c H H') : Tups H H' := fun b xs e => by
  have := D.ne_some e (fun ys z => nomatch z)
  exact k b _ e this.1 this.2
theorem Tups.of_same {H H' : Hp} (s : Same H H') : Tups H H' := fun b xs e => s b _ e
theorem Tups.new {H : Hp} {p : Addr} {o : HO} (h : H p = none) : Tups H (upd H p o) := fun b xs e => by rw [upd_ne (ne_of_none e h)]; exact e
theorem Tups.lst {H : Hp} {p : Addr} {o : HO} {ys : List V} (h : H p = some (.lst ys)) : Tups H (upd H p o) := fun b xs e => by rw [upd_ne (ne_of e h (fun z => nomatch z))]; exact e
theorem GatesAt.mono {H H' : Hp} (t : Tups H H') : ∀ {as : List Addr} {gs : List (Str × Str × List Str)}, GatesAt H as gs → GatesAt H' as gs
  | _, _, .nil => .nil
  | _, _, .cons ⟨q, h1, h2⟩ r => .cons ⟨q, t _ _ h1, t _ _ h2⟩ (GatesAt.mono t r)
theorem CellAt.mono {H H' : Hp} {a : Addr} {C : Cel} (t : Tups H H') (h : CellAt H a C) : CellAt H' a C := by
  obtain ⟨i, g, o, as, h1, h2, h3, h4, h5⟩ := h.ex
  exact ⟨i, g, o, as, t _ _ h1, t _ _ h2, t _ _ h3, t _ _ h4, h5.mono t⟩
noncomputable def GatesOk : List Str → List (Str × Str × List Str) → Prop
  | _, [] => True
  | kn, g :: r => ArOk g.2.1 g.2.2.length ∧ (∀ p ∈ g.2.2, p ∈ kn) ∧ GatesOk (kn ++ [g.1]) r
theorem GatesOk.snoc : ∀ {gs : List (Str × Str × List Str)} {kn : List Str} {g : Str × Str × List Str}, GatesOk kn gs → ArOk g.2.1 g.2.2.length → (∀ p ∈ g.2.2, p ∈ kn ++ gs.map (·.1)) → GatesOk kn (gs ++ [g])
  | [], kn, g, _, h1, h2 => ⟨h1, by simpa using h2, True.intro⟩
  | a :: r, kn, g, h, h1, h2 => ⟨h.1, h.2.1, GatesOk.snoc h.2.2 h1 (by simpa using h2)⟩
structure Good (C : Cel) : Prop where
  nd : C.names.Nodup
  nm : ∀ x ∈ C.names, GoodName x
  gt : GatesOk C.ins C.gates
  os : ∀ o ∈ C.outs, o ∈ C.names
  ond : C.outs.Nodup
  li : C.ins.length ≤ 6
  lg : C.gates.length ≤ 24
  lo : C.outs.length ≤ 6
theorem paired_snoc {α β : Type} {F : α → β → Prop} : ∀ {l₁ : List α} {l₂ : List β} {a : α} {b : β}, Paired F l₁ l₂ → F a b → Paired F (l₁ ++ [a]) (l₂ ++ [b])
  | _, _, _, _, .nil, h => .cons h .nil
  | _, _, _, _, .cons x r, h => .cons x (paired_snoc r h)
end Lw
namespace Lw
open PySem L2
theorem cut_take (xs : List Str) (m : Nat) : cutV (xs.map V.str) none (some (m : Int)) = (xs.take m).map V.str := by
  unfold cutV
  rw [HT.sIx_none, HT.sIx_nat, List.length_map, List.drop_zero, Nat.sub_zero, List.map_take]
  by_cases h : m ≤ xs.length
  · rw [Nat.min_eq_left h]
  · rw [Nat.min_eq_right (by omega), List.take_of_length_le (by simp), List.take_of_length_le (by simp; omega)]
theorem cut_drop (xs : List Str) (m : Nat) : cutV (xs.map V.str) (some (m : Int)) none = (xs.drop m).map V.str := by
  unfold cutV
  rw [HT.sIx_none, HT.sIx_nat, List.length_map, List.map_drop]
  by_cases h : m ≤ xs.length
  · rw [Nat.min_eq_left h, List.take_of_length_le (by simp)]
  · rw [Nat.min_eq_right (by omega)]
    rw [List.drop_of_length_le (by simp), List.drop_of_length_le (by simp; omega)]
    simp
section
variable {P : Program} {w : World} {K : PySem.W.Frag} {mg : Str → Option Value} {base : Heap}
theorem scCell : FnScope ["deck", "inputs", "gates", "many", "count", "names", "known", "rows", "name", "left", "outputs", "k"] ["deck", "inputs", "gates"] (defScope sCell) := ⟨rfl, rfl, rfl, by decide +kernel, rfl, by decide +kernel, by decide +kernel⟩
end
end Lw
namespace Lw
open PySem L2
noncomputable def gateVal (w : Str) (bs : List Int) : Int :=
  if w = "and" then (if bs.sum = bs.length then 1 else 0)
  else if w = "or" then (if bs.sum > 0 then 1 else 0)
  else if w = "odd" then bs.sum % 2
  else if w = "most" then (if bs.sum ≥ 2 then 1 else 0)
  else if w = "not" then (if bs.sum = 0 then 1 else 0)
  else if w = "one" then 1 else 0
noncomputable def Bit (i : Int) : Prop := i = 0 ∨ i = 1
theorem gateVal_bit (w : Str) (bs : List Int) : Bit (gateVal w bs) := by
  unfold gateVal Bit
  have := Int.emod_nonneg bs.sum (show (2 : Int) ≠ 0 by decide)
  have := Int.emod_lt_of_pos bs.sum (show (0 : Int) < 2 by decide)
  repeat' split
  all_goals omega
theorem bits_sum : ∀ {bs : List Int}, (∀ b ∈ bs, Bit b) → 0 ≤ bs.sum ∧ bs.sum ≤ bs.length
  | [], _ => by simp
  | b :: r, h => by
    have h1 := h b List.mem_cons_self
    have h2 := bits_sum fun x hx => h x (List.mem_cons_of_mem _ hx)
    simp only [List.sum_cons, List.length_cons]
    unfold Bit at h1
    omega
theorem bits_all1 : ∀ {bs : List Int}, (∀ b ∈ bs, b = 1) → bs.sum = bs.length
  | [], _ => by simp
  | b :: r, h => by
    have h1 := h b List.mem_cons_self
    have h2 := bits_all1 fun x hx => h x (List.mem_cons_of_mem _ hx)
    simp only [List.sum_cons, List.length_cons]
    omega
theorem bits_some0 : ∀ {bs : List Int}, (∀ b ∈ bs, Bit b) → (0 : Int) ∈ bs → bs.sum < bs.length
  | [], _, h => by simp at h
  | b :: r, h, hm => by
    have h1 := h b List.mem_cons_self
    have hr : ∀ x ∈ r, Bit x := fun x hx => h x (List.mem_cons_of_mem _ hx)
    have h2 := bits_sum hr
    simp only [List.sum_cons, List.length_cons]
    unfold Bit at h1
    rcases List.mem_cons.mp hm with e | e
    · omega
    · have := bits_some0 hr e
      omega
theorem bits_some1 : ∀ {bs : List Int}, (∀ b ∈ bs, Bit b) → (1 : Int) ∈ bs → 0 < bs.sum
  | [], _, h => by simp at h
  | b :: r, h, hm => by
    have h1 := h b List.mem_cons_self
    have hr : ∀ x ∈ r, Bit x := fun x hx => h x (List.mem_cons_of_mem _ hx)
    have h2 := bits_sum hr
    simp only [List.sum_cons]
    unfold Bit at h1
    rcases List.mem_cons.mp hm with e | e
    · omega
    · have := bits_some1 hr e
      omega
theorem bits_all0 : ∀ {bs : List Int}, (∀ b ∈ bs, b = 0) → bs.sum = 0
  | [], _ => by simp
  | b :: r, h => by
    have h1 := h b List.mem_cons_self
    have h2 := bits_all0 fun x hx => h x (List.mem_cons_of_mem _ hx)
    simp only [List.sum_cons]
    omega
theorem min_and {bs : List Int} {m : Int} (hb : ∀ b ∈ bs, Bit b) (h1 : m ∈ bs) (h2 : ∀ a ∈ bs, m ≤ a) : m = if bs.sum = bs.length then 1 else 0 := by
  rcases hb m h1 with e | e
  · subst e
    have := bits_some0 hb h1
    rw [if_neg (by omega)]
  · subst e
    have : ∀ b ∈ bs, b = 1 := fun b hm => by
      have := h2 b hm
      rcases hb b hm with q | q <;> omega
    rw [if_pos (bits_all1 this)]
theorem max_or {bs : List Int} {m : Int} (hb : ∀ b ∈ bs, Bit b) (h1 : m ∈ bs) (h2 : ∀ a ∈ bs, a ≤ m) : m = if bs.sum > 0 then 1 else 0 := by
  rcases hb m h1 with e | e
  · subst e
    have : ∀ b ∈ bs, b = 0 := fun b hm => by
      have := h2 b hm
      rcases hb b hm with q | q <;> omega
    have := bits_all0 this
    rw [if_neg (by omega)]
  · subst e
    have := bits_some1 hb h1
    rw [if_pos (by omega)]
noncomputable def evalG (ρ : Str → Int) : List (Str × Str × List Str) → Str → Int
  | [] => ρ
  | g :: r => evalG (fun x => if x = g.1 then gateVal g.2.1 (g.2.2.map ρ) else ρ x) r
noncomputable def stepG (ρ : Str → Int) (g : Str × Str × List Str) : Str → Int := fun x => if x = g.1 then gateVal g.2.1 (g.2.2.map ρ) else ρ x
theorem evalG_snoc : ∀ (gs : List (Str × Str × List Str)) (ρ : Str → Int) (g : Str × Str × List Str), evalG ρ (gs ++ [g]) = stepG (evalG ρ gs) g
  | [], ρ, g => rfl
  | a :: r, ρ, g => evalG_snoc r _ g
noncomputable def evalC (C : Cel) (ρ : Str → Int) : Str → Int := evalG ρ C.gates
noncomputable def Has (kvs : List (Key × V)) (xs : List Str) (ρ : Str → Int) : Prop := ∀ x ∈ xs, valV kvs (Sum.inr x) = some (.int (ρ x)) ∧ Bit (ρ x)
theorem Has.put {kvs : List (Key × V)} {xs : List Str} {ρ : Str → Int} (h : Has kvs xs ρ) {n : Str} {v : Int} (hv : Bit v) : Has (putK kvs (Sum.inr n) (.int v)) (xs ++ [n]) (fun x => if x = n then v else ρ x) := by
  intro x hx
  rw [valV_put]
  dsimp only
  by_cases e : x = n
  · subst e
    rw [if_pos rfl, if_pos rfl]
    exact ⟨rfl, hv⟩
  · rw [if_neg (fun z => e (Sum.inr.inj z)), if_neg e]
    rcases List.mem_append.mp hx with q | q
    · exact h x q
    · exact absurd (List.mem_singleton.mp q) e
theorem GatesOk.at {gs : List (Str × Str × List Str)} : ∀ {kn : List Str} {i : Nat} {g : Str × Str × List Str}, GatesOk kn gs → gs[i]? = some g → ArOk g.2.1 g.2.2.length ∧ ∀ p ∈ g.2.2, p ∈ kn ++ (gs.take i).map (·.1) := by
  induction gs with
  | nil => intro kn i g _ h; simp at h
  | cons a r ih =>
    intro kn i g h e
    cases i with
    | zero => simp at e; subst e; exact ⟨h.1, by simpa using h.2.1⟩
    | succ i =>
      have := ih (kn := kn ++ [a.1]) (i := i) (g := g) h.2.2 (by simpa using e)
      refine ⟨this.1, fun p hp => ?_⟩
      have q := this.2 p hp
      simpa using q
theorem paired_get {α β : Type} {F : α → β → Prop} : ∀ {l₁ : List α} {l₂ : List β} {i : Nat} {a : α}, Paired F l₁ l₂ → l₁[i]? = some a → ∃ b, l₂[i]? = some b ∧ F a b
  | _, _, _, _, .nil, h => by simp at h
  | _, _, 0, _, .cons x r, h => by simp at h; subst h; exact ⟨_, by simp, x⟩
  | _, _, i + 1, a, .cons x r, h => by
    obtain ⟨b, h1, h2⟩ := paired_get (i := i) r (by simpa using h)
    exact ⟨b, by simpa using h1, h2⟩
theorem paired_len {α β : Type} {F : α → β → Prop} : ∀ {l₁ : List α} {l₂ : List β}, Paired F l₁ l₂ → l₁.length = l₂.length
  | _, _, .nil => rfl
  | _, _, .cons _ r => by simp [paired_len r]
end Lw
namespace Lw
open PySem L2
noncomputable def spGB : Sp := fun vs H Q _ => ∃ (wd : Str) (l : Addr) (bs : List Int), vs = [.str wd, .ref l] ∧ H l = some (.lst (bs.map V.int)) ∧ (∀ b ∈ bs, Bit b) ∧ ArOk wd bs.length ∧ (∀ H', Same H H' → Q (.int (gateVal wd bs)) H')
theorem arPos {w : Str} {n : Nat} (h : ArOk w n) (h1 : w = "and" ∨ w = "or") : 2 ≤ n := by
  rcases h.ok with ⟨_, q | q⟩ | ⟨q, _⟩ | ⟨q, _⟩ | ⟨q, _⟩ | ⟨q, _⟩
  · omega
  · omega
  all_goals (rcases h1 with e | e <;> (rw [e] at q; exact absurd q (by decide +kernel)))
theorem arNot {n : Nat} (h : ArOk "not" n) : n = 1 := by
  rcases h.ok with ⟨q, _⟩ | ⟨q, _⟩ | ⟨_, q⟩ | ⟨q, _⟩ | ⟨q, _⟩
  · exact absurd q (by decide +kernel)
  · exact absurd q (by decide +kernel)
  · exact q
  · exact absurd q (by decide +kernel)
  · exact absurd q (by decide +kernel)
theorem vstr {x y : Str} {c : Bool} (h : decide (V.str x = V.str y) = c) : decide (x = y) = c := by
  rw [← h]
  by_cases e : x = y
  · subst e; simp
  · simp [e]
section
variable {P : Program} {w : World} {K : PySem.W.Frag} {mg : Str → Option Value} {base : Heap}
theorem scGB : FnScope ["word", "bits"] ["word", "bits"] (defScope sGateBit) := ⟨rfl, rfl, rfl, by decide +kernel, rfl, by decide +kernel, by decide +kernel⟩
set_option maxHeartbeats 4000000 in
theorem ok_gb {f : Addr} {fd : FuncData} (F : Fun K "gate_bit" "gate_bit" sGateBit f fd) (T : Txt mg) : FnOk P w K mg base CX0 1 f fd ["word", "bits"] spGB := by
  refine F.ok scGB (fun vs H Q E h => ?_) (fun cdv A outer s H vs Q E hr h => ?_)
  · obtain ⟨wd, l, bs, rfl, _⟩ := h
    rfl
  · obtain ⟨wd, l, bs, rfl, hl, hb, ho, k⟩ := h
    refine ⟨_, pss_cons (ps_if (pt_cmpR op_eq (pv 0) pe_str (nomark _)) (pss_one (ps_ret (pe_callB (call_minL rfl) (by rfl) T.min PyProof.Rows.boot_min (pa_c (pv 1) pa_nil)))) pss_nil)
      (pss_cons (ps_if (pt_cmpR op_eq (pv 0) pe_str (nomark _)) (pss_one (ps_ret (pe_callB (call_maxL rfl) (by rfl) T.max PyProof.Rows.boot_max (pa_c (pv 1) pa_nil)))) pss_nil)
      (pss_cons (ps_if (pt_cmpR op_eq (pv 0) pe_str (nomark _)) (pss_one (ps_ret (pe_op op_mod (pe_callB (call_sum rfl) (by rfl) T.sum PyProof.Rows.boot_sum (pa_c (pv 1) pa_nil)) pe_int))) pss_nil)
      (pss_cons (ps_if (pt_cmpR op_eq (pv 0) pe_str (nomark _)) (pss_one (ps_ret (pe_ifExp (pt_cmpR op_ge (pe_callB (call_sum rfl) (by rfl) T.sum PyProof.Rows.boot_sum (pa_c (pv 1) pa_nil)) pe_int (nomark _)) pe_int pe_int))) pss_nil)
      (pss_cons (ps_if (pt_cmpR op_eq (pv 0) pe_str (nomark _)) (pss_one (ps_ret (pe_op op_sub pe_int (pe_ix ix_list (pv 1) pe_int (fun _ _ => rfl))))) pss_nil)
      (pss_one (ps_ret (pe_ifExp (pt_cmpR op_eq (pv 0) pe_str (nomark _)) pe_int pe_int))))))), ?_⟩
    have k' : ∀ z, z = gateVal wd bs → Q (.int z) H := fun z e => by rw [e]; exact k H (Same.refl H)
    have gv : gateVal wd bs = gateVal wd bs := rfl
    refine ⟨_, rfl, rfl, _, rfl, ite2 (fun h1 => ?_) (fun h1 => ?_)⟩
    · have e1 : wd = "and" := of_decide_eq_true (vstr h1)
      refine ⟨_, rfl, l, bs, rfl, SqL.of hl, ?_, fun m hm ha => k' m ?_⟩
      · have := arPos ho (.inl e1)
        intro z; rw [z] at this; simp at this
      · rw [min_and hb hm ha]; unfold gateVal; rw [if_pos e1]
    have n1 : ¬ wd = "and" := fun e => h1 (by rw [e]; simp)
    refine ⟨_, rfl, rfl, _, rfl, ite2 (fun h1 => ?_) (fun h2 => ?_)⟩
    · have e1 : wd = "or" := of_decide_eq_true (vstr h1)
      refine ⟨_, rfl, l, bs, rfl, SqL.of hl, ?_, fun m hm ha => k' m ?_⟩
      · have := arPos ho (.inr e1)
        intro z; rw [z] at this; simp at this
      · rw [max_or hb hm ha]; unfold gateVal; rw [if_neg n1, if_pos e1]
    have n2 : ¬ wd = "or" := fun e => h2 (by rw [e]; simp)
    refine ⟨_, rfl, rfl, _, rfl, ite2 (fun h1 => ?_) (fun h3 => ?_)⟩
    · have e1 : wd = "odd" := of_decide_eq_true (vstr h1)
      refine ⟨_, rfl, l, bs, rfl, SqL.of hl, _, _, rfl, rfl, (by show (0 : Int) < 2; decide), k' _ ?_⟩
      unfold gateVal; rw [if_neg n1, if_neg n2, if_pos e1]
    have n3 : ¬ wd = "odd" := fun e => h3 (by rw [e]; simp)
    refine ⟨_, rfl, rfl, _, rfl, ite2 (fun h1 => ?_) (fun h4 => ?_)⟩
    · have e1 : wd = "most" := of_decide_eq_true (vstr h1)
      refine ⟨_, rfl, l, bs, rfl, SqL.of hl, _, _, rfl, rfl, _, rfl, ite2 (fun h5 => k' _ ?_) (fun h5 => k' _ ?_)⟩
      · have := of_decide_eq_true h5
        unfold gateVal; rw [if_neg n1, if_neg n2, if_neg n3, if_pos e1, if_pos (by omega)]
      · have : ¬ (2 : Int) ≤ bs.sum := fun z => h5 (decide_eq_true z)
        unfold gateVal; rw [if_neg n1, if_neg n2, if_neg n3, if_pos e1, if_neg (by omega)]
    have n4 : ¬ wd = "most" := fun e => h4 (by rw [e]; simp)
    refine ⟨_, rfl, rfl, _, rfl, ite2 (fun h1 => ?_) (fun h5 => ?_)⟩
    · have e1 : wd = "not" := of_decide_eq_true (vstr h1)
      subst e1
      have hl1 := arNot ho
      match bs, hl1, hb, hl, k' with
      | [b], _, hb, hl, k' =>
        refine ⟨_, rfl, l, _, _, .int b, rfl, rfl, SqL.of hl, rfl, _, _, rfl, rfl, k' _ ?_⟩
        have hb1 := hb b List.mem_cons_self
        unfold gateVal
        rw [if_neg n1, if_neg n2, if_neg n3, if_neg n4, if_pos rfl]
        simp only [List.sum_cons, List.sum_nil]
        rcases hb1 with rfl | rfl <;> decide
    have n5 : ¬ wd = "not" := fun e => h5 (by rw [e]; simp)
    refine ⟨_, rfl, rfl, _, rfl, ite2 (fun h1 => k' _ ?_) (fun h6 => k' _ ?_)⟩
    · have e1 : wd = "one" := of_decide_eq_true (vstr h1)
      unfold gateVal; rw [if_neg n1, if_neg n2, if_neg n3, if_neg n4, if_neg n5, if_pos e1]
    · have n6 : ¬ wd = "one" := fun e => h6 (by rw [e]; simp)
      unfold gateVal; rw [if_neg n1, if_neg n2, if_neg n3, if_neg n4, if_neg n5, if_neg n6]
end
end Lw
namespace PySem
open PyProof.Rows L2
theorem entry_dict_update_loop : entryFor table "dict.update.loop" = some Builtin.«dict.update.loop» := entryFor_of_tree (by kernel_rfl)
theorem plain_dict_update_loop : plainId "dict.update.loop" = true := by decide +kernel
theorem no_keys : typeLookup (.type "list") "keys" = pure none := am_miss_of_fast (by decide +kernel)
section
variable {prog : Program} {w : World} {A : Around}
theorem own_lookup {E : Value → Shared → Prop} {s : Shared} {a : Addr} {its : Array Value} {n : Nat} {sl : Array (Option Value)} {u : Tok} {Q : Value → Shared → Prop}
    (l : s.heap.get? a = some { cls := .type "list", dict := none, data := .seq its n, slots := sl }) (calm : A.handled = none) (out : ∀ h' tk e, Heap.NewAttrErr s.heap h' e (.ref a) "keys" → E (.ref e) { s with heap := h', toks := tk }) :
    wpAny (model prog w) A (boundAndCalled (.builtin "list.__getattribute__") (.ref a) (.str "keys" u)) Q E s := by
  have ask : wpAny (model prog w) A (call (.builtin "list.__getattribute__") [.ref a, .str "keys" u]) Q E s :=
    call_meets F.slot_list_getattribute ⟨_, l, rfl⟩ am_entry_list_getattribute (F.args_list_getattribute_2 _ _) (meets_getattribute_miss_list a its n sl "keys" u no_keys (by decide +kernel)) ⟨l, calm, out⟩
  unfold boundAndCalled
  rw [F.slot_list_getattribute.bind (.ref a)]
  exact wpAny_bind (wpAny_pure ask)
theorem goes_on {E : Value → Shared → Prop} {s : Shared} {o name : Value} {e : Addr} {Q : Value → Shared → Prop} (t : s.TypeIs (.ref e) "AttributeError") (out : E (.ref e) s) :
    wpAny (model prog w) A (getattributeRaised o name (.type "list") (.ref e) none false false) Q E s := by
  have last : wpAny (model prog w) A (hookOrError o name (.ref e) false false none) Q E s := wpAny_bind (wpAny_throw out)
  have none' : hookBehind (.type "list") none = pure none := am_list_getattr_none
  unfold getattributeRaised
  refine wpAny_bind (wpAny_isInstance t sub_AttributeError ?_)
  rw [if_pos rfl, none']
  exact wpAny_bind (wpAny_pure last)
theorem keys_missed {E : Value → Shared → Prop} {s : Shared} {a : Addr} {its : Array Value} {n : Nat} {sl : Array (Option Value)} {Q : Option Value → Shared → Prop}
    (l : s.heap.get? a = some { cls := .type "list", dict := none, data := .seq its n, slots := sl }) (calm : A.handled = none) (out : ∀ h' tk e, Heap.NewExcOf s.heap h' e "AttributeError" → Q none { s with heap := h', toks := tk }) :
    wpAny (model prog w) A (getAttr? (.ref a) "keys") Q E s := by
  have ends : ∀ h' tk e, Heap.NewAttrErr s.heap h' e (.ref a) "keys" → (∃ o, h'.get? e = some o ∧ o.cls = .type "AttributeError") ∧ Q none { s with heap := h', toks := tk } := fun h' tk e x => by
    obtain ⟨_, _, y⟩ := x.there
    exact ⟨⟨_, y, rfl⟩, out h' tk e x.of⟩
  let s1 : Shared := { s with toks := s.toks + 1 }
  let got : Except Value Value → Shared → Prop := fun r s2 => wpAny (model prog w) A (match r with | .ok v => pure (some v) | .error e => do if ← isInstance e (.type "AttributeError") then pure none else throw e) Q E s2
  have look : wpAny (model prog w) A (getAttrBy (.ref a) (.str "keys" s.toks) false) (fun v => got (.ok v)) (fun e => got (.error e)) s1 := by
    refine wpAny_holding (wpAny_bind (wpAny_typeOf (T := "list") ⟨_, l, rfl⟩ (wpAny_bind (wpAny_of_eq F.slot_list_getattribute.lookup ?_))))
    have own : wpAny (model prog w) A (getAttrByItsOwn (.ref a) (.str "keys" s.toks) (.type "list") (.builtin "list.__getattribute__") false false) (fun v => got (.ok v)) (fun e => got (.error e)) s1 := by
      refine wpAny_bind (wpAny_pure (wpAny_bind (wpAny_attempt (wpAny_holding (own_lookup (s := s1) l calm fun h' tk e x => ?_)))))
      obtain ⟨⟨o, y1, y2⟩, q⟩ := ends h' tk e x
      exact goes_on ⟨o, y1, y2⟩ (wpAny_bind (wpAny_isInstance (T := "AttributeError") ⟨o, y1, y2⟩ sub_AttributeError (wpAny_pure q)))
    exact own
  exact wpAny_bind (wpAny_mkText (wpAny_bind (wpAny_attempt look)))
end
section
variable {prog : Program} {w : World} {K : Type} [DecidableEq K] {knd : KeyKind prog w K} {A : Around} {E : Value → Shared → Prop} {R : Result → Shared → Prop} {J : Addr} {fp wr : List Addr} {G : Array GenState → Array GenState → Prop} {n : Nat} {P : Nat → Value → Prop} {St : Nat → Shared → Prop}
theorem pairs_loop (W : WalksS prog w A.in1 J fp wr G n P St) (d : Addr) (hdf : d ∉ fp) (h0 : Heap) (more : List (K × Value)) (hn : more.length = n)
    (hT : ∀ i v, P i v → ∃ (t : Addr) (o : Obj) (m : Nat) (k : K) (kv x : Value), v = .ref t ∧ t ∉ d :: wr ∧ h0.get? t = some o ∧ o.cls = .type "tuple" ∧ o.data = .seq #[kv, x] m ∧ knd.is k kv = true ∧ more[i]? = some (k, x)) (hb : n ≤ sizeLine) :
    ∀ (k i : Nat) (s : Shared), n - i = k → i ≤ n → St i s → (∀ b o, b ∉ d :: wr → h0.get? b = some o → s.heap.get? b = some o) → s.heap.DictOf knd d (merged [] (more.take i)) →
      (∀ s', Moved (d :: wr) G s s' → s'.heap.DictOf knd d (merged [] more) → R (.ok (.ret .none)) s') →
      codeAny (model prog w) A (.builtin "dict.update.loop" ⟨[.ref d, .ref J, .int (i : Int) 0, .none], []⟩) R s := by
  have hdw : d ∉ wr := fun z => hdf (W.sub _ z)
  have hsub : ∀ b ∈ wr, b ∈ d :: wr := fun b z => List.mem_cons_of_mem _ z
  intro k
  induction k with
  | zero =>
    intro i s hk hi st hkeep hS hR
    have ei : i = n := by omega
    subst ei
    rw [List.take_of_length_le (by omega)] at hS
    refine codeAny_builtin entry_dict_update_loop ?_
    rw [Around.under_plainId plain_dict_update_loop _]
    show wpAny _ A.in1 (pyNext (.ref J) >>= _) _ _ s
    refine wpAny_bind (W.done s _ _ st fun s' mv => ?_)
    show wpAny _ A.in1 (Builtin.Dict.addKeywords d [] >>= _) _ _ s'
    refine wpAny_bind (wpAny_pure ?_)
    obtain ⟨o, es, ep, ho, rest⟩ := hS
    exact wpAny_pure (hR s' (mv.mono hsub) ⟨o, es, ep, mv.heap d _ hdw ho, rest⟩)
  | succ k ih =>
    intro i s hk hi st hkeep hS hR
    have hlt : i < n := by omega
    refine codeAny_builtin entry_dict_update_loop ?_
    rw [Around.under_plainId plain_dict_update_loop _]
    show wpAny _ A.in1 (pyNext (.ref J) >>= _) _ _ s
    refine wpAny_bind (W.item i s _ _ hlt st fun v s' hv st' mv => ?_)
    obtain ⟨t, o, m, ky, kv, x, rfl, ht, hto, htc, htd, hkey, hmore⟩ := hT i v hv
    have hS1 : s'.heap.DictOf knd d (merged [] (more.take i)) := by
      obtain ⟨o, es, ep, ho, rest⟩ := hS
      exact ⟨o, es, ep, mv.heap d _ hdw ho, rest⟩
    have hto' : s'.heap.get? t = some o := mv.heap t o (fun z => ht (hsub _ z)) (hkeep t o ht hto)
    show wpAny _ A.in1 (holding [Value.ref t] _ >>= _) _ _ s'
    refine wpAny_bind (wpAny_holding ?_)
    refine wpAny_bind (wpAny_tryCatch ?_)
    unfold Builtin.Dict.pairItems
    refine wpAny_bind (wpAny_typeOf (T := "tuple") ⟨o, hto', htc⟩ ?_)
    rw [if_pos (by decide)]
    refine wpAny_bind (wpAny_seqItems hto' htd ?_)
    refine wpAny_pure ?_
    show wpAny _ A.in1 (holding [kv, x] (dictSet d kv x)) _ _ s'
    refine wpAny_holding ?_
    have hroom : (merged [] (more.take i)).length ≤ sizeLine := by
      have e1 := merged_length_le ([] : List (K × Value)) (more.take i)
      rw [List.length_nil, List.length_take] at e1
      omega
    refine wpAny_dictSet_pairs (hsz := hroom) hkey hS1 fun h' hS2 sb => ?_
    rw [← merged_take_succ [] more i (ky, x) hmore] at hS2
    refine wpAny_pure ⟨plainId_quiet plain_dict_update_loop _, ?_⟩
    have e1 : (rawInt ((i : Int) + 1)) = Value.int ((i + 1 : Nat) : Int) 0 := by rfl
    rw [e1]
    refine ih (i + 1) _ (by omega) hlt (W.frame _ s' _ _ st' (Nat.le_succ _) fun b hb o e => ?_) (fun b o hb e => ?_) hS2 fun s'' mv'' hS'' => ?_
    · rw [sb.2 b (fun z : b = d => hdf (by rw [← z]; exact hb))]; exact e
    · rw [sb.2 b (fun z : b = d => hb (by rw [z]; exact List.mem_cons_self))]
      exact mv.heap b o (fun z => hb (hsub _ z)) (hkeep b o hb e)
    · refine hR s'' (Moved.trans W.gtrans ((mv.mono hsub).then_heap (Nat.le_succ _) fun b o hb e => ?_) mv'') hS''
      rw [sb.2 b (fun z : b = d => hb (by rw [z]; exact List.mem_cons_self))]; exact e
end
section
variable {prog : Program} {w : World} {K : Type} [DecidableEq K] {knd : KeyKind prog w K} {A : Around}
noncomputable abbrev listIt (l : Addr) : Obj := { cls := .type "list_iterator", data := .fields #[.ref l, .int 0 0] }
noncomputable abbrev plainList (its : Array Value) (n : Nat) (sl : Array (Option Value)) : Obj := { cls := .type "list", dict := none, data := .seq its n, slots := sl }
theorem init_on {E : Value → Shared → Prop} {s : Shared} {d l : Addr} {its : Array Value} {n : Nat} {sl : Array (Option Value)} {Q : Fin → Shared → Prop} (t : s.TypeIs (.ref d) "dict") (hl : s.heap.get? l = some (plainList its n sl)) (calm : A.handled = none)
    (on : ∀ h2 tk e, Heap.NewExcOf s.heap h2 e "AttributeError" → Q (.again (.builtin "dict.update.loop" ⟨[.ref d, .ref h2.objs.size, .int 0 0, .none], []⟩)) { s with heap := h2.push (listIt l), toks := tk }) :
    wpAny (model prog w) A (Builtin.«dict.__init__» ⟨[.ref d, .ref l], []⟩) Q E s := by
  have first : wpAny (model prog w) A (Builtin.Dict.selfAndRest "__init__" ⟨[.ref d, .ref l], []⟩) (fun p s1 => p = (d, [Value.ref l]) ∧ s1 = s) E s := wpAny_bind (wpAny_notOrdered_dict t (wpAny_pure ⟨rfl, rfl⟩))
  have pairs : wpAny (model prog w) A (Builtin.Dict.updateFrom "dict.__init__" d (.ref l) [] .none) Q E s := by
    refine wpAny_bind (wpAny_typeOf (T := "list") ⟨_, hl, rfl⟩ ?_)
    rw [if_pos (by decide)]
    refine wpAny_bind (keys_missed hl calm fun h2 tk e x => ?_)
    exact wpAny_bind (wpAny_rule (wpAny_bind (wpAny_pyIter_list ⟨_, x.keeps _ _ hl, rfl, n, rfl⟩ (wpAny_pure (on h2 tk e x)))))
  exact wpAny_bind (wpAny_mono first (fun p s1 q => by obtain ⟨rfl, rfl⟩ := q; exact pairs) fun _ _ q => q)
noncomputable def withDict (s : Shared) : Shared := { s with heap := s.heap.push { cls := .type "dict", data := .dict #[] } }
set_option maxHeartbeats 800000 in
theorem call_dict_pairs {E : Value → Shared → Prop} {s : Shared} {l : Addr} {o : Obj} {items : Array Value} {nl : Nat} {more : List (K × Value)} {Q : Value → Shared → Prop} (hh : A.handled = none) (hl : s.heap.get? l = some o) (hc : o.cls = .type "list") (hd : o.dict = none) (hda : o.data = .seq items nl)
    (hn : more.length = items.size)
    (hT : ∀ (i : Nat) v, items[i]? = some v → ∃ (t : Addr) (o : Obj) (m : Nat) (k : K) (kv x : Value), v = .ref t ∧ s.heap.get? t = some o ∧ o.cls = .type "tuple" ∧ o.data = .seq #[kv, x] m ∧ knd.is k kv = true ∧ more[i]? = some (k, x)) (hb : items.size ≤ sizeLine)
    (h : ∀ (h' : Heap) (tk : Nat), h'.DictOf knd s.heap.objs.size (merged [] more) → (∀ b o, s.heap.get? b = some o → h'.get? b = some o) → Q (.ref s.heap.objs.size) { s with heap := h', toks := tk }) :
    wpAny (model prog w) A (call (.type "dict") [.ref l]) Q E s := by
  obtain ⟨oc, od, oda, osl⟩ := o
  cases hc
  cases hd
  cases hda
  let D := s.heap.objs.size
  have made : (withDict s).heap.DictOf knd D [] := Heap.DictOf.new s.heap
  have old : ∀ b o, s.heap.get? b = some o → (withDict s).heap.get? b = some o := fun b o e => Heap.get?_push_of_some _ e
  refine callType_codes F.kt_called_dict (F.kt_typeCall_dict_1 _) F.entry_dict_init (kt_code_dict_new _ (Q₁ := fun v s1 => v = .ref D ∧ s1 = withDict s) ⟨rfl, rfl⟩) fun v s1 q => ?_
  obtain ⟨rfl, rfl⟩ := q
  refine ⟨made.typeIs, F.args_dict_init_2 _ _, init_on made.typeIs (old _ _ hl) (by simp [hh]) fun h2 tk e x => ⟨plainId_quiet plain_dict_update_loop _, ?_⟩⟩
  have at2 : h2.DictOf knd D [] := by
    obtain ⟨o, es, ep, p, r⟩ := made
    exact ⟨o, es, ep, x.keeps _ _ p, r⟩
  have ltD : D < h2.objs.size := by
    obtain ⟨o, es, ep, p, r⟩ := at2
    exact Heap.lt_size p
  have ltL : l < D := Heap.lt_size hl
  have keeps : ∀ b o, s.heap.get? b = some o → (h2.push (listIt l)).get? b = some o := fun b o e => Heap.get?_push_of_some _ (x.keeps _ _ (old b o e))
  have apart : ∀ {b : Addr}, b < D → b ∉ [D, h2.objs.size] := fun {b} hb' z => by
    rcases List.mem_cons.mp z with q | q
    · exact Nat.ne_of_lt hb' q
    · exact Nat.ne_of_lt (Nat.lt_trans hb' ltD) (List.mem_singleton.mp q)
  have notIn : D ∉ [h2.objs.size, l] := fun z => by
    rcases List.mem_cons.mp z with q | q
    · exact Nat.ne_of_lt ltD q
    · exact Nat.ne_of_gt ltL (List.mem_singleton.mp q)
  have list2 : (h2.push (listIt l)).IsList l items := ⟨_, keeps _ _ hl, rfl, nl, rfl⟩
  refine pairs_loop (knd := knd) ((Walks.list (by simp [hh]) h2.objs.size l (Nat.ne_of_lt (Nat.lt_trans ltL ltD)) items).toS) D notIn s.heap more hn (fun i v hv => ?_) hb items.size 0 _ (by omega) (Nat.zero_le _) ⟨⟨_, Heap.get?_push_size _ rfl, rfl, rfl⟩, list2⟩ (fun b o _ e => keeps b o e) ?_ fun s' mv fin => ?_
  · obtain ⟨t, ot, m, k, kv, y, rfl, ht, r⟩ := hT i v hv
    exact ⟨t, ot, m, k, kv, y, rfl, apart (Heap.lt_size ht), ht, r⟩
  · simpa [merged] using at2.push _
  · have res := h s'.heap s'.toks fin fun b o e => mv.heap b o (apart (Heap.lt_size e)) (keeps b o e)
    rw [show s' = { s with heap := s'.heap, toks := s'.toks } from same_but mv.gens mv.drawn mv.os]
    exact ⟨rfl, res⟩
end
end PySem
namespace L2
open PySem PySem.Spec PyProof.Rows
section
variable {X : Cx}
noncomputable def PairsAt (H : Hp) (ts : List Addr) (kvs : List (Key × V)) : Prop := Paired (fun t (kv : Key × V) => H t = some (.tup [kV kv.1, kv.2])) ts kvs
theorem pairs_more {P : Program} {w : World} {H : Hp} {h : Heap} (hok : HOk P w H h) : ∀ {ts : List Addr} {kvs : List (Key × V)}, PairsAt H ts kvs → ∃ more : List (Key × Value), KV kvs more ∧
    ∀ (i : Nat) t, ts[i]? = some t → ∃ (o : Obj) (m : Nat) (k : Key) (kv x : Value), h.get? t = some o ∧ o.cls = .type "tuple" ∧ o.data = .seq #[kv, x] m ∧ (mixKind P w).is k kv = true ∧ more[i]? = some (k, x) := by
  intro ts kvs r
  unfold PairsAt at r
  induction r with
  | nil => exact ⟨[], .nil, fun i t e => by simp at e⟩
  | @cons t kv ts kvs h1 h2 ih =>
    obtain ⟨more, rk, hm⟩ := ih
    obtain ⟨z, its, rv, ⟨o, ho, hc, n, hdt⟩, _⟩ := hok t _ h1
    cases rv with
    | @cons _ u1 _ us r1 rv =>
      cases rv with
      | @cons _ u2 _ us2 r2 rv =>
        cases rv
        refine ⟨(kv.1, u2) :: more, .cons ⟨rfl, r2⟩ rk, fun i t' e => ?_⟩
        cases i with
        | zero =>
          simp at e
          subst e
          exact ⟨o, n, kv.1, u1, u2, ho, hc, hdt, kV_is r1, rfl⟩
        | succ i => simpa using hm i t' (by simpa using e)
theorem call_dictPairs (hcalm : X.calm = true) : CallR X (.type "dict") (fun xs H Q => ∃ (p : Addr) (ts : List Addr) (kvs : List (Key × V)), xs = [.ref p] ∧ SqL X.K H p (ts.map V.ref) ∧ PairsAt H ts kvs ∧ kvs.length ≤ 1000 ∧ ∀ d, H d = none → Q (.ref d) (upd H d (.dK (mergeK [] kvs)))) := by
  intro pins s σ H xs us Q I r h
  obtain ⟨p, ts, kvs, rfl, hq, hp, hz, q⟩ := h
  obtain ⟨u, rfl, ru⟩ := vals1 r
  cases ru
  obtain ⟨its, r', ⟨o, n, e, e1, e2, e3⟩, _⟩ := I.list hq
  have hlen := r'.length
  rw [List.length_map] at hlen
  have hkl : ts.length = kvs.length := hp.length
  obtain ⟨more, rk, hm⟩ := pairs_more I.hok hp
  have hml := rk.length
  have hrefs : ∀ (i : Nat) v, its[i]? = some v → ∃ t, ts[i]? = some t ∧ v = .ref t := by
    intro i v hv
    have hi : i < its.length := (List.getElem?_eq_some_iff.mp hv).1
    have : i < ts.length := by omega
    obtain ⟨u, hu, ru⟩ := r'.get (i := i) (x := V.ref ts[i]) (by simp [this])
    rw [hu] at hv
    cases hv
    cases ru
    exact ⟨ts[i], by simp [this], rfl⟩
  refine call_dict_pairs (knd := mixKind X.prog X.w) (more := more) (I.ok.hd hcalm) e e1 e2 e3 (by rw [List.size_toArray]; omega) ?_ (by rw [List.size_toArray]; exact Nat.le_of_lt (Nat.lt_of_le_of_lt (show its.length ≤ 1000 by omega) (by decide))) fun h' tk hD hk => ?_
  · intro i v hv
    obtain ⟨t, ht, rfl⟩ := hrefs i v (by simpa using hv)
    obtain ⟨o, m, k, kv, x, h1, h2, h3, h4, h5⟩ := hm i t ht
    exact ⟨t, o, m, k, kv, x, rfl, h1, h2, h3, h4, h5⟩
  · have hz2 : (mergeK [] kvs).length ≤ sizeLine := by
      have h1 := length_mergeK kvs []
      rw [List.length_nil] at h1
      exact Nat.le_of_lt (Nat.lt_of_le_of_lt (show (mergeK [] kvs).length ≤ 1000 by omega) (by decide))
    refine ⟨.ref s.heap.objs.size, _, I.laid (a := s.heap.objs.size) (o := .dK (mergeK [] kvs)) (t' := tk) hk (Nat.le_refl _) ?_, rfl, q _ I.fresh⟩
    exact dk_new hz2 (beq_eq_false_iff_ne.mpr (Ne.symm (Nat.ne_of_lt I.big))) (rk.merge .nil) hD
end
end L2
namespace Lw
open PySem L2
noncomputable def fV (ρ : Str → Int) : V → V
  | .str x => .int (ρ x)
  | v => v
theorem map_fV (ρ : Str → Int) (ps : List Str) : (ps.map V.str).map (fV ρ) = (ps.map ρ).map V.int := by
  rw [List.map_map, List.map_map]; rfl
theorem str_item {xs : List Str} {i : Nat} {x : V} (h : (xs.map V.str)[i]? = some x) : ∃ y, xs[i]? = some y ∧ V.str y = x := by
  rw [List.getElem?_map] at h
  cases e : xs[i]? with
  | none => rw [e] at h; cases h
  | some y => rw [e] at h; exact ⟨y, rfl, Option.some.inj h⟩
theorem ref_item {xs : List Addr} {i : Nat} {x : V} (h : (xs.map V.ref)[i]? = some x) : ∃ y, xs[i]? = some y ∧ V.ref y = x := by
  rw [List.getElem?_map] at h
  cases e : xs[i]? with
  | none => rw [e] at h; cases h
  | some y => rw [e] at h; exact ⟨y, rfl, Option.some.inj h⟩
theorem take_snoc {α : Type} {xs : List α} {i : Nat} {y : α} (h : xs[i]? = some y) : xs.take (i + 1) = xs.take i ++ [y] := by rw [List.take_add_one, h]; rfl
theorem dget {H : Hp} {a : Addr} {kvs : List (Key × V)} {x : Str} {v : V} (h : H a = some (.dK kvs)) (hv : valV kvs (Sum.inr x) = some v) : DGet H a (.str x) (some v) := by
  have := DGet.k (k := (Sum.inr x : Key)) h
  rw [hv] at this
  exact this
theorem Has.step {kvs : List (Key × V)} {xs : List Str} {ρ : Str → Int} (h : Has kvs xs ρ) {n : Str} (hv : Bit (ρ n)) : Has (putK kvs (Sum.inr n) (.int (ρ n))) (xs ++ [n]) ρ := by
  have := h.put (n := n) (v := ρ n) hv
  have e : (fun x => if x = n then ρ n else ρ x) = ρ := by
    funext x
    by_cases z : x = n
    · rw [if_pos z, z]
    · rw [if_neg z]
  rw [e] at this
  exact this
noncomputable def spTold : Sp := fun vs H Q _ => ∃ (ce b : Addr) (C : Cel) (kvs : List (Key × V)) (ρ : Str → Int), vs = [.ref ce, .ref b] ∧ CellAt H ce C ∧ Good C ∧ H b = some (.dK kvs) ∧ Has kvs C.ins ρ ∧
  ∀ (t : Addr) (H' : Hp), H t = none → H' t = some (.tup ((C.outs.map (evalC C ρ)).map V.int)) → Same H H' → Q (.ref t) H'
noncomputable def spThere (K : PySem.W.Frag) : Sp := fun vs H Q _ => ∃ (na b : Addr) (xs : List Str) (kvs : List (Key × V)), vs = [.ref na, .ref b] ∧ SqT K H na (xs.map V.str) ∧ H b = some (.dK kvs) ∧ (∀ x ∈ xs, ∃ v, valV kvs (Sum.inr x) = some v) ∧ Q .non H
theorem has_merge {ρ : Str → Int} : ∀ (ys : List Str) (kvs : List (Key × V)) (xs : List Str), Has kvs xs ρ → (∀ y ∈ ys, Bit (ρ y)) → Has (mergeK kvs (ys.map fun x => ((Sum.inr x : Key), V.int (ρ x)))) (xs ++ ys) ρ
  | [], kvs, xs, h, _ => by simpa [mergeK] using h
  | y :: ys, kvs, xs, h, hb => by
    have := has_merge ys (putK kvs (Sum.inr y) (.int (ρ y))) (xs ++ [y]) (h.step (hb y List.mem_cons_self)) (fun z hz => hb z (List.mem_cons_of_mem _ hz))
    simpa [mergeK] using this
theorem lcTups {J : It} {xs : List V} {R : Hp → Prop} {nm : Str} {caps : List Nat} {te : TE} {σ : St} {H1 : Hp} {Q : VK} {D : Addr} (Y : Yields J xs R) (f : V → List V) (nD : H1 D = none) (hR : ∀ H, Same H1 H → R H) (hl : xs.length ≤ 1000)
    (hs : ∀ (i : Nat) x H (k : VK), xs[i]? = some x → Same H1 H → (∀ t H', Same H H' → H t = none → H' t = some (.tup (f x)) → k (.ref t) H') → te (some x :: caps.map (fun i => (σ[i]?).join)) H k)
    (hd : ∀ H (ts : List Addr), Same H1 H → H D = some (.lst (ts.map V.ref)) → Paired (fun t x => H t = some (.tup (f x))) ts xs → Q (.ref D) H) : LCW [nm] caps J (gName 0) tYes te σ H1 Q D := by
  refine lc1y Y (fun i ys H => i ≤ xs.length ∧ ∃ ts : List Addr, ys = ts.map V.ref ∧ ts.length = i ∧ Paired (fun t x => H t = some (.tup (f x))) ts (xs.take i) ∧ Same H1 H ∧ H D = some (.lst ys)) ⟨Nat.zero_le _, [], rfl, rfl, .nil, Same.new nD, upd_same⟩ (fun i ys H _ p => by obtain ⟨_, _, _, _, _, s, _⟩ := p; exact hR H s) ?_ ?_
  · rintro i x ys H hx ⟨hi, ts, rfl, hti, hp, sm, hD⟩
    have hlt := (List.getElem?_eq_some_iff.mp hx).1
    have et : xs.take (i + 1) = xs.take i ++ [x] := by rw [List.take_add_one, hx]; rfl
    refine hs i x _ _ hx sm fun t H' sm' nt ht => ⟨⟨_, rfl⟩, sm' _ _ hD, ?_, hlt, ts ++ [t], by simp, by simp [hti], ?_, ?_, ?_⟩
    · rw [List.length_map]; exact Nat.lt_of_le_of_lt (show ts.length ≤ 1000 by omega) (by decide)
    · rw [et]
      refine paired_snoc (L2.Paired.mapP hp fun a b z => ?_) ?_
      · rw [upd_ne (ne_of z hD (fun q => nomatch q))]; exact sm' _ _ z
      · rw [upd_ne (ne_of ht (sm' _ _ hD) (fun q => nomatch q))]; exact ht
    · intro b u e
      rw [upd_ne (ne_of_none e nD)]
      exact sm' _ _ (sm b u e)
    · simp [upd_same]
  · rintro ys H ⟨_, ts, rfl, hti, hp, sm, hD⟩
    rw [List.take_of_length_le (Nat.le_refl _)] at hp
    exact hd H ts sm hD hp
theorem pairs_of_ins {H : Hp} {ρ : Str → Int} : ∀ {ins : List Str} {ts : List Addr}, Paired (fun t x => H t = some (.tup [x, fV ρ x])) ts (ins.map V.str) → PairsAt H ts (ins.map fun x => ((Sum.inr x : Key), V.int (ρ x)))
  | [], _, h => by
    rw [List.map_nil] at h
    cases h
    exact .nil
  | x :: ins, _, h => by
    rw [List.map_cons] at h
    cases h with
    | cons h1 h2 => exact .cons h1 (pairs_of_ins h2)
section
variable {P : Program} {w : World} {K : PySem.W.Frag} {mg : Str → Option Value} {base : Heap}
theorem scThere : FnScope ["names", "given", "name"] ["names", "given"] (defScope sThere) := ⟨rfl, rfl, rfl, by decide +kernel, rfl, by decide +kernel, by decide +kernel⟩
set_option maxHeartbeats 1000000 in
theorem ok_there {f : Addr} {fd : FuncData} (F : Fun K "check_there" "check_there" sThere f fd) : FnOk P w K mg base CX0 1 f fd ["names", "given"] (spThere K) := by
  refine F.ok scThere (fun vs H Q E h => ?_) (fun cdv A outer s H vs Q E hr h => ?_)
  · obtain ⟨na, b, xs, kvs, rfl, _⟩ := h
    rfl
  · obtain ⟨na, b, xs, kvs, rfl, hn, hb, hv, k⟩ := h
    have hu := hu_of hr
    refine ⟨_, pss_one (ps_for PassesOwn.never rfl (pi_tup (pv 0)) (pg_name (i := 2) scThere.nd rfl (Or.inl rfl)) (pss_one (ps_if (pt_cmp (pc_dnotin hu (pv 2) (pv 1))) (pss_one ps_never) pss_nil))), ?_⟩
    refine ⟨_, rfl, na, rfl, ⟨_, hn⟩, ?_⟩
    refine for_tup (K := K) (a := na) (xs := xs.map V.str) (fun i σ H2 => H2 = H ∧ ∃ v3, σ = [some (.ref na), some (.ref b), v3]) ⟨rfl, none, rfl⟩ (fun i σ H2 _ ⟨e, _⟩ => by rw [e]; exact hn) ?_ ?_
    · rintro i x σ H2 hx ⟨rfl, v3, rfl⟩
      obtain ⟨y, hy, rfl⟩ := str_item hx
      obtain ⟨v, hv'⟩ := hv y (List.mem_of_getElem? hy)
      exact ⟨_, rfl, _, rfl, b, _, rfl, dget hb hv', _, rfl, iteF ⟨rfl, _, rfl⟩⟩
    · rintro σ H2 ⟨rfl, _⟩
      exact k
theorem ndNB : (["name", "bits"] : List Str).Nodup := by decide +kernel
theorem scTold : FnScope ["cell", "bits", "told", "name", "word", "names"] ["cell", "bits"] (defScope sToldBy) := ⟨rfl, rfl, rfl, by decide +kernel, rfl, by decide +kernel, by decide +kernel⟩
theorem ndKT : (["known", "told"] : List Str).Nodup := by decide +kernel
theorem ndNT : (["name", "told"] : List Str).Nodup := by decide +kernel
set_option maxHeartbeats 4000000 in
theorem told_tail {f fG : Addr} {fdG : FuncData} {cdv : Value} {A : Around} {outer : List Env} {s : Shared} {H : Hp} {Q : VK} {E : XK} (T : Txt mg) (gG : Gd K mg "gate_bit" sGateBit ["word", "bits"] fG fdG) (hr : Room 1 (A.deeper (PyProof.Rows.envOfC "told_by" (defScope sToldBy) s.heap.objs.size f cdv)))
    {ce b : Addr} {C : Cel} {kvs : List (Key × V)} {ρ : Str → Int} (hC : CellAt H ce C) (hG : Good C) (hb : H b = some (.dK kvs)) (hH : Has kvs C.ins ρ) (k : ∀ (t : Addr) (H' : Hp), H t = none → H' t = some (.tup ((C.outs.map (evalC C ρ)).map V.int)) → Same H H' → Q (.ref t) H') :
    ∃ t, PSs (cxOf CX0 P w K mg base ["cell", "bits", "told", "name", "word", "names"] "told_by" (defScope sToldBy) f cdv A outer s H E).nox (defBody sToldBy).tail t ∧ t { nx := fun _ H' => Q .non H', rt := Q } [some (.ref ce), some (.ref b), none, none, none, none] H := by
  have GB : FnOk P w K mg base CX0 1 fG fdG ["word", "bits"] spGB := ok_gb gG.F T
  have hu := hu_of hr
  obtain ⟨ia, ga, oa, as, c1, c2, c3, c4, c5⟩ := hC.ex
  have li := hG.li
  have lg := hG.lg
  have lo := hG.lo
  refine ex_cut (fun σ H2 => ∃ (kv : List (Key × V)) (td : Addr), σ = [some (.ref ce), some (.ref b), some (.ref td), none, none, none] ∧ H2 td = some (.dK kv) ∧ Has kv C.ins ρ ∧ kv.length ≤ 6 ∧ H td = none ∧ Same H H2) (fun u hu' => ?_) ?_
  · refine ⟨_, ps_set (i := 2) scTold.nd rfl (Or.inr rfl) (pe_callTy (call_dictPairs rfl) (by rfl) T.dict PyProof.Rows.boot_dict (pa_c (pe_lc ["name"] ["bits"] [1] rfl (pi_tup (pe_ix ix_tup (pv 0) pe_int (fun _ _ => rfl))) rfl rfl (fun s₀ H₀ C cl fp => pg_name (i := 0) ndNB rfl (Or.inl rfl)) (fun s₀ H₀ C cl fp => pifs_nil)
      (fun s₀ H₀ C cl fp => pe_tup (pa_c (pv 0) (pa_c (pe_dget hu (pv 1) (pv 0) (fun _ _ => rfl)) pa_nil)))) pa_nil)), ?_⟩
    refine ⟨_, rfl, ce, _, _, .ref ia, rfl, rfl, SqT.of c1, rfl, ia, rfl, ⟨_, SqT.of c2⟩, fun D0 nD0 => ?_⟩
    refine lcTups yields_tup (fun x => [x, fV ρ x]) nD0 (fun H4 s4 => SqT.of (s4 _ _ c2)) (by rw [List.length_map]; omega) ?_ ?_
    · intro j x H4 kk hx s4 hk
      obtain ⟨y, hy, rfl⟩ := str_item hx
      have hv := (hH y (List.mem_of_getElem? hy)).1
      exact ⟨_, rfl, _, rfl, _, rfl, b, _, rfl, dget (s4 _ _ hb) hv, (by show 2 ≤ sizeLine; decide), fun p np => hk p _ (Same.new np) np upd_same⟩
    · intro H4 ts s4 hD hp
      refine ⟨D0, ts, C.ins.map fun x => ((Sum.inr x : Key), V.int (ρ x)), rfl, SqL.of hD, ?_, by rw [List.length_map]; omega, fun d nd => hu' _ _ ⟨_, d, rfl, upd_same, ?_, ?_, s4.free nd, s4.trans (Same.new nd)⟩⟩
      · exact pairs_of_ins hp
      · simpa using has_merge (ρ := ρ) C.ins [] [] (fun x hx => by simp at hx) (fun y hy => (hH y hy).2)
      · have := length_mergeK (C.ins.map fun x => ((Sum.inr x : Key), V.int (ρ x))) []
        rw [List.length_map, List.length_nil] at this
        omega
  rintro σ H2 ⟨kv, td, rfl, ht2, hh2, hl2, ntd, s2⟩
  refine ex_cut (fun σ H3 => ∃ (kv : List (Key × V)) (v3 v4 v5 : Option V), σ = [some (.ref ce), some (.ref b), some (.ref td), v3, v4, v5] ∧ H3 td = some (.dK kv) ∧ Has kv C.names (evalC C ρ) ∧ Same H H3) (fun u hu' => ?_) ?_
  · refine ⟨_, ps_for PassesOwn.never rfl (pi_tup (pe_ix ix_tup (pv 0) pe_int (fun _ _ => rfl))) (pg_tup rfl (pgs_cons (pg_name (i := 3) scTold.nd rfl (Or.inl rfl)) (pgs_cons (pg_name (i := 4) scTold.nd rfl (Or.inl rfl)) (pgs_cons (pg_name (i := 5) scTold.nd rfl (Or.inl rfl)) pgs_nil))))
      (pss_one (ps_dput hu (pv 2) (pv 3) (pe_call GB hr rfl gG.m gG.k gG.b .nil pass0 (pa_c (pv 4) (pa_c (pe_lc ["known"] ["told"] [2] rfl (pi_tup (pv 5)) rfl rfl (fun s₀ H₀ C cl fp => pg_name (i := 0) ndKT rfl (Or.inl rfl)) (fun s₀ H₀ C cl fp => pifs_nil)
        (fun s₀ H₀ C cl fp => pe_dget hu (pv 1) (pv 0) (fun _ _ => rfl))) pa_nil))) rfl)), ?_⟩
    refine ⟨_, rfl, ce, _, _, .ref ga, rfl, rfl, SqT.of (s2 _ _ c1), rfl, ga, rfl, ⟨_, SqT.of (s2 _ _ c3)⟩, ?_⟩
    refine for_tup (K := K) (a := ga) (xs := as.map V.ref) (fun i σ H3 => ∃ (kv : List (Key × V)) (v3 v4 v5 : Option V), σ = [some (.ref ce), some (.ref b), some (.ref td), v3, v4, v5] ∧ H3 td = some (.dK kv) ∧ Has kv (C.ins ++ (C.gates.take i).map (·.1)) (evalG ρ (C.gates.take i)) ∧ kv.length ≤ 6 + i ∧ Same H H3)
      ⟨kv, none, none, none, rfl, ht2, by simpa [evalG] using hh2, by omega, s2⟩ (fun i σ H3 _ ⟨_, _, _, _, _, _, _, _, s3⟩ => SqT.of (s3 _ _ c3)) ?_ ?_
    · rintro i x σ H3 hx ⟨kv, v3, v4, v5, rfl, ht3, hh, hl, s3⟩
      obtain ⟨a1, ha1, rfl⟩ := ref_item hx
      obtain ⟨g, hg, q, g1, g2⟩ := paired_get c5 ha1
      have hi : i < C.gates.length := (List.getElem?_eq_some_iff.mp hg).1
      obtain ⟨hok, hps⟩ := hG.gt.at hg
      generalize hR : evalG ρ (C.gates.take i) = ρi at hh
      refine ⟨a1, _, rfl, SqT.of (s3 _ _ g1), rfl, _, _, rfl, _, _, rfl, _, _, rfl, rfl, ?_⟩
      refine ⟨_, rfl, _, rfl, q, rfl, ⟨_, SqT.of (s3 _ _ g2)⟩, fun D0 nD0 => ?_⟩
      have hpl : g.2.2.length ≤ 3 := by rcases hok.ok with ⟨_, z | z⟩ | ⟨_, z⟩ | ⟨_, z⟩ | ⟨_, z⟩ | ⟨_, z⟩ <;> omega
      refine lcMap yields_tup (fV ρi) nD0 (fun H4 s4 => SqT.of (s4 _ _ (s3 _ _ g2))) (by rw [List.length_map]; omega) ?_ ?_
      · intro j x H4 kk hx s4 hk
        obtain ⟨y, hy, rfl⟩ := str_item hx
        have hv := (hh y (hps y (List.mem_of_getElem? hy))).1
        exact ⟨_, rfl, _, rfl, td, _, rfl, dget (s4 _ _ ht3) hv, hk⟩
      rw [map_fV]
      refine ⟨g.2.1, D0, g.2.2.map ρi, rfl, upd_same, ?_, by rw [List.length_map]; exact hok, fun H5 s5 => ?_⟩
      · intro z hz
        obtain ⟨y, hy, rfl⟩ := List.mem_map.mp hz
        exact (hh y (hps y hy)).2
      have s35 : Same H3 H5 := (Same.new nD0).trans s5
      refine ⟨_, rfl, _, rfl, td, _, rfl, DPut.k (k := (Sum.inr g.1 : Key)) (s35 _ _ ht3) (small1000 (by omega)), putK kv (Sum.inr g.1) (.int (gateVal g.2.1 (g.2.2.map ρi))), _, _, _, rfl, upd_same, ?_, ?_, ?_⟩
      · rw [take_snoc hg, evalG_snoc, hR, List.map_append, ← List.append_assoc]
        exact hh.put (gateVal_bit _ _)
      · have := length_putK kv (Sum.inr g.1 : Key) (.int (gateVal g.2.1 (g.2.2.map ρi))); omega
      · exact fun c o e => by rw [upd_ne (ne_of_none e ntd)]; exact s35 c o (s3 c o e)
    · rintro σ H3 ⟨kv, v3, v4, v5, rfl, ht3, hh, hl, s3⟩
      rw [List.length_map, paired_len c5, List.take_of_length_le (Nat.le_refl _)] at hh
      exact hu' _ _ ⟨kv, v3, v4, v5, rfl, ht3, hh, s3⟩
  rintro σ H3 ⟨kv3, v3, v4, v5, rfl, ht3, hh3, s3⟩
  refine ⟨_, pss_one (ps_ret (pe_callTy call_tuple_of (by rfl) T.tuple PyProof.Rows.boot_tuple (pa_c (pe_lc ["name"] ["told"] [2] rfl (pi_tup (pe_ix ix_tup (pv 0) pe_int (fun _ _ => rfl))) rfl rfl (fun s₀ H₀ C cl fp => pg_name (i := 0) ndNT rfl (Or.inl rfl)) (fun s₀ H₀ C cl fp => pifs_nil)
    (fun s₀ H₀ C cl fp => pe_dget hu (pv 1) (pv 0) (fun _ _ => rfl))) pa_nil))), ?_⟩
  refine ⟨_, rfl, ce, _, _, .ref oa, rfl, rfl, SqT.of (s3 _ _ c1), rfl, oa, rfl, ⟨_, SqT.of (s3 _ _ c4)⟩, fun D0 nD0 => ?_⟩
  refine lcMap yields_tup (fV (evalC C ρ)) nD0 (fun H4 s4 => SqT.of (s4 _ _ (s3 _ _ c4))) (by rw [List.length_map]; omega) ?_ ?_
  · intro j x H4 kk hx s4 hk
    obtain ⟨y, hy, rfl⟩ := str_item hx
    have hv := (hh3 y (hG.os y (List.mem_of_getElem? hy))).1
    exact ⟨_, rfl, _, rfl, td, _, rfl, dget (s4 _ _ ht3) hv, hk⟩
  rw [map_fV]
  refine ⟨D0, _, rfl, .inl ⟨SqL.of upd_same, fun t nt => ?_⟩⟩
  have s4 := s3.trans (Same.new (o := .lst ((C.outs.map (evalC C ρ)).map V.int)) nD0)
  exact k t _ (s4.free nt) upd_same (s4.trans (Same.new nt))
set_option maxHeartbeats 1000000 in
theorem ok_told {f fG fT : Addr} {fd fdG fdT : FuncData} (F : Fun K "told_by" "told_by" sToldBy f fd) (T : Txt mg) (gG : Gd K mg "gate_bit" sGateBit ["word", "bits"] fG fdG) (gTh : Gd K mg "check_there" sThere ["names", "given"] fT fdT) : FnOk P w K mg base CX0 2 f fd ["cell", "bits"] spTold := by
  have GB : FnOk P w K mg base CX0 1 fG fdG ["word", "bits"] spGB := ok_gb gG.F T
  have TH : FnOk P w K mg base CX0 1 fT fdT ["names", "given"] (spThere K) := ok_there gTh.F
  refine F.ok scTold (fun vs H Q E h => ?_) (fun cdv A outer s H vs Q E hr h => ?_)
  · obtain ⟨ce, b, C, kvs, ρ, rfl, _⟩ := h
    rfl
  · obtain ⟨ce, b, C, kvs, ρ, rfl, hC, hG, hb, hH, k⟩ := h
    have hu := hu_of hr
    obtain ⟨ia, ga, oa, as, c1, c2, c3, c4, c5⟩ := hC.ex
    have li := hG.li
    have lg := hG.lg
    have lo := hG.lo
    refine ex_cut (fun σ H2 => H = H2 ∧ σ = [some (.ref ce), some (.ref b), none, none, none, none]) (fun u hu' => ?_) ?_
    · refine ⟨_, ps_expr (pe_call TH hr rfl gTh.m gTh.k gTh.b .nil pass0 (pa_c (pe_ix ix_tup (pv 0) pe_int (fun _ _ => rfl)) (pa_c (pv 1) pa_nil))), ?_⟩
      exact ⟨_, rfl, ce, _, _, .ref ia, rfl, rfl, SqT.of c1, rfl, _, rfl, ia, b, C.ins, kvs, rfl, SqT.of c2, hb, fun x hx => ⟨_, (hH x hx).1⟩, hu' _ _ ⟨rfl, rfl⟩⟩
    rintro σ H1 ⟨rfl, rfl⟩
    exact told_tail T gG hr hC hG hb hH k
end
end Lw
namespace Lw
open PySem L2
structure BitsD (xs : List Str) (kvs : List (Key × V)) : Prop where
  keys : kvs.map (·.1) = xs.map Sum.inr
  bits : ∀ p ∈ kvs, p.2 = .int 0 ∨ p.2 = .int 1
theorem inr_nodup : ∀ {xs : List Str}, xs.Nodup → (xs.map (Sum.inr : Str → Key)).Nodup
  | [], _ => List.nodup_nil
  | x :: r, h => by
    obtain ⟨h1, h2⟩ := List.nodup_cons.mp h
    refine List.nodup_cons.mpr ⟨fun m => ?_, inr_nodup h2⟩
    obtain ⟨y, hy, e⟩ := List.mem_map.mp m
    rw [Sum.inr.inj e] at hy
    exact h1 hy
theorem BitsD.flat {xs : List Str} {kvs : List (Key × V)} (h : BitsD xs kvs) : ∀ p ∈ kvs, flatV p.2 = true ∧ eqV p.2 p.2 = true := by
  intro p hp
  rcases h.bits p hp with q | q <;> (rw [q]; exact ⟨rfl, rfl⟩)
theorem BitsD.nodup {xs : List Str} {kvs : List (Key × V)} (h : BitsD xs kvs) (hn : xs.Nodup) : (kvs.map (·.1)).Nodup := by rw [h.keys]; exact inr_nodup hn
section
variable {P : Program} {w : World} {K : PySem.W.Frag} {mg : Str → Option Value} {base : Heap}
theorem scBits : FnScope ["names", "number", "found", "name"] ["names", "number"] (defScope sBits) := ⟨rfl, rfl, rfl, by decide +kernel, rfl, by decide +kernel, by decide +kernel⟩
end
end Lw
namespace L2
open PySem PySem.Spec PyProof.Rows
section
variable {X : Cx}
theorem bl_get {bs : List Bool} {us : List Value} (r : Vals (bs.map V.bl) us) {i : Nat} {v : Value} (h : us[i]? = some v) : ∃ b, bs[i]? = some b ∧ v = .bool b := by
  have hl := r.length
  rw [List.length_map] at hl
  have hi : i < us.length := (List.getElem?_eq_some_iff.mp h).1
  have hb : bs[i]? = some (bs[i]'(by omega)) := List.getElem?_eq_getElem (by omega)
  obtain ⟨u, hu, ru⟩ := r.get (i := i) (x := V.bl (bs[i]'(by omega))) (by rw [List.getElem?_map, hb]; rfl)
  rw [h] at hu
  cases hu
  exact ⟨_, hb, ru⟩
theorem all_range (bs : List Bool) : ((List.range bs.length).all fun i => (bs[i]?).getD true) = bs.all id := by
  have e : (List.range bs.length).map (fun i => (bs[i]?).getD true) = bs := by
    apply List.ext_getElem (by simp)
    intro i p q
    simp [q]
  calc ((List.range bs.length).all fun i => (bs[i]?).getD true) = ((List.range bs.length).map fun i => (bs[i]?).getD true).all id := by rw [List.all_map]; rfl
    _ = bs.all id := by rw [e]
noncomputable def rAll (K : PySem.W.Frag) : List V → Hp → VK → Prop := fun xs H Q => ∃ (p : Addr) (bs : List Bool), xs = [.ref p] ∧ SqL K H p (bs.map V.bl) ∧ Q (.bl (bs.all id)) H
theorem call_all (hc : X.calm = true) : CallR X (.builtin "all") (rAll X.K) := by
  intro pins s σ H xs us Q I r h
  obtain ⟨p, bs, rfl, hq, q⟩ := h
  obtain ⟨u, rfl, ru⟩ := vals1 r
  cases ru
  obtain ⟨its, rv, pl, _⟩ := I.list hq
  have hl := pl.isList
  have hlen := rv.length
  rw [List.length_map] at hlen
  have hlt : p < s.heap.objs.size := by obtain ⟨_, e, _⟩ := id hl; exact Heap.lt_size e
  refine call_all_walk (wpAny_pyIter_list hl ?_)
  refine ⟨s.heap.objs.size, [s.heap.objs.size, p], [s.heap.objs.size], its.toArray.size, _, _, fun i => (bs[i]?).getD true, rfl, Walks.list (A := X.A.in1) (I.ok.hd hc) _ p (Nat.ne_of_lt hlt) its.toArray,
    ⟨⟨_, Heap.get?_push_size _ rfl, rfl, rfl⟩, hl.push _⟩, fun i v s' Q' E' hP hQ => ?_, fun h' tk hk => ?_⟩
  · obtain ⟨b, e, rfl⟩ := bl_get rv (by simpa using hP)
    simp only [e, Option.getD_some] at hQ
    exact wpAny_truthy_bool hQ
  · have e : ((List.range its.toArray.size).all fun i => (bs[i]?).getD true) = bs.all id := by
      rw [List.size_toArray, ← hlen]; exact all_range bs
    rw [e]
    exact ⟨.bl _, H, I.kept fun b x e => hk b x (fun hm => by rw [List.mem_singleton.mp hm] at e; exact Nat.lt_irrefl _ (Heap.lt_size e)) (Heap.get?_push_of_some _ e), rfl, q⟩
noncomputable def rSplit : V → List V → Hp → VK → Prop := fun x vs H Q => ∃ (z y : Str), x = .str z ∧ vs = [.str y] ∧ y.length ≠ 0 ∧ z.length ≤ 1000000 ∧ ∀ p, H p = none → Q (.ref p) (upd H p (.lst ((Txt.split z y).map V.str)))
theorem vals_strs : ∀ (l : List (Str × Tok)), Vals ((l.map (·.1)).map V.str) (strValues l)
  | [] => .nil
  | a :: r => .cons ⟨a.2, rfl⟩ (vals_strs r)
theorem mt_split : MtR X "str.split" rSplit := by
  intro pins s σ H x vs v us Q I rx rv h
  obtain ⟨z, y, rfl, rfl, hy, hz, q⟩ := h
  obtain ⟨t, rfl⟩ := rx
  obtain ⟨u, rfl, t', rfl⟩ := rv.one
  have hy0 : (y.length == 0) = false := by simpa using hy
  have fin : ∀ (l : List (Str × Tok)) (tk : Nat), l.map (·.1) = Txt.split z y → l.length ≤ sizeLine → EP X pins σ Q (.ref s.heap.objs.size) { s with heap := s.heap.push { cls := .type "list", data := .seq (strValues l).toArray }, toks := tk } := by
    intro l tk e hl
    refine ⟨.ref _, _, I.lnew (its := strValues l) (ys := (Txt.split z y).map V.str) (t' := tk) (by rw [← e]; exact vals_strs l) ?_, rfl, q _ I.fresh⟩
    rw [List.length_map, ← e, List.length_map]; exact hl
  have hn : (Builtin.Str.partsBetween z (Builtin.Str.occurrences z y 0 z.length (z.length + 1)) y.length).length ≤ sizeLine := by
    have e1 := StrLaws.occ_length_le z y 0 z.length (z.length + 1)
    rw [length_partsBetween, sizeLine_eq]; omega
  cases g1 : (decide (z.length < y.length) || decide (Builtin.Str.strKind z < Builtin.Str.strKind y)) with
  | false =>
    cases g2 : (Builtin.Str.occurrences z y 0 z.length (z.length + 1)).isEmpty with
    | false =>
      refine call_meets PySem.F.slot_str_split (typeIs_str _ _ _) PySem.F.entry_str_split (PySem.F.args_str_split_2 _ _) (meets_str_split_sep z y t t' g1 hy0 g2 (by rw [sizeLine_eq]; omega) hn) ?_
      show wants _ _ _ { s with toks := _, heap := s.heap.push { cls := .type "list", data := .seq (strsFrom s.toks (Builtin.Str.partsBetween z (Builtin.Str.occurrences z y 0 z.length (z.length + 1)) y.length)).toArray } }
      rw [strsFrom_eq]
      have e9 : (numbered s.toks (Builtin.Str.partsBetween z (Builtin.Str.occurrences z y 0 z.length (z.length + 1)) y.length)).map (·.1) = Txt.split z y := (numbered_texts _ _).trans ((if_neg (ne_true_of_eq_false g1)).trans (if_neg (ne_true_of_eq_false g2))).symm
      refine fin _ _ e9 ?_
      have := congrArg List.length (numbered_texts s.toks (Builtin.Str.partsBetween z (Builtin.Str.occurrences z y 0 z.length (z.length + 1)) y.length))
      rw [List.length_map] at this
      rw [this]; exact hn
    | true =>
      exact call_meets PySem.F.slot_str_split (typeIs_str _ _ _) PySem.F.entry_str_split (PySem.F.args_str_split_2 _ _) (meets_str_split_not_found z y t t' g1 hy0 g2)
        (fin [(z, t)] s.toks ((if_neg (ne_true_of_eq_false g1)).trans (if_pos g2)).symm (by show 1 ≤ sizeLine; decide))
  | true =>
    exact call_meets PySem.F.slot_str_split (typeIs_str _ _ _) PySem.F.entry_str_split (PySem.F.args_str_split_2 _ _) (meets_str_split_cannot_occur z y t t' g1)
      (fin [(z, t)] s.toks (if_pos g1).symm (by show 1 ≤ sizeLine; decide))
end
end L2
namespace L2
open PySem PySem.Spec PyProof.Rows
section
variable {X : Cx} {pins : List (Addr × Obj)} {σ : St} {H : Hp} {s : Shared} {h' : Heap}
theorem Inv.moved {t' : Nat} {fp : List Addr} (I : Inv X pins σ H s) (hf : ∀ b ∈ fp, FpOk X pins H b) (k : ∀ b o, b ∉ fp → s.heap.get? b = some o → h'.get? b = some o) : Inv X pins σ H { s with heap := h', toks := t' } := by
  have nit : ∀ b u, H b = some u → b ∉ fp := fun b u e z => by rw [(hf b z).1] at e; cases e
  refine I.step (g' := s.gens) (d' := s.drawn) (ch := fp) (fun b hb => ⟨(hf b hb).2.2.2.1, (hf b hb).2.1, (hf b hb).2.2.2.2.1, (hf b hb).2.2.2.2.2⟩) (fun b o _ _ hc e _ => k b o hc e) (fun b o _ _ hc e _ => ⟨o.slots, k b o hc e⟩) (fun _ _ _ _ n => n)
    (fun b o hc e => ⟨o, k b o hc e⟩) (fun _ _ e => e) (fun _ _ _ e => e) (fun b ps e => ⟨#[], by rw [e]; simp⟩) (fun m hm => ?_) (fun b u e => ?_) I.bare
  · obtain ⟨o, es, ep, ho, r⟩ := hm
    exact ⟨o, es, ep, k _ o (fun z => (hf _ z).2.1 rfl) ho, r⟩
  · refine (I.hok b u e).stay (fun c v hc q => k c v ?_ q) (fun _ q => q) fun _ _ q => q
    rcases hc with z | z
    · rw [z]; exact nit b u e
    · exact nit c _ z
theorem Inv.movedT {t' : Nat} {fp : List Addr} {ys : List V} {its : List Value} (I : Inv X pins σ H s) (hf : ∀ b ∈ fp, FpOk X pins H b) (k : ∀ b o, b ∉ fp → s.heap.get? b = some o → h'.get? b = some o)
    (new : IsTupN h' s.heap.objs.size its.toArray) (rv : Vals ys its) (hz : ys.length ≤ sizeLine) : Inv X pins σ (upd H s.heap.objs.size (.tup ys)) { s with heap := h', toks := t' } := by
  have hn := I.fresh
  have nit : ∀ b u, H b = some u → b ∉ fp := fun b u e z => by rw [(hf b z).1] at e; cases e
  have lt : ∀ b o, s.heap.get? b = some o → b ≠ s.heap.objs.size := fun b o e => Nat.ne_of_lt (Heap.lt_size e)
  refine I.step (g' := s.gens) (d' := s.drawn) (ch := fp) (fun b hb => ⟨(hf b hb).2.2.2.1, (hf b hb).2.1, (hf b hb).2.2.2.2.1, (hf b hb).2.2.2.2.2⟩) (fun b o _ _ hc e _ => k b o hc e) (fun b o _ _ hc e _ => ⟨o.slots, k b o hc e⟩) (fun b o _ e n => by rw [upd_ne (lt b o e)]; exact n)
    (fun b o hc e => ⟨o, k b o hc e⟩) (fun b xs e => by rw [upd_ne (ne_of_none e hn)]; exact e) (fun b o u e => by rw [upd_ne (ne_of_none e hn)]; exact e) (fun b ps e => ⟨#[], by rw [upd_ne (ne_of_none e hn), e]; simp⟩) (fun m hm => ?_) (fun b u e => ?_) I.bare
  · obtain ⟨o, es, ep, ho, r⟩ := hm
    exact ⟨o, es, ep, k _ o (fun z => (hf _ z).2.1 rfl) ho, r⟩
  · by_cases hb : b = s.heap.objs.size
    · subst hb
      rw [upd_same] at e
      cases e
      exact ⟨hz, its, rv, new⟩
    · rw [upd_ne hb] at e
      refine (I.hok b u e).stay (fun c v hc q => k c v ?_ q) (fun c q => by rw [upd_ne (ne_of_none q hn)]; exact q) fun c xs q => by rw [upd_ne (ne_of_none q hn)]; exact q
      rcases hc with z | z
      · rw [z]; exact nit b u e
      · exact nit c _ z
end
noncomputable def Itz (K : PySem.W.Frag) (a b : Addr) : It :=
  ⟨fun i H => ∃ xs ys x y, SqL K H a xs ∧ SqL K H b ys ∧ xs[i]? = some x ∧ ys[i]? = some y,
   fun i H v H' => ∃ p x y, H p = none ∧ v = .ref p ∧ H' = upd H p (.tup [x, y]) ∧ (∀ xs, SqL K H a xs → xs[i]? = some x) ∧ (∀ ys, SqL K H b ys → ys[i]? = some y),
   fun i H => ∃ xs ys, SqL K H a xs ∧ SqL K H b ys ∧ (xs.length ≤ i ∨ ys.length ≤ i)⟩
noncomputable def ZipSt (a b z TI TO i1 i2 : Addr) (i : Nat) (h : Heap) : Prop := IsZip h z TI TO .none ∧ IsPair h TI (.ref i1) (.ref i2) ∧ (∃ u v, IsPair h TO u v) ∧ h.IsListIter i1 a i ∧ h.IsListIter i2 b i
theorem turn_zip {P : Program} {w : World} {K : PySem.W.Frag} {elts : List Expr} {x1 : Nat} {pos : Pos} {a b z TI TO i1 i2 : Addr} (D : ZipApart z TI TO i1 i2 a b) :
    Turn P w K (.Tuple elts x1 pos) (Itz K a b) [z, TI, TO, i1, i2] z (ZipSt a b z TI TO i1 i2) where
  mem := by simp
  obj := fun i h st c hc => by
    obtain ⟨s1, s2, ⟨u, v, s3⟩, ⟨o4, s4, c4, d4⟩, ⟨o5, s5, c5, d5⟩⟩ := st
    simp only [List.mem_cons, List.not_mem_nil, or_false] at hc
    rcases hc with e | e | e | e | e <;> subst e
    · exact ⟨_, s1, fun v z => nomatch z⟩
    · exact ⟨_, s2, fun v z => nomatch z⟩
    · exact ⟨_, s3, fun v z => nomatch z⟩
    · exact ⟨_, s4, fun v z => by rw [d4] at z; cases z⟩
    · exact ⟨_, s5, fun v z => by rw [d5] at z; cases z⟩
  keep := fun i h h' st k => by
    obtain ⟨s1, s2, ⟨u, v, s3⟩, s4, s5⟩ := st
    exact ⟨k z (by simp) _ s1, k TI (by simp) _ s2, ⟨u, v, k TO (by simp) _ s3⟩, s4.at fun o e => k i1 (by simp) o e, s5.at fun o e => k i2 (by simp) o e⟩
  item := by
    intro X hP hw hK hc i pins s σ H E I hf st hg
    subst hP hw hK
    obtain ⟨s1, s2, ⟨u, v, s3⟩, s4, s5⟩ := st
    obtain ⟨xs, ys, x, y, qx, qy, hx, hy⟩ := hg
    obtain ⟨itx, rx, px, _⟩ := I.list qx
    obtain ⟨ity, ry, py, _⟩ := I.list qy
    obtain ⟨ux, hux, rux⟩ := rx.get hx
    obtain ⟨uy, huy, ruy⟩ := ry.get hy
    refine wpAny_pyNext_zip_item D s1 s2 s3 s4 s5 px.isList py.isList (x := ux) (y := uy) (by simpa using hux) (by simpa using huy) fun h' n1 n2 n3 n4 n5 n6 n7 => ?_
    refine ⟨_, rfl, wpAny_letOwnedTupleGo_zip n1 fun h2 m1 sb => ?_⟩
    have kp : ∀ c o, c ∉ [z, TI, TO, i1, i2] → s.heap.get? c = some o → h2.get? c = some o := fun c o hcc e => by
      simp only [List.mem_cons, List.not_mem_nil, or_false, not_or] at hcc
      obtain ⟨e1, e2, e3, e4, e5⟩ := hcc
      exact sb.extBut c o e1 (n7 c o e1 e3 e4 e5 e)
    have zs : s.heap.objs.size ≠ z := fun e => Nat.lt_irrefl _ (by have := Heap.lt_size s1; rw [← e] at this; exact this)
    have nt : IsTupN h2 s.heap.objs.size [ux, uy].toArray := ⟨⟨_, sb.extBut _ _ zs n5, rfl, _, rfl⟩, _, sb.extBut _ _ zs n5, rfl⟩
    have I2 := I.movedT (t' := s.toks) (ys := [x, y]) hf kp nt (.cons rux (.cons ruy .nil)) (by show 2 ≤ sizeLine; decide)
    refine ⟨.ref s.heap.objs.size, _, I2, rfl, ⟨_, x, y, I.fresh, rfl, rfl, fun xs' q' => by rw [I.list_inj q' qx]; exact hx, fun ys' q' => by rw [I.list_inj q' qy]; exact hy⟩, ⟨m1, ?_, ⟨ux, uy, ?_⟩, ?_, ?_⟩, fun c hcc => ?_⟩
    · exact sb.extBut _ _ D.TIz (n7 TI _ D.TIz D.TITO D.TIi1 D.TIi2 s2)
    · exact sb.extBut _ _ D.TOz n2
    · exact n3.at fun o e => sb.extBut _ o D.i1z e
    · exact n4.at fun o e => sb.extBut _ o D.i2z e
    · rw [upd_ne]
      · exact (hf c hcc).1
      · intro e
        obtain ⟨o, ho⟩ : ∃ o, s.heap.get? c = some o := by
          obtain ⟨o4, s4', _⟩ := s4
          obtain ⟨o5, s5', _⟩ := s5
          simp only [List.mem_cons, List.not_mem_nil, or_false] at hcc
          rcases hcc with q | q | q | q | q <;> rw [q]
          · exact ⟨_, s1⟩
          · exact ⟨_, s2⟩
          · exact ⟨_, s3⟩
          · exact ⟨_, s4'⟩
          · exact ⟨_, s5'⟩
        have := Heap.lt_size ho
        rw [e] at this
        exact Nat.lt_irrefl _ this
  done := by
    intro X hP hw hK hc i pins s σ H E I hf st hg
    subst hP hw hK
    obtain ⟨s1, s2, ⟨u, v, s3⟩, s4, s5⟩ := st
    obtain ⟨xs, ys, qx, qy, hend⟩ := hg
    obtain ⟨itx, rx, px, _⟩ := I.list qx
    obtain ⟨ity, ry, py, _⟩ := I.list qy
    have lx := rx.length
    have ly := ry.length
    refine wpAny_pyNext_zip_end (I.ok.hd hc) D s1 s2 s3 s4 s5 px.isList py.isList ?_ fun h' k => ⟨rfl, I.moved (t' := s.toks) hf fun c o hcc e => ?_⟩
    · rcases hend with q | q
      · exact .inl (by simp; omega)
      · exact .inr (by simp; omega)
    · simp only [List.mem_cons, List.not_mem_nil, or_false, not_or] at hcc
      obtain ⟨e1, e2, e3, e4, e5⟩ := hcc
      exact k c o e1 e3 e4 e5 e
  self := fun _ _ _ _ _ st h => wpAny_pyIter_zip st.1 h
section
variable {X : Cx}
noncomputable def iZip (K : PySem.W.Frag) (ta : TA) : TI := fun σ H R => ta σ H fun vs H1 => ∃ a b, vs = [.ref a, .ref b] ∧ (∃ xs, SqL K H1 a xs) ∧ (∃ ys, SqL K H1 b ys) ∧ R (Itz K a b) H1
theorem pi_zip {elts : List Expr} {x1 : Nat} {ps : Pos} {e1 e2 : Expr} {ta : TA} {p pos : Pos} (hg : Gl X "zip") (hm : X.mg "zip" = none) (ha : PA X [e1, e2] ta) (hs : starEach [e1, e2] X.env = (false, eval e1 X.env) :: starEach [e2] X.env := by rfl)
    (hpl : (backTo pos (starEach [e2] X.env)).any (·.1) = false := by rfl) : PI X (.Tuple elts x1 ps) (.Call (.Name "zip" p) [e1, e2] [] pos) (iZip X.K ta) := by
  intro pins s σ H R I h
  refine Call_ (ld_blt I hg hm boot_zip (PyProof.Rows.callWith_type1 (thn (ha pos pins s σ H _ I h) fun us s1 ⟨vs, H1, I1, r1, q1⟩ => ?_) hs hpl))
  obtain ⟨a, b, rfl, ⟨xs, qx⟩, ⟨ys, qy⟩, q⟩ := q1
  obtain ⟨u, v, rfl, ru, rv⟩ := vals2 r1
  cases ru
  cases rv
  obtain ⟨itx, rx, px, _⟩ := I1.list qx
  obtain ⟨ity, ry, py, _⟩ := I1.list qy
  have la : a < s1.heap.objs.size := by obtain ⟨_, e, _⟩ := px.isList; exact Heap.lt_size e
  have lb : b < s1.heap.objs.size := by obtain ⟨_, e, _⟩ := py.isList; exact Heap.lt_size e
  refine call_zip_2 px.isList py.isList fun h' n1 n2 n3 n4 n5 n6 n7 => ?_
  have I2 : Inv X pins σ H1 { s1 with heap := h' } := I1.kept (t' := s1.toks) n7
  refine wpAny_pyIter_zip n1 ⟨_, [_, _, _, _, _], _, _, H1, rfl, I2, turn_zip (a := a) (b := b) (i1 := s1.heap.objs.size) (i2 := s1.heap.objs.size + 1) (z := s1.heap.objs.size + 4) (TI := s1.heap.objs.size + 2) (TO := s1.heap.objs.size + 3) ?_, ⟨n1, n2, ⟨_, _, n3⟩, n4, n5⟩, fun c hc => ?_, q⟩
  · constructor <;> first | exact Nat.ne_of_lt la | exact Nat.ne_of_lt lb | exact Nat.ne_of_lt (Nat.lt_of_lt_of_le la (Nat.le_add_right _ _)) | exact Nat.ne_of_lt (Nat.lt_of_lt_of_le lb (Nat.le_add_right _ _)) | exact Nat.ne_of_gt la | exact Nat.ne_of_gt lb | exact Nat.ne_of_gt (Nat.lt_of_lt_of_le la (Nat.le_add_right _ _)) | exact Nat.ne_of_gt (Nat.lt_of_lt_of_le lb (Nat.le_add_right _ _)) | exact (by show (_ : Nat) ≠ _; omega)
  · simp only [List.mem_cons, List.not_mem_nil, or_false] at hc
    rcases hc with e | e | e | e | e <;> (subst e; exact I1.fpOk (by omega) (I1.hok.fresh (by omega)))
end
end L2
namespace L2
open PySem PySem.Spec PyProof.Rows
noncomputable def KDct (K : PySem.W.Frag) (w : World) (a : Addr) (kvs : List (Key × V)) : Prop := (a == sysModules) = false ∧ ∀ (P : Program) (h : Heap), K.In h → ∃ vs, KV kvs vs ∧ h.DictOf (mixKind P w) a vs
theorem rows_pairs (P : Program) (w : World) {es : List DictEntry} {D : List (Str × V × Value)} (h : KTD.Rows (fun (d : V × Value) v => v = d.2) es D) (hr : ∀ p ∈ D, RelV p.2.1 p.2.2) : es.map (·.hash) = D.map (fun p => hashStr w p.1) →
    (∀ e ∈ es, ∃ k, (mixKind P w).is k e.key = true ∧ e.hash = (mixKind P w).hash k) ∧ Pairs (mixKind P w) es (D.map fun p => ((.inr p.1 : Key), p.2.2)) ∧ KV (D.map fun p => ((.inr p.1 : Key), p.2.1)) (D.map fun p => ((.inr p.1 : Key), p.2.2)) := by
  induction h with
  | nil => exact fun _ => ⟨(fun _ h => nomatch h), .nil, .nil⟩
  | @cons e x t d es D hkey hv _ ih =>
    intro hh
    simp only [List.map_cons, List.cons.injEq] at hh
    obtain ⟨h1, h2, h3⟩ := ih (fun p hp => hr p (List.mem_cons_of_mem _ hp)) hh.2
    have hi : (mixKind P w).is (.inr x : Key) e.key = true := by rw [hkey]; exact mixKind_str P w x t
    refine ⟨fun e' he' => ?_, .cons hi hv h2, .cons ⟨rfl, hr (x, d) (List.mem_cons_self ..)⟩ h3⟩
    rcases List.mem_cons.mp he' with he' | he'
    · rw [he']; exact ⟨.inr x, hi, hh.1⟩
    · exact h1 e' he'
theorem kdct_of {K : PySem.W.Frag} {w : World} {a : Addr} {D : List (Str × V × Value)} (hr : ∀ p ∈ D, RelV p.2.1 p.2.2) (hl : KTD.tabLook (fun (d : V × Value) v => v == d.2) (fun b => K.lookup b) a D = true) (hn : (D.map (·.1)).Nodup)
    (hh : KTD.hashesOf (fun b => K.lookup b) a = D.map fun p => hashStr w p.1) : KDct K w a (D.map fun p => (.inr p.1, p.2.1)) := by
  simp only [KTD.tabLook, Bool.and_eq_true] at hl
  obtain ⟨h0, hl⟩ := hl
  refine ⟨by simpa using h0, fun P h hK => ?_⟩
  split at hl
  · rename_i o ho
    simp only [Bool.and_eq_true] at hl
    obtain ⟨⟨⟨e1, e2⟩, e3⟩, e4⟩ := hl
    split at e4
    · rename_i es ep hd
      have hh' : es.toList.map (·.hash) = D.map fun p => hashStr w p.1 := by
        rw [← hh]; unfold KTD.hashesOf; simp only [ho, hd]
      obtain ⟨hk, hp, hf⟩ := rows_pairs P w (KTD.rows_of_look (R := fun (d : V × Value) v => v = d.2) (fun d v e => beq_iff_eq.mp e) e4) hr hh'
      refine ⟨_, hf, o, es, ep, hK _ _ ho, ⟨beq_iff_eq.mp e1, by simpa using e2, by simpa using e3⟩, hd, fun e he => hk e (by simpa using he), hp, ?_⟩
      rw [List.map_map]
      have : (D.map ((fun (x : Key × Value) => x.1) ∘ fun p => ((.inr p.1 : Key), p.2.2))) = (D.map (·.1)).map (Sum.inr : Str → Key) := by rw [List.map_map]; rfl
      rw [this]
      exact hn.map _ (fun a b hab e => hab (Sum.inr.inj e))
    · cases e4
  · cases hl
section
variable {X : Cx}
noncomputable def rInK (K : PySem.W.Frag) (w : World) (neg : Bool) : R2 := fun x y H Q => ∃ (z : Str) (a : Addr) (kvs : List (Key × V)), x = .str z ∧ y = .ref a ∧ KDct K w a kvs ∧ Q (.bl (if neg then !(valV kvs (.inr z)).isSome else (valV kvs (.inr z)).isSome)) H
theorem op_notInK : OpR X (compareOp .NotIn) (rInK X.K X.w true) := by
  intro pins s σ H x y v u Q I rx ry h
  obtain ⟨z, a, kvs, rfl, rfl, ⟨hd, kd⟩, q⟩ := h
  cases ry
  obtain ⟨vs, rel, dd⟩ := kd X.prog s.heap I.kIn
  refine wpAny_notIn_of (kV_is (k := .inr z) rx) hd dd.mapOf ?_
  rw [← (rel.val (.inr z)).isSome_eq]
  exact ⟨.bl _, H, I.tok _, rfl, q⟩
noncomputable def tDGetK (K : PySem.W.Frag) (w : World) (td ty tx : TE) : TE := fun σ H Q => td σ H fun x H1 => ∃ (a : Addr) (kvs : List (Key × V)), x = .ref a ∧ KDct K w a kvs ∧ ty σ H1 fun y H2 => tx σ H2 fun z H3 => ∃ k : Str, y = .str k ∧ Q ((valV kvs (.inr k)).getD z) H3
theorem pe_dgetK {o e f : Expr} {apos cpos : Pos} {td ty tx : TE} (ho : PE X o td) (he : PE X e ty) (hf : PE X f tx) (m : M2 X o "get" apos e f cpos) : PE X (.Call (.Attribute o "get" apos) [e, f] [] cpos) (tDGetK X.K X.w td ty tx) := by
  intro pins s σ H Q I h
  refine wpAny_Call_method m.base m.few m.line PySem.F.plainAttrs_dict PySem.F.slot_dict_get PySem.F.type_dict_get (thn (ho pins s σ H _ I h) fun u s1 ⟨x, H1, I1, rx, a, kvs, ex, ⟨hd, kd⟩, q1⟩ => ?_)
  subst ex
  obtain rfl : u = Value.ref a := rx
  obtain ⟨vs1, _, dd1⟩ := kd X.prog s1.heap I1.kIn
  refine ⟨dd1.typeIs, fun b q => ?_, ?_⟩
  · cases q
    obtain ⟨ob, _, _, h1, h2, _⟩ := dd1
    exact ⟨ob, h1, h2.2.1⟩
  rw [m.trees]
  refine Calls.callWith_builtin rfl (Calls.evalArgs_plain (Calls.spliced_cons (thn (he pins s1 σ H1 _ I1 q1) fun iv s2 ⟨y, H2, I2, ry, q2⟩ =>
    Calls.spliced_cons (thn (hf pins s2 σ H2 _ I2 q2) fun fv s3 ⟨z, H3, I3, rz, k, ek, q3⟩ => Calls.spliced_nil ?_))))
  subst ek
  obtain ⟨vs, rel, dd⟩ := kd X.prog s3.heap I3.kIn
  refine call_meetsIn PySem.F.slot_dict_get dd.typeIs PySem.F.entry_dict_get (PySem.F.args_dict_get_3 _ _ _) (meets_dict_get_default (mixKind X.prog X.w) a (kV_is (k := .inr k) ry) hd fv) ⟨_, dd.mapOf, ?_⟩
  exact ⟨_, H3, I3.tok _, (rel.val (.inr k)).getD rz, q3⟩
end
end L2
namespace Lw
open PySem L2
noncomputable def sideS : List Str := ["in", "out"]
noncomputable def countsOf (z : Str) : Option (List Int) :=
  if z = "and" ∨ z = "or" ∨ z = "odd" then some [2, 3] else if z = "most" then some [3] else if z = "not" then some [1] else if z = "one" ∨ z = "nil" then some [0] else none
structure Tops (K : PySem.W.Frag) (w : World) (mg : Str → Option Value) : Prop where
  lets : ∃ t, mg "LETTERS" = some (.str lettersS t)
  long : ∃ t, mg "LONGEST_NAME" = some (.int 8 t)
  side : ∃ a, mg "SIDE_WORDS" = some (.ref a) ∧ ∀ H, SqT K H a (sideS.map V.str)
  cnt : ∃ a kvs, mg "NAME_COUNTS" = some (.ref a) ∧ KDct K w a kvs ∧ ∀ z : Str, (valV kvs (Sum.inr z) = none ∧ countsOf z = none) ∨ ∃ t ns, valV kvs (Sum.inr z) = some (.ref t) ∧ countsOf z = some ns ∧ ∀ H, SqT K H t (ns.map V.int)
  all : mg "all" = none
noncomputable def inLet (c : Nat) : Bool := !(Builtin.Str.occurrences lettersS ⟨#[c]⟩ 0 lettersS.length 1).isEmpty
noncomputable def isNm (z : Str) : Bool := z.cps.toList.all inLet && (decide ((1 : Int) ≤ z.length) && decide ((z.length : Int) ≤ 8)) && !(countsOf z).isSome && !decide (z ∈ sideS)
noncomputable def spIsName : Sp := fun vs H Q _ => ∃ z : Str, vs = [.str z] ∧ z.cps.all (· < 128) = true ∧ z.length ≤ 1000 ∧ ∀ H', Same H H' → Q (.bl (isNm z)) H'
noncomputable def spTakes : Sp := fun vs H Q _ => ∃ (z : Str) (n : Int), vs = [.str z, .int n] ∧ ∀ H', Same H H' → Q (.bl (decide (n ∈ (countsOf z).getD []))) H'
theorem signs_map (z : Str) : ∀ (f : V → V), (∀ c, f (.str ⟨#[c]⟩) = .bl (inLet c)) → (signsV z).map f = (z.cps.toList.map inLet).map V.bl := by
  intro f hf
  unfold signsV
  rw [List.map_map, List.map_map]
  refine List.map_congr_left fun c _ => hf c
noncomputable def fLet : V → V
  | .str x => .bl (!(Builtin.Str.occurrences lettersS x 0 lettersS.length 1).isEmpty)
  | v => v
section
variable {P : Program} {w : World} {K : PySem.W.Frag} {mg : Str → Option Value} {base : Heap}
theorem scIsName : FnScope ["text"] ["text"] (defScope sIsName) := ⟨rfl, rfl, rfl, by decide +kernel, rfl, by decide +kernel, by decide +kernel⟩
set_option maxHeartbeats 2000000 in
theorem ok_isName {f : Addr} {fd : FuncData} (F : Fun K "is_name" "is_name" sIsName f fd) (T : Txt mg) (O : Tops K w mg) : FnOk P w K mg base CX0 1 f fd ["text"] spIsName := by
  refine F.ok scIsName (fun vs H Q E h => ?_) (fun cdv A outer s H vs Q E hr h => ?_)
  · obtain ⟨z, rfl, _⟩ := h
    rfl
  · obtain ⟨z, rfl, ha, hl, k⟩ := h
    obtain ⟨tl, el⟩ := O.lets
    obtain ⟨t8, e8⟩ := O.long
    obtain ⟨sa, es, hs⟩ := O.side
    obtain ⟨ca, kvs, ec, kd, hc⟩ := O.cnt
    have rl : RelV (.str lettersS) (.str lettersS tl) := ⟨tl, rfl⟩
    have r8 : RelV (.int 8) (.int 8 t8) := ⟨t8, rfl⟩
    have rs : RelV (.ref sa) (.ref sa) := rfl
    have rc : RelV (.ref ca) (.ref ca) := rfl
    refine ⟨_, pss_cons (ps_if (pt_not (pt_val (pe_callB (call_all rfl) (by rfl) O.all PyProof.Rows.boot_all (pa_c (pe_lc ["sign"] [] [] rfl (pi_str (pv 0)) rfl rfl (fun s₀ H₀ C cl fp => pg_name (i := 0) (nd1 _) rfl (Or.inl rfl)) (fun s₀ H₀ C cl fp => pifs_nil)
        (fun s₀ H₀ C cl fp => pe_cmpR op_in_str (pv 0) (pe_glob (by rfl) el rl) rfl)) pa_nil)))) (pss_one (ps_ret pe_bl)) pss_nil)
      (pss_one (ps_ret (pe_and (pe_chain op_le op_le pe_int (pe_callB call_len_str (by rfl) T.len PySem.boot_len (pa_c (pv 0) pa_nil)) (pe_glob (by rfl) e8 r8)) (pe_and (pe_cmpR op_notInK (pv 0) (pe_glob (by rfl) ec rc) rfl) (pe_one (pe_cmpR op_notIn_seq (pv 0) (pe_glob (by rfl) es rs) rfl)))))), ?_⟩
    refine ⟨_, rfl, z, rfl, ha, fun D0 nD0 => ?_⟩
    have s1 : Same H (upd H D0 (.lst ((signsV z).map fLet))) := Same.new nD0
    refine lcMap yields_str fLet nD0 (fun _ _ => True.intro) ?_ ?_ ?_
    · unfold signsV; rw [List.length_map, str_len_list]; exact hl
    · rintro i x H2 kk hx sm q
      obtain ⟨c, rfl⟩ : ∃ c, x = V.str ⟨#[c]⟩ := by
        unfold signsV at hx
        rw [List.getElem?_map] at hx
        cases e : z.cps.toList[i]? with
        | none => rw [e] at hx; cases hx
        | some c => rw [e] at hx; exact ⟨c, (Option.some.inj hx).symm⟩
      exact ⟨_, rfl, _, _, rfl, rfl, q⟩
    · have em := signs_map z fLet fun c => rfl
      refine ⟨D0, z.cps.toList.map inLet, rfl, SqL.of (by rw [upd_same, em]), _, rfl, ?_⟩
      have eall : (z.cps.toList.map inLet).all id = z.cps.toList.all inLet := by rw [List.all_map]; rfl
      rw [eall]
      refine ite2 (fun h => ?_) (fun h => ?_)
      · have h0 : z.cps.toList.all inLet = false := by simpa using h
        refine (?_ : Q _ _)
        have := k _ s1
        unfold isNm at this
        rw [h0] at this
        simpa using this
      · have h0 : z.cps.toList.all inLet = true := by simpa using h
        have hz : z.length ≤ sizeLine := small_size hl
        have fin : ∀ b, b = ((decide ((1 : Int) ≤ z.length) && decide ((z.length : Int) ≤ 8)) && !(countsOf z).isSome && !decide (z ∈ sideS)) → Q (.bl b) (upd H D0 (.lst ((signsV z).map fLet))) := by
          intro b eb
          have := k _ s1
          unfold isNm at this
          rw [h0, Bool.true_and] at this
          rw [eb]
          exact this
        have hcs : (valV kvs (Sum.inr z)).isSome = (countsOf z).isSome := by
          rcases hc z with ⟨e1, e2⟩ | ⟨t, ns, e1, e2, _⟩ <;> rw [e1, e2] <;> rfl
        refine ⟨_, rfl, z, rfl, hz, _, _, rfl, rfl, _, rfl, ?_⟩
        have tail : ∀ c : Bool, c = (decide ((1 : Int) ≤ z.length) && decide ((z.length : Int) ≤ 8)) → (if c = true then
            tAndV (tOp (rInK K w true) (tVar 0) (tC (V.ref ca))) (tOp (rIn K true) (tVar 0) (tC (V.ref sa))) (L2.start ["text"] [V.str z]) (upd H D0 (.lst ((signsV z).map fLet))) Q else Q (.bl false) (upd H D0 (.lst ((signsV z).map fLet)))) := by
          intro c ec
          refine ite2 (fun h1 => ?_) (fun h1 => ?_)
          · refine ⟨_, rfl, z, ca, kvs, rfl, rfl, kd, _, rfl, ?_⟩
            rw [hcs]
            refine ite2 (fun h2 => ?_) (fun h2 => ?_)
            · refine ⟨_, rfl, sa, _, rfl, .inr (hs _), rfl, flat_strs _, ?_⟩
              refine fin _ ?_
              rw [inV_str, ← ec, h1]
              have h2' : (!(countsOf z).isSome) = true := h2
              rw [h2']
              rfl
            · refine fin _ ?_
              have h2' : (!(countsOf z).isSome) = false := Bool.eq_false_iff.mpr h2
              rw [h2']; simp
          · refine fin _ ?_
            rw [← ec]
            have : c = false := by simpa using h1
            rw [this]; simp
        refine ite2 (fun h1 => ?_) (fun h1 => ?_)
        · refine ⟨_, _, rfl, rfl, _, rfl, tail _ ?_⟩
          rw [h1, Bool.true_and]
        · refine ⟨_, rfl, tail _ ?_⟩
          have : decide ((1 : Int) ≤ (z.length : Int)) = false := by simpa using h1
          rw [this]; rfl
theorem scTakes : FnScope ["word", "count"] ["word", "count"] (defScope sTakes) := ⟨rfl, rfl, rfl, by decide +kernel, rfl, by decide +kernel, by decide +kernel⟩
theorem inV_int (n : Int) (ns : List Int) : inV (.int n) (ns.map V.int) = decide (n ∈ ns) := by
  unfold inV
  induction ns with
  | nil => rfl
  | cons y r ih =>
    rw [List.map_cons, List.any_cons, ih]
    have : eqV (V.int y) (V.int n) = decide (y = n) := by
      simp only [eqV]
      exact Bool.beq_eq_decide_eq y n
    rw [this]
    by_cases h : n = y
    · subst h; simp
    · have h' : ¬ y = n := fun e => h e.symm
      simp [h, h']
theorem flat_ints (ys : List Int) : (ys.map V.int).all flatV = true := by
  rw [List.all_eq_true]
  intro v hv
  obtain ⟨y, _, rfl⟩ := List.mem_map.mp hv
  rfl
set_option maxHeartbeats 2000000 in
theorem ok_takes {f : Addr} {fd : FuncData} (F : Fun K "word_takes" "word_takes" sTakes f fd) (T : Txt mg) (O : Tops K w mg) : FnOk P w K mg base CX0 1 f fd ["word", "count"] spTakes := by
  refine F.ok scTakes (fun vs H Q E h => ?_) (fun cdv A outer s H vs Q E hr h => ?_)
  · obtain ⟨z, n, rfl, _⟩ := h
    rfl
  · obtain ⟨z, n, rfl, k⟩ := h
    obtain ⟨ca, kvs, ec, kd, hc⟩ := O.cnt
    have rc : RelV (.ref ca) (.ref ca) := rfl
    refine ⟨_, pss_one (ps_ret (pe_cmpR op_in_seq (pv 1) (pe_dgetK (pe_glob (by rfl) ec rc) (pv 0) (pe_tup pa_nil) ⟨rfl, rfl, rfl, rfl⟩) rfl)), ?_⟩
    refine ⟨_, rfl, ca, kvs, rfl, kd, _, rfl, Nat.zero_le _, fun p np => ⟨z, rfl, ?_⟩⟩
    have s1 : Same H (upd H p (.tup [])) := Same.new np
    rcases hc z with ⟨e1, e2⟩ | ⟨t, ns, e1, e2, hS⟩
    · rw [e1]
      refine ⟨p, [], rfl, .inr (.inl (.inl upd_same)), rfl, rfl, ?_⟩
      have := k _ s1
      rw [e2] at this
      simpa [inV] using this
    · rw [e1]
      refine ⟨t, _, rfl, .inr (hS _), rfl, flat_ints ns, ?_⟩
      have := k _ s1
      rw [e2] at this
      rw [inV_int]
      exact this
end
end Lw
namespace Lw
open PySem L2
theorem cons_free {α : Type} {c : α} : ∀ {a b x y : List α}, c ∉ a → c ∉ b → a ++ c :: x = b ++ c :: y → a = b ∧ x = y
  | [], [], x, y, _, _, h => ⟨rfl, (List.cons.inj h).2⟩
  | [], b :: bs, x, y, _, hb, h => by have := (List.cons.inj h).1; exact absurd (this ▸ List.mem_cons_self) hb
  | a :: as, [], x, y, ha, _, h => by have := (List.cons.inj h).1; exact absurd (this ▸ List.mem_cons_self) ha
  | a :: as, b :: bs, x, y, ha, hb, h => by
    obtain ⟨h1, h2⟩ := List.cons.inj h
    obtain ⟨e1, e2⟩ := cons_free (fun z => ha (List.mem_cons_of_mem _ z)) (fun z => hb (List.mem_cons_of_mem _ z)) h2
    exact ⟨by rw [h1, e1], e2⟩
theorem join_cons (sep x y : Str) (r : List Str) : (Str.join sep (x :: y :: r)).cps.toList = x.cps.toList ++ (sep.cps.toList ++ (Str.join sep (y :: r)).cps.toList) := by
  show (x ++ sep ++ Str.join sep (y :: r)).cps.toList = _
  rw [app_list, app_list, List.append_assoc]
theorem join_inj (c : Nat) : ∀ {ys zs : List Str}, ys ≠ [] → zs ≠ [] → (∀ y ∈ ys, c ∉ y.cps.toList) → (∀ z ∈ zs, c ∉ z.cps.toList) → Str.join ⟨#[c]⟩ ys = Str.join ⟨#[c]⟩ zs → ys = zs
  | [], _, h, _, _, _, _ => absurd rfl h
  | _, [], _, h, _, _, _ => absurd rfl h
  | [y], [z], _, _, _, _, e => by rw [show y = z from e]
  | [y], z :: z2 :: r, _, _, hy, _, e => by
    have e' := congrArg (fun s : Str => s.cps.toList) e
    have : c ∈ y.cps.toList := by
      have e2 : y.cps.toList = (Str.join ⟨#[c]⟩ (z :: z2 :: r)).cps.toList := e'
      rw [e2, join_cons]; simp
    exact absurd this (hy y List.mem_cons_self)
  | y :: y2 :: r, [z], _, _, _, hz, e => by
    have e' := congrArg (fun s : Str => s.cps.toList) e
    have : c ∈ z.cps.toList := by
      have e2 : (Str.join ⟨#[c]⟩ (y :: y2 :: r)).cps.toList = z.cps.toList := e'
      rw [← e2, join_cons]; simp
    exact absurd this (hz z List.mem_cons_self)
  | y :: y2 :: r, z :: z2 :: q, _, _, hy, hz, e => by
    have e' := congrArg (fun s : Str => s.cps.toList) e
    have e2 : (Str.join ⟨#[c]⟩ (y :: y2 :: r)).cps.toList = (Str.join ⟨#[c]⟩ (z :: z2 :: q)).cps.toList := e'
    rw [join_cons, join_cons] at e2
    obtain ⟨e3, e4⟩ := cons_free (hy y List.mem_cons_self) (hz z List.mem_cons_self) e2
    have := join_inj c (ys := y2 :: r) (zs := z2 :: q) (by simp) (by simp) (fun x hx => hy x (List.mem_cons_of_mem _ hx)) (fun x hx => hz x (List.mem_cons_of_mem _ hx)) (str_ext e4)
    rw [str_ext e3, this]
theorem split_join (c : Nat) {ys : List Str} (h : ys ≠ []) (hf : ∀ y ∈ ys, c ∉ y.cps.toList) : Txt.split (Str.join ⟨#[c]⟩ ys) ⟨#[c]⟩ = ys := by
  refine join_inj c ?_ h (StrLaws.split_free _ c) hf (StrLaws.join_split _ _)
  intro e
  have := PyProof.Rows.split_pos (Str.join ⟨#[c]⟩ ys) ⟨#[c]⟩
  rw [e] at this
  simp at this
noncomputable def rowsOf (C : Cel) : List (List Str) := (("in" : Str) :: C.ins) :: (C.gates.map (fun g => g.1 :: g.2.1 :: g.2.2) ++ [("out" : Str) :: C.outs])
noncomputable def spS : Str := " "
noncomputable def nlS : Str := "\n"
noncomputable def textOf (C : Cel) : Str := Str.join nlS ((rowsOf C).map (Str.join spS))
theorem nlS_eq : nlS = ⟨#[10]⟩ := by decide +kernel
theorem spS_eq : spS = ⟨#[32]⟩ := by decide +kernel
theorem word_ls {w : Str} {n : Nat} (h : ArOk w n) : LS 1 8 w := by
  rcases h.ok with ⟨h, _⟩ | ⟨h, _⟩ | ⟨h, _⟩ | ⟨h, _⟩ | ⟨h, _⟩
  · unfold two3 at h
    simp only [List.mem_cons, List.not_mem_nil, or_false] at h
    rcases h with rfl | rfl | rfl <;> exact LS.of (by decide +kernel)
  all_goals (subst h; exact LS.of (by decide +kernel))
theorem gates_ls : ∀ {gs : List (Str × Str × List Str)} {kn : List Str}, GatesOk kn gs → (∀ x ∈ kn, LS 1 8 x) → (∀ g ∈ gs, LS 1 8 g.1) → ∀ g ∈ gs, LS 1 8 g.2.1 ∧ (∀ p ∈ g.2.2, LS 1 8 p) ∧ g.2.2.length ≤ 3
  | [], _, _, _, _, g, hg => nomatch hg
  | a :: r, kn, h, hk, hn, g, hg => by
    rcases List.mem_cons.mp hg with rfl | hg
    · refine ⟨word_ls h.1, fun p hp => hk p (h.2.1 p hp), ?_⟩
      rcases h.1.ok with ⟨_, h | h⟩ | ⟨_, h⟩ | ⟨_, h⟩ | ⟨_, h⟩ | ⟨_, h⟩ <;> omega
    · refine gates_ls h.2.2 (fun x hx => ?_) (fun g hg => hn g (List.mem_cons_of_mem _ hg)) g hg
      rcases List.mem_append.mp hx with hx | hx
      · exact hk x hx
      · rw [List.mem_singleton.mp hx]; exact hn a List.mem_cons_self
theorem rows_ls {C : Cel} (G : Good C) : ∀ r ∈ rowsOf C, r ≠ [] ∧ r.length ≤ 7 ∧ ∀ x ∈ r, LS 1 8 x := by
  have hi : ∀ x ∈ C.ins, LS 1 8 x := fun x hx => (G.nm x (List.mem_append_left _ hx)).ls
  have hg : ∀ g ∈ C.gates, LS 1 8 g.1 := fun g hg => (G.nm g.1 (List.mem_append_right _ (List.mem_map.mpr ⟨g, hg, rfl⟩))).ls
  intro r hr
  unfold rowsOf at hr
  rcases List.mem_cons.mp hr with rfl | hr
  · refine ⟨by simp, by have := G.li; simp; omega, fun x hx => ?_⟩
    rcases List.mem_cons.mp hx with rfl | hx
    · exact LS.of (by decide +kernel)
    · exact hi x hx
  rcases List.mem_append.mp hr with hr | hr
  · obtain ⟨g, hgm, rfl⟩ := List.mem_map.mp hr
    obtain ⟨h1, h2, h3⟩ := gates_ls G.gt hi hg g hgm
    refine ⟨by simp, by simp; omega, fun x hx => ?_⟩
    rcases List.mem_cons.mp hx with rfl | hx
    · exact hg g hgm
    rcases List.mem_cons.mp hx with rfl | hx
    · exact h1
    · exact h2 x hx
  · rw [List.mem_singleton.mp hr]
    refine ⟨by simp, by have := G.lo; simp; omega, fun x hx => ?_⟩
    rcases List.mem_cons.mp hx with rfl | hx
    · exact LS.of (by decide +kernel)
    · exact (G.nm x (G.os x hx)).ls
theorem LS.free {n m c : Nat} {x : Str} (h : LS n m x) (hc : c < 97) : c ∉ x.cps.toList := fun z => by have := (h.az c z).1; omega
theorem split_row {C : Cel} (G : Good C) : ∀ r ∈ rowsOf C, Txt.split (Str.join spS r) spS = r := fun r hr => by
  obtain ⟨h1, _, h2⟩ := rows_ls G r hr
  rw [spS_eq]
  exact split_join 32 h1 fun y hy => (h2 y hy).free (by decide)
theorem join_free {c : Nat} {sep : Str} (hs : c ∉ sep.cps.toList) : ∀ {ys : List Str}, (∀ y ∈ ys, c ∉ y.cps.toList) → c ∉ (Str.join sep ys).cps.toList
  | [], _ => fun z => nomatch z
  | [y], h => h y List.mem_cons_self
  | y :: y2 :: r, h => fun z => by
    rw [join_cons] at z
    rcases List.mem_append.mp z with z | z
    · exact h y List.mem_cons_self z
    rcases List.mem_append.mp z with z | z
    · exact hs z
    · exact join_free hs (fun x hx => h x (List.mem_cons_of_mem _ hx)) z
theorem split_text {C : Cel} (G : Good C) : Txt.split (textOf C) nlS = (rowsOf C).map (Str.join spS) := by
  unfold textOf
  rw [nlS_eq]
  refine split_join 10 (by simp [rowsOf]) fun y hy => ?_
  obtain ⟨r, hr, rfl⟩ := List.mem_map.mp hy
  exact join_free (by decide +kernel) fun x hx => ((rows_ls G r hr).2.2 x hx).free (by decide)
theorem row_len {C : Cel} (G : Good C) : ∀ r ∈ rowsOf C, (Str.join spS r).length ≤ 100 := fun r hr => by
  obtain ⟨_, h1, h2⟩ := rows_ls G r hr
  have e1 := StrLaws.join_length_le spS r
  have e2 := map_len_le (fun y hy => (h2 y hy).hi) h1
  have e3 : spS.length = 1 := by decide +kernel
  rw [e3] at e1
  omega
theorem rows_many {C : Cel} (G : Good C) : (rowsOf C).length ≤ 26 := by
  have := G.lg
  unfold rowsOf
  simp
  omega
theorem text_len {C : Cel} (G : Good C) : (textOf C).length ≤ 10000 := by
  have e1 := StrLaws.join_length_le nlS ((rowsOf C).map (Str.join spS))
  have e2 := map_len_le (ys := (rowsOf C).map (Str.join spS)) (n := 26) (m := 100) (fun y hy => by obtain ⟨r, hr, rfl⟩ := List.mem_map.mp hy; exact row_len G r hr) (by rw [List.length_map]; exact rows_many G)
  have e3 : nlS.length = 1 := by decide +kernel
  have e4 := rows_many G
  rw [e3, List.length_map] at e1
  unfold textOf
  omega
theorem let_in : ∀ k < 26, inLet (97 + k) = true := by decide +kernel
theorem inLet_of {c : Nat} (h : 97 ≤ c ∧ c ≤ 122) : inLet c = true := by
  have := let_in (c - 97) (by omega)
  rwa [show 97 + (c - 97) = c by omega] at this
theorem isNm_good {x : Str} (h : GoodName x) : isNm x = true := by
  unfold isNm
  have h1 : x.cps.toList.all inLet = true := List.all_eq_true.mpr fun c hc => inLet_of (h.ls.az c hc)
  have h2 := h.ls.lo
  have h3 := h.ls.hi
  have nk := h.nk
  unfold keptS at nk
  simp only [List.mem_cons, List.not_mem_nil, or_false, not_or] at nk
  obtain ⟨n1, n2, n3, n4, n5, n6, n7, n8, n9⟩ := nk
  have h4 : countsOf x = none := by unfold countsOf; simp [n1, n2, n3, n4, n5, n6, n7]
  have h5 : decide (x ∈ sideS) = false := by unfold sideS; simp [n8, n9]
  have h6 : decide ((1 : Int) ≤ (x.length : Int)) = true := decide_eq_true (by omega)
  have h7 : decide ((x.length : Int) ≤ 8) = true := decide_eq_true (by omega)
  rw [h1, h4, h5, h6, h7]
  rfl
theorem counts_of {w : Str} {n : Nat} (h : ArOk w n) : decide ((n : Int) ∈ (countsOf w).getD []) = true := by
  rcases h.ok with ⟨h, e⟩ | ⟨h, e⟩ | ⟨h, e⟩ | ⟨h, e⟩ | ⟨h, e⟩
  · unfold two3 at h
    simp only [List.mem_cons, List.not_mem_nil, or_false] at h
    have : countsOf w = some [2, 3] := by unfold countsOf; rw [if_pos (by rcases h with h | h | h <;> simp [h])]
    rw [this]
    rcases e with rfl | rfl <;> decide
  all_goals (subst h e; decide +kernel)
theorem LS.ascii {n m : Nat} {x : Str} (h : LS n m x) : x.cps.all (· < 128) = true := by
  rw [← Array.all_toList, List.all_eq_true]
  intro c hc
  have := h.az c hc
  exact decide_eq_true (by omega)
end Lw
namespace Lw
open PySem L2
theorem lcGrow {J : It} {xs : List V} {R : Hp → Prop} {nm : Str} {caps : List Nat} {te : TE} {σ : St} {H1 : Hp} {Q : VK} {D : Addr} (Y : Yields J xs R) (f : V → V) (nD : H1 D = none) (hR : ∀ H, Same H1 H → R H) (hl : xs.length ≤ 1000)
    (hs : ∀ (i : Nat) x H (k : VK), xs[i]? = some x → Same H1 H → (∀ H', Same H H' → k (f x) H') → te (some x :: caps.map (fun i => (σ[i]?).join)) H k)
    (hd : ∀ H, Same H1 H → H D = some (.lst (xs.map f)) → Q (.ref D) H) : LCW [nm] caps J (gName 0) tYes te σ H1 Q D := by
  refine lc1y Y (fun i ys H => i ≤ xs.length ∧ ys = (xs.take i).map f ∧ Same H1 H ∧ H D = some (.lst ys)) ⟨Nat.zero_le _, by simp, Same.new nD, upd_same⟩ (fun i ys H _ p => hR H p.2.2.1) ?_ ?_
  · rintro i x ys H hx ⟨hi, rfl, sm, hD⟩
    have hlt := (List.getElem?_eq_some_iff.mp hx).1
    have et : xs.take (i + 1) = xs.take i ++ [x] := by rw [List.take_add_one, hx]; rfl
    refine hs i x _ _ hx sm fun H' sm' => ⟨⟨_, rfl⟩, sm' _ _ hD, ?_, hlt, ?_, ?_, upd_same⟩
    · rw [List.length_map, List.length_take]; exact Nat.lt_of_le_of_lt (show min i xs.length ≤ 1000 by omega) (by decide)
    · rw [et, List.map_append]; rfl
    · intro b u e
      rw [upd_ne (ne_of_none e nD)]
      exact sm' _ _ (sm b u e)
  · rintro ys H ⟨_, rfl, sm, hD⟩
    rw [List.take_of_length_le (Nat.le_refl _)] at hD
    exact hd H sm hD
theorem at0 (x : V) (xs : List V) : atI (x :: xs) 0 = some x := atI_nat (xs := x :: xs) (j := 0) rfl
theorem at1 (x y : V) (xs : List V) : atI (x :: y :: xs) 1 = some y := atI_nat (xs := x :: y :: xs) (j := 1) rfl
noncomputable def fNm : V → V
  | .str x => .bl (isNm x)
  | v => v
noncomputable def fKn (kn : List Str) : V → V
  | .str x => .bl (decide (x ∈ kn))
  | v => v
noncomputable def allIn (ns kn : List Str) : Bool := ns.all fun x => decide (x ∈ kn)
noncomputable def spKnown (K : PySem.W.Frag) : Sp := fun vs H Q _ => ∃ (a b : Addr) (ns kn : List Str), vs = [.ref a, .ref b] ∧ SqL K H a (ns.map V.str) ∧ SqL K H b (kn.map V.str) ∧ ns.length ≤ 1000 ∧ ∀ H', Same H H' → Q (.bl (allIn ns kn)) H'
noncomputable def Asc (x : Str) : Prop := x.cps.all (· < 128) = true ∧ x.length ≤ 1000
noncomputable def insOk : List Str → Bool
  | [] => false
  | x :: ns => decide (x = "in") && ns.all isNm && decide ns.Nodup
noncomputable def spAreIn (K : PySem.W.Frag) : Sp := fun vs H Q _ => ∃ (a : Addr) (ws : List Str), vs = [.ref a] ∧ SqL K H a (ws.map V.str) ∧ ws ≠ [] ∧ ws.length ≤ 1000 ∧ (∀ x ∈ ws, Asc x) ∧ ∀ H', Same H H' → Q (.bl (insOk ws)) H'
noncomputable def gateOk (ws kn : List Str) : Bool :=
  match ws with
  | x :: y :: ns => isNm x && !decide (x ∈ kn) && decide ((ns.length : Int) ∈ (countsOf y).getD []) && allIn ns kn
  | _ => false
noncomputable def spIsGate (K : PySem.W.Frag) : Sp := fun vs H Q _ => ∃ (a b : Addr) (ws kn : List Str), vs = [.ref a, .ref b] ∧ SqL K H a (ws.map V.str) ∧ SqL K H b (kn.map V.str) ∧ ws ≠ [] ∧ ws.length ≤ 1000 ∧ (∀ x ∈ ws, Asc x) ∧ ∀ H', Same H H' → Q (.bl (gateOk ws kn)) H'
noncomputable def spOnce (K : PySem.W.Frag) : Sp := fun vs H Q _ => ∃ (a : Addr) (ns : List Str), vs = [.ref a] ∧ SqL K H a (ns.map V.str) ∧ ns.length ≤ 1000 ∧ ∀ H', Same H H' → Q (.bl (decide ns.Nodup)) H'
theorem str_item1 {xs : List Str} {i : Nat} {x : V} (h : (xs.map V.str)[i]? = some x) : ∃ y, xs[i]? = some y ∧ V.str y = x := by
  rw [List.getElem?_map] at h
  cases e : xs[i]? with
  | none => rw [e] at h; cases h
  | some y => rw [e] at h; exact ⟨y, rfl, Option.some.inj h⟩
section
variable {P : Program} {w : World} {K : PySem.W.Frag} {mg : Str → Option Value} {base : Heap}
theorem scKnown : FnScope ["names", "known"] ["names", "known"] (defScope sKnown) := ⟨rfl, rfl, rfl, by decide +kernel, rfl, by decide +kernel, by decide +kernel⟩
theorem ndNK : (["name", "known"] : List Str).Nodup := by decide +kernel
set_option maxHeartbeats 2000000 in
theorem ok_known {f : Addr} {fd : FuncData} (F : Fun K "are_known" "are_known" sKnown f fd) (O : Tops K w mg) : FnOk P w K mg base CX0 1 f fd ["names", "known"] (spKnown K) := by
  refine F.ok scKnown (fun vs H Q E h => ?_) (fun cdv A outer s H vs Q E hr h => ?_)
  · obtain ⟨a, b, ns, kn, rfl, _⟩ := h
    rfl
  · obtain ⟨a, b, ns, kn, rfl, ha, hb, hl, k⟩ := h
    refine ⟨_, pss_one (ps_ret (pe_callB (call_all rfl) (by rfl) O.all PyProof.Rows.boot_all (pa_c (pe_lc ["name"] ["known"] [1] rfl (pi_list (pv 0)) rfl rfl (fun s₀ H₀ C cl fp => pg_name (i := 0) ndNK rfl (Or.inl rfl)) (fun s₀ H₀ C cl fp => pifs_nil)
        (fun s₀ H₀ C cl fp => pe_cmpR (r := rIn K false) op_in_seq (pv 0) (pv 1) rfl)) pa_nil))), ?_⟩
    refine ⟨_, rfl, a, rfl, ⟨_, ha⟩, fun D0 nD0 => ?_⟩
    have s1 : Same H (upd H D0 (.lst ((ns.map V.str).map (fKn kn)))) := Same.new nD0
    refine lcMap yields_list (fKn kn) nD0 (fun H' sm => sm.seq ha) (by rw [List.length_map]; exact hl) ?_ ?_
    · rintro i x H2 kk hx sm q
      obtain ⟨y, hy, rfl⟩ := str_item1 hx
      refine ⟨_, rfl, _, rfl, b, _, rfl, .inl (sm.seq hb), rfl, flat_strs kn, ?_⟩
      rw [inV_str]
      exact q
    · have em : (ns.map V.str).map (fKn kn) = (ns.map fun x => decide (x ∈ kn)).map V.bl := by rw [List.map_map, List.map_map]; rfl
      refine ⟨D0, ns.map (fun x => decide (x ∈ kn)), rfl, SqL.of (by rw [upd_same, em]), ?_⟩
      rw [List.all_map]
      exact k _ s1
theorem scOnce : FnScope ["names"] ["names"] (defScope sOnce) := ⟨rfl, rfl, rfl, by decide +kernel, rfl, by decide +kernel, by decide +kernel⟩
set_option maxHeartbeats 2000000 in
theorem ok_once {f : Addr} {fd : FuncData} (F : Fun K "is_each_once" "is_each_once" sOnce f fd) (T : Txt mg) : FnOk P w K mg base CX0 1 f fd ["names"] (spOnce K) := by
  refine F.ok scOnce (fun vs H Q E h => ?_) (fun cdv A outer s H vs Q E hr h => ?_)
  · obtain ⟨a, ns, rfl, _⟩ := h
    rfl
  · obtain ⟨a, ns, rfl, ha, hl, k⟩ := h
    refine ⟨_, pss_one (ps_ret (pe_cmpR op_eq (pe_callB call_lenS (by rfl) T.len PySem.boot_len (pa_c (pe_callTy (call_setS rfl) (by rfl) T.set PyProof.Rows.boot_set (pa_c (pv 0) pa_nil)) pa_nil)) (pe_callB call_len_seq (by rfl) T.len PySem.boot_len (pa_c (pv 0) pa_nil)) (nomark _))), ?_⟩
    refine ⟨_, rfl, a, ns, rfl, ha, by omega, fun p np => ?_⟩
    have s1 : Same H (upd H p (SetN P w p (ddS ns).length)) := Same.new np
    refine ⟨p, _, rfl, upd_same, _, rfl, a, _, rfl, .inl (s1.seq ha), rfl, ?_⟩
    have := k _ s1
    have e : decide (V.int ((ddS ns).length : Nat) = V.int ((ns.map V.str).length : Nat)) = decide ns.Nodup := by
      rw [List.length_map]
      by_cases hn : ns.Nodup
      · rw [decide_eq_true hn, decide_eq_true]
        rw [ddS_of_nodup hn]
      · rw [decide_eq_false hn, decide_eq_false]
        intro e
        injection e with e
        exact hn (ddS_nodup (by omega))
    rw [e]
    exact this
theorem scAreIn : FnScope ["words", "names"] ["words"] (defScope sAreIn) := ⟨rfl, rfl, rfl, by decide +kernel, rfl, by decide +kernel, by decide +kernel⟩
set_option maxHeartbeats 2000000 in
theorem ok_areIn {f fN fO : Addr} {fd fdN fdO : FuncData} (F : Fun K "are_inputs" "are_inputs" sAreIn f fd) (T : Txt mg) (O : Tops K w mg) (gN : Gd K mg "is_name" sIsName ["text"] fN fdN) (gO : Gd K mg "is_each_once" sOnce ["names"] fO fdO) :
    FnOk P w K mg base CX0 2 f fd ["words"] (spAreIn K) := by
  have GN : FnOk P w K mg base CX0 1 fN fdN ["text"] spIsName := ok_isName gN.F T O
  have GO : FnOk P w K mg base CX0 1 fO fdO ["names"] (spOnce K) := ok_once gO.F T
  refine F.ok scAreIn (fun vs H Q E h => ?_) (fun cdv A outer s H vs Q E hr h => ?_)
  · obtain ⟨a, ns, rfl, _⟩ := h
    rfl
  · obtain ⟨a, ws, rfl, ha, hne, hl, hasc, k⟩ := h
    refine ex_next _ (ps_set (i := 1) scAreIn.nd rfl (Or.inl rfl) (pe_slice sl_list (pv 0) (po_some pe_int) po_none)) ?_
    refine ⟨_, rfl, _, rfl, a, _, rfl, ha, fun p np => ?_⟩
    refine ⟨_, pss_one (ps_ret (pe_and (pe_cmpR op_eq (pe_ix ix_list (pv 0) pe_int (fun _ _ => rfl)) pe_str (nomark _)) (pe_and (pe_callB (call_all rfl) (by rfl) O.all PyProof.Rows.boot_all (pa_c (pe_lc ["name"] [] [] rfl (pi_list (pv 1)) rfl rfl (fun s₀ H₀ C cl fp => pg_name (i := 0) (nd1 _) rfl (Or.inl rfl)) (fun s₀ H₀ C cl fp => pifs_nil)
        (fun s₀ H₀ C cl fp => pe_call GN hr rfl gN.m gN.k gN.b .nil pass0 (pa_c (pv 0) pa_nil))) pa_nil)) (pe_one (pe_call GO hr rfl gO.m gO.k gO.b .nil pass0 (pa_c (pv 1) pa_nil)))))), ?_⟩
    obtain ⟨x, ns, rfl⟩ : ∃ x ns, ws = x :: ns := by
      cases ws with
      | nil => exact absurd rfl hne
      | cons x ns => exact ⟨x, ns, rfl⟩
    have e1 : cutV ((x :: ns).map V.str) (some 1) none = ns.map V.str := cut_drop (x :: ns) 1
    rw [e1]
    have s1 : Same H (upd H p (.lst (ns.map V.str))) := Same.new np
    have hl' : ns.length ≤ 1000 := by rw [List.length_cons] at hl; omega
    have fin : ∀ (b : Bool) H', Same H H' → b = (decide (x = "in") && ns.all isNm && decide ns.Nodup) → Q (.bl b) H' := fun b H' sm e => by rw [e]; exact k H' sm
    refine ⟨_, rfl, a, _, _, .str x, rfl, rfl, s1.seq ha, at0 _ _, rfl, _, rfl, ?_⟩
    refine ite2 (fun h1 => ?_) (fun h1 => ?_)
    · have h1' : decide (x = "in") = true := by
        have := of_decide_eq_true h1
        injection this with this
        exact decide_eq_true this
      refine ⟨_, rfl, p, rfl, ⟨_, SqL.of upd_same⟩, fun D0 nD0 => ?_⟩
      refine lcGrow yields_list fNm nD0 (fun H' sm => SqL.of (sm _ _ upd_same)) (by rw [List.length_map]; exact hl') ?_ ?_
      · rintro i y H2 kk hx sm q
        obtain ⟨z, hz, rfl⟩ := str_item1 hx
        have az := hasc z (List.mem_cons_of_mem _ (List.mem_of_getElem? hz))
        exact ⟨_, rfl, z, rfl, az.1, az.2, q⟩
      · intro H3 sm3 hD3
        have em : (ns.map V.str).map fNm = (ns.map isNm).map V.bl := by rw [List.map_map, List.map_map]; rfl
        rw [em] at hD3
        refine ⟨D0, ns.map isNm, rfl, SqL.of hD3, _, rfl, ?_⟩
        have ea : (ns.map isNm).all id = ns.all isNm := by rw [List.all_map]; rfl
        rw [ea]
        refine ite2 (fun h2 => ?_) (fun h2 => ?_)
        · refine ⟨_, rfl, p, ns, rfl, SqL.of (sm3 _ _ upd_same), hl', fun H4 s4 => ?_⟩
          refine fin _ H4 ((s1.trans sm3).trans s4) ?_
          rw [h1', h2]; rfl
        · refine fin _ H3 (s1.trans sm3) ?_
          rw [h1', Bool.eq_false_iff.mpr h2]; rfl
    · refine fin _ _ s1 ?_
      have : decide (x = "in") = false := by
        refine decide_eq_false fun e => h1 (decide_eq_true ?_)
        rw [e]
      rw [this]; rfl
end
end Lw
namespace Lw
open PySem L2
section
variable {P : Program} {w : World} {K : PySem.W.Frag} {mg : Str → Option Value} {base : Heap}
theorem scIsGate : FnScope ["words", "known", "names"] ["words", "known"] (defScope sIsGate) := ⟨rfl, rfl, rfl, by decide +kernel, rfl, by decide +kernel, by decide +kernel⟩
set_option maxHeartbeats 2000000 in
theorem ok_isGate {f fN fT fK : Addr} {fd fdN fdT fdK : FuncData} (F : Fun K "is_gate" "is_gate" sIsGate f fd) (T : Txt mg) (O : Tops K w mg) (gN : Gd K mg "is_name" sIsName ["text"] fN fdN) (gT : Gd K mg "word_takes" sTakes ["word", "count"] fT fdT)
    (gK : Gd K mg "are_known" sKnown ["names", "known"] fK fdK) : FnOk P w K mg base CX0 2 f fd ["words", "known"] (spIsGate K) := by
  have GN : FnOk P w K mg base CX0 1 fN fdN ["text"] spIsName := ok_isName gN.F T O
  have GT : FnOk P w K mg base CX0 1 fT fdT ["word", "count"] spTakes := ok_takes gT.F T O
  have GK : FnOk P w K mg base CX0 1 fK fdK ["names", "known"] (spKnown K) := ok_known gK.F O
  refine F.ok scIsGate (fun vs H Q E h => ?_) (fun cdv A outer s H vs Q E hr h => ?_)
  · obtain ⟨a, b, ws, kn, rfl, _⟩ := h
    rfl
  · obtain ⟨a, b, ws, kn, rfl, ha, hb, hne, hl, hasc, k⟩ := h
    refine ex_next _ (ps_if (PW.pt (pw_or (pt_cmpR op_lt (pe_callB call_len_seq (by rfl) T.len PySem.boot_len (pa_c (pv 0) pa_nil)) pe_int (nomark _)) (pw_or (pt_not (pt_val (pe_call GN hr rfl gN.m gN.k gN.b .nil pass0 (pa_c (pe_ix ix_list (pv 0) pe_int (fun _ _ => rfl)) pa_nil))))
      (pw_or1 (pt_cmpR op_in_seq (pe_ix ix_list (pv 0) pe_int (fun _ _ => rfl)) (pv 1) rfl))))) (pss_one (ps_ret pe_bl)) pss_nil) ?_
    refine ⟨_, rfl, a, _, rfl, .inl ha, _, _, rfl, rfl, _, rfl, ?_⟩
    rw [List.length_map]
    cases ws with
    | nil => exact absurd rfl hne
    | cons x ws =>
    cases ws with
    | nil =>
      have c1 : decide ((([x] : List Str).length : Int) < 2) = true := rfl
      rw [c1, if_pos rfl]
      exact k _ (Same.refl H)
    | cons y ns =>
      have c1 : decide (((x :: y :: ns).length : Int) < 2) = false := decide_eq_false (by simp only [List.length_cons]; omega)
      rw [c1, if_neg Bool.false_ne_true]
      have ax := hasc x List.mem_cons_self
      have hl' : ns.length ≤ 1000 := by simp only [List.length_cons] at hl; omega
      have fin : ∀ (c : Bool) H', Same H H' → c = (isNm x && !decide (x ∈ kn) && decide ((ns.length : Int) ∈ (countsOf y).getD []) && allIn ns kn) → Q (.bl c) H' := fun c H' sm e => by rw [e]; exact k H' sm
      refine ⟨_, rfl, a, _, _, .str x, rfl, rfl, ha, at0 _ _, x, rfl, ax.1, ax.2, fun H1 s1 => ⟨_, rfl, ?_⟩⟩
      refine ite2 (fun h1 => ?_) (fun h1 => ?_)
      · refine iteT ?_
        refine fin _ H1 s1 ?_
        have : isNm x = false := by simpa using h1
        rw [this]; rfl
      have h1' : isNm x = true := by simpa using h1
      refine ⟨_, rfl, a, _, _, .str x, rfl, rfl, s1.seq ha, at0 _ _, _, rfl, b, _, rfl, .inl (s1.seq hb), rfl, flat_strs kn, _, rfl, ?_⟩
      refine ite2 (fun h2 => ?_) (fun h2 => ?_)
      · refine fin _ H1 s1 ?_
        have h2' : decide (x ∈ kn) = true := by rw [← inV_str]; exact h2
        rw [h1', h2']; rfl
      have h2' : decide (x ∈ kn) = false := by rw [← inV_str]; exact Bool.eq_false_iff.mpr h2
      refine ex_next _ (ps_set (i := 2) scIsGate.nd rfl (Or.inl rfl) (pe_slice sl_list (pv 0) (po_some pe_int) po_none)) ?_
      refine ⟨_, rfl, _, rfl, a, _, rfl, s1.seq ha, fun p np => ?_⟩
      have e1 : cutV ((x :: y :: ns).map V.str) (some 2) none = ns.map V.str := cut_drop (x :: y :: ns) 2
      rw [e1]
      have s2 : Same H (upd H1 p (.lst (ns.map V.str))) := s1.trans (Same.new np)
      refine ⟨_, pss_one (ps_ret (pe_and (pe_call GT hr rfl gT.m gT.k gT.b .nil pass0 (pa_c (pe_ix ix_list (pv 0) pe_int (fun _ _ => rfl)) (pa_c (pe_callB call_len_seq (by rfl) T.len PySem.boot_len (pa_c (pv 2) pa_nil)) pa_nil)))
        (pe_one (pe_call GK hr rfl gK.m gK.k gK.b .nil pass0 (pa_c (pv 2) (pa_c (pv 1) pa_nil)))))), ?_⟩
      refine ⟨_, rfl, a, _, _, .str y, rfl, rfl, s2.seq ha, at1 _ _ _, _, rfl, p, _, rfl, .inl (SqL.of upd_same), y, ns.length, ?_, fun H3 s3 => ⟨_, rfl, ?_⟩⟩
      · rw [List.length_map]; rfl
      refine ite2 (fun h3 => ?_) (fun h3 => ?_)
      · refine ⟨_, rfl, _, rfl, p, b, ns, kn, rfl, SqL.of (s3 _ _ upd_same), (s2.trans s3).seq hb, hl', fun H4 s4 => ?_⟩
        refine fin _ H4 ((s2.trans s3).trans s4) ?_
        rw [h1', h2', h3]; rfl
      · refine fin _ H3 (s2.trans s3) ?_
        rw [h1', h2', Bool.eq_false_iff.mpr h3]; rfl
end
end Lw
namespace Lw
open PySem L2
theorem ps_dead {X : Cx} {st : Stmt} : PS X st (fun _ _ _ => False) := fun _ _ _ _ _ _ h => h.elim
noncomputable def RowAt (H : Hp) (a : Addr) (r : List Str) : Prop := H a = some (.lst (r.map V.str))
noncomputable def spCheck (K : PySem.W.Frag) : Sp := fun vs H Q _ => ∃ (r b a : Addr) (as : List Addr) (n : Nat) (outs kn : List Str), vs = [.ref r, .int n, .ref b] ∧ SqL K H r (as.map V.ref) ∧ as[n]? = some a ∧ RowAt H a ("out" :: outs) ∧ SqL K H b (kn.map V.str) ∧
  allIn outs kn = true ∧ outs.Nodup ∧ n + 1 = as.length ∧ as.length ≤ 1000 ∧ outs.length ≤ 1000 ∧ ∀ H', Same H H' → Q .non H'
section
variable {P : Program} {w : World} {K : PySem.W.Frag} {mg : Str → Option Value} {base : Heap}
theorem scCheck : FnScope ["rows", "at", "known", "outputs"] ["rows", "at", "known"] (defScope sCheckEnd) := ⟨rfl, rfl, rfl, by decide +kernel, rfl, by decide +kernel, by decide +kernel⟩
set_option maxHeartbeats 2000000 in
theorem ok_check {f fO fK : Addr} {fd fdO fdK : FuncData} (F : Fun K "check_end" "check_end" sCheckEnd f fd) (T : Txt mg) (O : Tops K w mg) (gO : Gd K mg "is_each_once" sOnce ["names"] fO fdO)
    (gK : Gd K mg "are_known" sKnown ["names", "known"] fK fdK) : FnOk P w K mg base CX0 2 f fd ["rows", "at", "known"] (spCheck K) := by
  have GO : FnOk P w K mg base CX0 1 fO fdO ["names"] (spOnce K) := ok_once gO.F T
  have GK : FnOk P w K mg base CX0 1 fK fdK ["names", "known"] (spKnown K) := ok_known gK.F O
  refine F.ok scCheck (fun vs H Q E h => ?_) (fun cdv A outer s H vs Q E hr h => ?_)
  · obtain ⟨r, b, a, as, n, outs, kn, rfl, _⟩ := h
    rfl
  · obtain ⟨r, b, a, as, n, outs, kn, rfl, hr0, hat, ha, hb, hin, hnd, hn, hl1, hl2, k⟩ := h
    refine ex_next _ (ps_set (i := 3) scCheck.nd rfl (Or.inl rfl) (pe_slice sl_list (pe_ix ix_list (pv 0) (pv 1) (fun _ _ => rfl)) (po_some pe_int) po_none)) ?_
    refine ⟨_, rfl, _, rfl, r, _, _, .ref a, rfl, rfl, hr0, atI_nat (by rw [List.getElem?_map, hat]; rfl), _, rfl, a, _, rfl, SqL.of ha, fun p np => ?_⟩
    have e1 : cutV ((("out" : Str) :: outs).map V.str) (some 1) none = outs.map V.str := cut_drop ("out" :: outs) 1
    rw [e1]
    have s1 : Same H (upd H p (.lst (outs.map V.str))) := Same.new np
    refine ex_next _ (ps_if (PW.pt (pw_or (pt_not (pt_val (pe_call GK hr rfl gK.m gK.k gK.b .nil pass0 (pa_c (pv 3) (pa_c (pv 2) pa_nil))))) (pw_or1 (pt_not (pt_val (pe_call GO hr rfl gO.m gO.k gO.b .nil pass0 (pa_c (pv 3) pa_nil))))))) (pss_one ps_dead) pss_nil) ?_
    refine ⟨_, rfl, _, rfl, p, b, outs, kn, rfl, SqL.of upd_same, s1.seq hb, hl2, fun H2 s2 => ⟨_, rfl, ?_⟩⟩
    rw [hin]
    refine iteF ?_
    refine ⟨_, rfl, p, outs, rfl, SqL.of (s2 _ _ upd_same), hl2, fun H3 s3 => ⟨_, rfl, ?_⟩⟩
    rw [decide_eq_true hnd]
    refine iteF ?_
    have s4 := (s1.trans s2).trans s3
    refine ⟨_, pss_one (ps_if (pt_cmpR op_lt (pe_op op_add (pv 1) pe_int) (pe_callB call_len_seq (by rfl) T.len PySem.boot_len (pa_c (pv 0) pa_nil)) (nomark _)) (pss_one ps_dead) pss_nil), ?_⟩
    refine ⟨_, rfl, _, _, rfl, rfl, _, rfl, r, _, rfl, .inl (s4.seq hr0), _, _, rfl, rfl, _, rfl, ?_⟩
    have c1 : decide ((n : Int) + 1 < ((as.map V.ref).length : Int)) = false := decide_eq_false (by rw [List.length_map]; omega)
    rw [c1]
    refine iteF ?_
    exact k _ s4
end
end Lw
namespace L2
open PySem PySem.Spec PyProof.Rows
section
variable {X : Cx}
set_option maxHeartbeats 1000000 in
theorem lc_core {elt tg iter : Expr} {ifs : List Expr} {scope : Scope} {pos : Pos} {wi : TI} {g : TG} {tt : TT} {te : TE} (T capN : List Str) (caps : List Nat) (hc : X.calm = true) (hi : PI X tg iter wi)
    (hk : scope.kind = .function) (ho : lcOk X.N X.env.kindOf scope T capN caps = true)
    (hg : ∀ s₀ H₀ C cl fp, PG (lcx X (T ++ capN) scope cl C s₀ H₀ fp) tg g)
    (ht : ∀ s₀ H₀ C cl fp, PIfs (lcx X (T ++ capN) scope cl C s₀ H₀ fp) ifs tt)
    (he : ∀ s₀ H₀ C cl fp, PE (lcx X (T ++ capN) scope cl C s₀ H₀ fp) elt te)
    (hs : ∀ x, foldedSetIterable iter X.env x = pure x := by intro _; rfl)
    {use : Option (Value → Sem Unit)} {Qs : Value → Shared → Prop} {pins : List (Addr × Obj)} {s : Shared} {σ : St} {H : Hp} {Q : VK} (I : Inv X pins σ H s) (h : tLC T caps wi g tt te σ H Q)
    (fin : ∀ (C D : Addr) (s6 : Shared) (H5 : Hp), Inv X pins σ H5 s6 → Q (.ref D) H5 → FpOk X pins H5 C → (∃ m, s6.heap.Ns C m) → compPost (model X.prog X.w) X.A X.xe use Qs (.ref D) C (.ok .next) s6) :
    wpAny (model X.prog X.w) X.A (comprehension (.ListComp elt [⟨tg, iter, ifs, 0⟩] scope pos) scope X.env (firstIterPos [⟨tg, iter, ifs, 0⟩] pos) (newList []) (firstAsync [⟨tg, iter, ifs, 0⟩]) (firstIter [⟨tg, iter, ifs, 0⟩] X.env) use) Qs X.xe s := by
  have O := lcOk_of ho
  have hfree : ∀ p ∈ scope.names, p.2 = .free → ∃ c, X.env.cells.lookup p.1 = some c := fun p hp e => I.ok.has p.1 (.inl (O.free p hp e))
  obtain ⟨cl, hclos, cl1, cl2⟩ := closureFor_ok hfree
  refine wpAny_comprehension_free (use := use) rfl hs hclos hk O.loc (thn (hi pins s σ H _ I h) fun v s1 h1 => thn h1 fun itv s2 h2 => ?_)
  obtain ⟨it, fp, tn, J, H2, rfl, I2, TT', st2, f2, hD⟩ := h2
  refine wpAny_newObj_type ?_
  have I3 : Inv X pins σ (upd H2 s2.heap.objs.size (.lst [])) { s2 with heap := s2.heap.push { cls := .type "list", data := .seq ([] : List Value).toArray } } := I2.lnew (t' := s2.toks) (its := []) (ys := []) .nil (Nat.zero_le _)
  have fD : H2 s2.heap.objs.size = none := I2.fresh
  obtain ⟨W, ⟨m0, w0⟩, turn⟩ := hD s2.heap.objs.size fD
  generalize hDd : s2.heap.objs.size = D at I3 fD w0 turn ⊢
  have st3 : tn 0 (s2.heap.push { cls := .type "list", data := .seq ([] : List Value).toArray }) := TT'.keep _ _ _ st2 fun b _ o e => Heap.get?_push_of_some _ e
  have hfpD : ∀ b ∈ fp, b < D := fun b hb => by
    obtain ⟨o, e, _⟩ := TT'.obj _ _ st2 b hb
    rw [← hDd]; exact Heap.lt_size e
  generalize hs3 : ({ s2 with heap := s2.heap.push { cls := .type "list", data := .seq ([] : List Value).toArray } } : Shared) = s3 at I3 ⊢
  have st3' : tn 0 s3.heap := by rw [← hs3]; exact st3
  generalize hH3 : upd H2 D (.lst []) = H3 at I3 w0
  have f3 : ∀ b ∈ fp, FpOk X pins H3 b := fun b hb => by
    obtain ⟨z0, z⟩ := f2 b hb
    exact ⟨by rw [← hH3, upd_ne (Nat.ne_of_lt (hfpD b hb))]; exact z0, z⟩
  refine wpAny_newFunctionEnv O.nocell (by intro y hy; simp at hy) (fun h₁ hns₁ hsb₁ => ?_) hk
  have hCn : H3 s3.heap.objs.size = none := I3.fresh
  have old : ∀ b o, s3.heap.get? b = some o → h₁.get? b = some o := fun b o e => hsb₁.extBut b o (Nat.ne_of_lt (Heap.lt_size e)) (Heap.get?_push_of_some _ e)
  generalize hC : s3.heap.objs.size = C at hns₁ hsb₁ hCn ⊢
  have hltC : ∀ b o, s3.heap.get? b = some o → b ≠ C := fun b o e => by rw [← hC]; exact Nat.ne_of_lt (Heap.lt_size e)
  have fpC : ∀ b ∈ fp, b ≠ C := fun b hb => by
    obtain ⟨o, e, _⟩ := TT'.obj _ _ st3' b hb
    exact hltC b o e
  have fpS : ∀ b ∈ fp, b ∉ frs X.stack := fun b hb z => by
    rcases List.mem_cons.mp (I3.stkSub b z) with q | q
    · exact (f3 b hb).2.1 q
    · exact (f3 b hb).2.2.1 q
  have fpCl : ∀ b ∈ fp, ∀ x c, cl.lookup x = some c → c ≠ b := fun b hb x c e => (f3 b hb).2.2.2.2.1 x c (cl1 x c e)
  have hXok : (lcx X (T ++ capN) scope cl C s3 H3 fp).Ok := by
    refine ⟨I3.ok.mod, hk, I3.ok.glob, I3.ok.blt, Nat.le_of_eq hC, fun x y c e1 e2 => I3.ok.inj x y c (cl1 x c e1) (cl1 y c e2), fun x hx => ?_, fun x c e1 e2 => ?_, I3.ok.hd, I3.ok.frames, .inl rfl, fun b hb => ⟨fpC b hb, fun x c e => fpCl b hb x c e⟩,
      fun b o e => I3.bs b o e, ?_, fun b o e z => ?_, fun b hb => fpS b hb, I3.stack, I3.stkFree⟩
    · have hx' : (relabel scope X.env).names.lookup x = some .cell ∨ (relabel scope X.env).names.lookup x = some .free := hx
      have hf : scope.names.lookup x = some .free := by
        rcases hx' with q | q
        · exact relabel_inv q (.inl rfl) O.nocell
        · exact relabel_inv q (.inr rfl) O.nocell
      exact Option.isSome_iff_exists.mp (cl2 x (PySem.mem_of_lookup hf))
    · have e1 : (cl.lookup x).isNone = true := e1
      have e2 : cl.lookup x = some c := e2
      rw [e2] at e1; cases e1
    · exact Nat.le_trans I3.ok.bsz I3.sz
    · obtain ⟨z0, z1, z2, z3, _⟩ := f3 b z
      rcases z3 with q | q
      · exact I3.ok.noex b o e q
      · exact absurd (Nat.lt_of_lt_of_le (Heap.lt_size e) (Nat.le_trans I3.ok.bsz q)) (Nat.lt_irrefl _)
  have I4 : Inv (lcx X (T ++ capN) scope cl C s3 H3 fp) [] (lcs T caps σ) H3 { s3 with heap := h₁, toks := s3.toks + ([] : List (Str × Value)).length } := by
    refine ⟨hXok, rfl, I3.bare, Un.kept old, ⟨_, hns₁, fun i x v e1 e2 e3 => ?_⟩, fun x c e => ?_, hCn, fun x c e => I3.freeC x c (cl1 x c e), fun p hp => absurd (show p ∈ ([] : List (Addr × Obj)) from hp) (by simp), I3.hok.kept old, ?_⟩
    · have e1 : (T ++ capN)[i]? = some x := e1
      unfold lcs at e2
      by_cases hi : i < T.length
      · rw [List.getElem?_append_left (by simpa using hi), List.getElem?_map] at e2
        cases q : T[i]? with
        | none => rw [q] at e2; cases e2
        | some z => rw [q] at e2; cases e2
      · rw [List.getElem?_append_right (by omega)] at e1
        rw [List.getElem?_append_right (by simpa using hi), List.getElem?_map, List.length_map] at e2
        obtain ⟨k, k1, k2, k3⟩ := O.cap _ x e1
        rw [k1] at e2
        have e2 : (σ[k]?).join = some v := Option.some.inj e2
        have e2' : σ[k]? = some (some v) := by
          cases q : σ[k]? with
          | none => rw [q] at e2; cases e2
          | some z => rw [q] at e2; exact congrArg some e2
        have hcell : X.env.kindOf x = some .cell := O.free (x, .free) (PySem.mem_of_lookup k3) rfl
        obtain ⟨m, hn, hl⟩ := I3.loc
        obtain ⟨u, r, l⟩ := hl k x v k2 e2' (.inr (.inl hcell))
        refine ⟨u, r, .inr ⟨?_, ?_⟩⟩
        · obtain ⟨k', e5, e6⟩ := relabel_lookup (env := X.env) k3
          rcases e6 with z | ⟨_, z⟩
          · subst z; exact .inr e5
          · subst z; exact .inl e5
        · rcases l with ⟨l1, _⟩ | ⟨_, c, e7, o, ho1, ho2⟩
          · rw [hcell] at l1; cases l1
          · obtain ⟨c', e8⟩ := Option.isSome_iff_exists.mp (cl2 x (PySem.mem_of_lookup k3))
            have := cl1 x c' e8
            rw [e7] at this
            cases this
            exact ⟨c, e8, o, old c o ho1, ho2⟩
    · obtain ⟨v, o, ho1, ho2⟩ := I3.cell x c (cl1 x c e)
      exact ⟨v, o, old c o ho1, ho2⟩
    · show (lcs T caps σ).length = (T ++ capN).length
      unfold lcs
      rw [List.length_append, List.length_append, List.length_map, List.length_map, O.len]
  have fpX : ∀ {H' : Hp}, (∀ b ∈ fp, H' b = none) → ∀ b ∈ fp, FpOk (lcx X (T ++ capN) scope cl C s3 H3 fp) [] H' b := fun hn b hb =>
    ⟨hn b hb, fpC b hb, fpS b hb, .inl hb, fun x c e => fpCl b hb x c e, fun p hp => absurd (show p ∈ ([] : List (Addr × Obj)) from hp) (by simp)⟩
  have st4 : tn 0 h₁ := TT'.keep _ _ _ st3' fun b _ o e => old b o e
  have w0' : W 0 m0 [] (lcs T caps σ) H3 := w0
  have loop : codeAny (model X.prog X.w) X.A (.compLoop (.ListComp elt [⟨tg, iter, ifs, 0⟩] scope pos) 0 (.ref it) (.ref D) (compEnvC scope cl C X.env))
      (compPost (model X.prog X.w) X.A X.xe use Qs (.ref D) C) { s3 with heap := h₁, toks := s3.toks + ([] : List (Str × Value)).length } := by
    refine codeAny_compLoop_go (fun n s' => ∃ i ys σ' H', Inv (lcx X (T ++ capN) scope cl C s3 H3 fp) [] σ' H' s' ∧ tn i s'.heap ∧ (∀ b ∈ fp, H' b = none) ∧ W i n ys σ' H') ?_ m0 ⟨0, [], lcs T caps σ, H3, I4, st4, fun b hb => (f3 b hb).1, w0'⟩
    rintro n s5 ⟨i, ys, σ5, H5, I5, st5, fr5, w5⟩
    rcases turn i n ys σ5 H5 w5 with ⟨stop, qn⟩ | ⟨go, N, F, hN, hF, step⟩
    · refine thn (TT'.done (lcx X (T ++ capN) scope cl C s3 H3 fp) rfl rfl rfl hc i [] s5 σ5 H5 _ I5 (fpX fr5) st5 stop) fun r s6 ⟨hr, I6⟩ => ?_
      subst hr
      obtain ⟨m6, hn6, _⟩ := I6.loc
      have hfC : H5 C = none := I6.free
      have ub := I6.base
      have hstat := I3.fpOk (Nat.le_of_eq hC) hCn
      refine fin C D s6 H5 (Inv.call' (s' := s6) (ch := fp) I3 I6.os ?_ I6.hok I6.bare (fun b hb => ⟨(f3 b hb).2.2.2.1, (f3 b hb).2.1, (f3 b hb).2.2.2.2.1, (f3 b hb).2.2.2.2.2⟩)) qn ⟨hfC, hstat.2⟩ ⟨m6, hn6⟩
      exact ⟨fun b o q n hb hx => ub.keep b o q n hb hx,
        fun b o q n hb hx => ub.slot b o q n hb hx, ub.free, fun b o q hx => ub.there b o q hx, ub.tups, ub.frzs, ub.tbls⟩
    · refine thn (TT'.item (lcx X (T ++ capN) scope cl C s3 H3 fp) rfl rfl rfl hc i [] s5 σ5 H5 _ I5 (fpX fr5) st5 go) fun r s6 ⟨u, hr, h6⟩ => ?_
      subst hr
      refine thn h6 fun _ s7 ⟨x, H7, I7, r7, y7, st7, fr7⟩ => ?_
      have I7' := I7.pinned (fpX fr7) (TT'.obj _ _ st7)
      have keepT : ∀ {σ8 : St} {H8 : Hp} {s8 : Shared}, Inv (lcx X (T ++ capN) scope cl C s3 H3 fp) ([] ++ pinsAt fp s7.heap) σ8 H8 s8 → tn (i + 1) s8.heap ∧ (∀ b ∈ fp, H8 b = none) := fun {σ8 H8 s8} I8 => by
        refine ⟨TT'.keep _ _ _ st7 fun b hb o e => (I8.pin (b, o) (List.mem_append_right _ (List.mem_append_right _ (mem_pinsAt hb e)))).1, fun b hb => ?_⟩
        obtain ⟨o, e, d⟩ := TT'.obj _ _ st7 b hb
        exact (I8.pin (b, o) (List.mem_append_right _ (List.mem_append_right _ (mem_pinsAt hb e)))).2.1
      refine thn (hg s3 H3 C cl fp _ s7 σ5 H7 x u _ I7' r7 (step x H7 y7)) fun _ s8 ⟨σ8, H8, I8, q8⟩ => ?_
      refine thn (ht s3 H3 C cl fp _ s8 σ8 H8 _ I8 q8) fun ok s9 ⟨H9, I9, q9⟩ => ?_
      cases ok with
      | false =>
        rw [if_neg (by simp)] at q9
        rw [if_neg (by simp)]
        obtain ⟨m', hm, w9⟩ := hF _ _ q9
        exact ⟨m', hm, i + 1, ys, σ8, H9, I9.unpinned, (keepT I9).1, (keepT I9).2, w9⟩
      | true =>
        rw [if_pos rfl] at q9
        rw [if_pos rfl]
        refine thn (he s3 H3 C cl fp _ s9 σ8 H9 _ I9 q9) fun vv s10 ⟨v, H10, I10, r10, n10⟩ => ?_
        obtain ⟨a10, z10, m', hm, w10⟩ := hN _ _ _ n10
        refine thn (mt_append (X := lcx X (T ++ capN) scope cl C s3 H3 fp) _ s10 σ8 H10 (.ref D) [v] (.ref D) [vv] (fun _ H11 => W (i + 1) m' (ys ++ [v]) σ8 H11) I10 rfl (.cons r10 .nil) ⟨D, ys, v, rfl, rfl, a10, z10, w10⟩) fun _ s11 ⟨_, H11, I11, _, w11⟩ => ?_
        exact ⟨m', hm, i + 1, ys ++ [v], σ8, H11, I11.unpinned, (keepT I11).1, (keepT I11).2, w11⟩
  exact codeAny_compStart_list loop (TT'.self _ 0 _ _ _ st4 loop)
theorem ps_setLC {i : Nat} {x : Str} {pos' spos : Pos} {elt tg iter : Expr} {ifs : List Expr} {scope : Scope} {pos : Pos} {wi : TI} {g : TG} {tt : TT} {te : TE} (T capN : List Str) (caps : List Nat) (hN : X.N.Nodup) (hi' : X.N[i]? = some x) (hx : Loc X.env.scope x)
    (hc : X.calm = true) (hi : PI X tg iter wi) (hk : scope.kind = .function) (ho : lcOk X.N X.env.kindOf scope T capN caps = true)
    (hg : ∀ s₀ H₀ C cl fp, PG (lcx X (T ++ capN) scope cl C s₀ H₀ fp) tg g)
    (ht : ∀ s₀ H₀ C cl fp, PIfs (lcx X (T ++ capN) scope cl C s₀ H₀ fp) ifs tt)
    (he : ∀ s₀ H₀ C cl fp, PE (lcx X (T ++ capN) scope cl C s₀ H₀ fp) elt te)
    (hsw : swapsWith (.ListComp elt [⟨tg, iter, ifs, 0⟩] scope pos) (some (.Name x pos')) spos.line X.env = pure true := by rfl)
    (hs : ∀ x, foldedSetIterable iter X.env x = pure x := by intro _; rfl)
    (hf : X.fn x = true ∨ X.env.scope.names.lookup x = some .local := by first | exact .inl rfl | exact .inr rfl | assumption) :
    PS X (.Assign [.Name x pos'] (.ListComp elt [⟨tg, iter, ifs, 0⟩] scope pos) spos) (tAsg (tLC T caps wi g tt te) (gName i)) := by
  intro pins s σ H D I h
  rw [exec_Assign_Name_used _ _ _ _ hsw]
  refine wpAny_bind (wpAny_standAt (wpAny_bind ?_))
  show wpAny _ _ (comprehension _ _ _ _ _ _ _ _ >>= fun _ => pure ()) _ _ _
  refine wpAny_bind (lc_core T capN caps hc hi hk ho hg ht he hs I h fun C D0 s6 H5 I6 q fp ⟨m, hn⟩ => ?_)
  show wpAny _ _ (assign (.Name x pos') X.env (.ref D0)) _ _ _
  refine wpAny_assign_Name (store_ok2 I6 hN hi' hx (v := .ref D0) rfl (fun s' I' hsb => ?_) hf)
  obtain ⟨a, sb, ha⟩ := hsb
  have hCa : C ≠ a := by
    rcases ha with z | z
    · rw [z]; exact fp.2.1
    · exact (fp.2.2.2.2.1 x a z).symm
  refine ⟨m, hn.sameBut sb hCa, fun h' sb' => wpAny_pure (wpAny_pure ⟨_, H5, I'.moved (t' := s'.toks) (fp := [C]) (fun b hb => ?_) (fun b o hb e => ?_), q⟩)⟩
  · rw [List.mem_singleton.mp hb]; exact fp
  · exact sb'.extBut b o (fun z => hb (List.mem_singleton.mpr z)) e
end
end L2
namespace Lw
open PySem L2
noncomputable abbrev RowsAt (H : Hp) : List Addr → List (List Str) → Prop := Paired (RowAt H)
theorem RowsAt.same {H H' : Hp} (s : Same H H') : ∀ {as : List Addr} {rs : List (List Str)}, RowsAt H as rs → RowsAt H' as rs
  | _, _, .nil => .nil
  | _, _, .cons h r => .cons (s _ _ h) (RowsAt.same s r)
theorem RowsAt.len {H : Hp} : ∀ {as : List Addr} {rs : List (List Str)}, RowsAt H as rs → as.length = rs.length
  | _, _, .nil => rfl
  | _, _, .cons _ r => by rw [List.length_cons, List.length_cons, RowsAt.len r]
theorem RowsAt.get {H : Hp} : ∀ {as : List Addr} {rs : List (List Str)} {i : Nat} {r : List Str}, RowsAt H as rs → rs[i]? = some r → ∃ a, as[i]? = some a ∧ RowAt H a r
  | _, _, _, _, .nil, h => by cases h
  | a :: as, r :: rs, 0, r', .cons h t, e => by cases e; exact ⟨a, rfl, h⟩
  | a :: as, r :: rs, i + 1, r', .cons h t, e => by
    obtain ⟨b, h1, h2⟩ := RowsAt.get (H := H) (as := as) (rs := rs) (i := i) (r := r') t (by simpa using e)
    exact ⟨b, by simpa using h1, h2⟩
theorem RowsAt.other {H : Hp} {D : Addr} {o : HO} : ∀ {as : List Addr} {rs : List (List Str)}, RowsAt H as rs → (∀ a ∈ as, a ≠ D) → RowsAt (upd H D o) as rs
  | _, _, .nil, _ => .nil
  | _, _, .cons h r, hn => .cons (by unfold RowAt; rw [upd_ne (hn _ List.mem_cons_self)]; exact h) (RowsAt.other r fun a ha => hn a (List.mem_cons_of_mem _ ha))
theorem gatesOk_at : ∀ {gs : List (Str × Str × List Str)} {kn : List Str} {i : Nat} {g : Str × Str × List Str}, GatesOk kn gs → gs[i]? = some g → ArOk g.2.1 g.2.2.length ∧ ∀ p ∈ g.2.2, p ∈ kn ++ (gs.take i).map (·.1)
  | [], _, _, _, _, e => by simp at e
  | a :: r, kn, 0, g, h, e => by
    have : a = g := by simpa using e
    subst this
    exact ⟨h.1, by simpa using h.2.1⟩
  | a :: r, kn, i + 1, g, h, e => by
    have := gatesOk_at (i := i) h.2.2 (by simpa using e)
    exact ⟨this.1, fun p hp => by have := this.2 p hp; simpa using this⟩
theorem fresh_at {C : Cel} (G : Good C) {i : Nat} {g : Str × Str × List Str} (e : C.gates[i]? = some g) : g.1 ∉ C.ins ++ (C.gates.take i).map (·.1) := by
  have hlt := (List.getElem?_eq_some_iff.mp e).1
  have h := G.nd
  unfold Cel.names at h
  have e1 : C.gates = C.gates.take i ++ g :: C.gates.drop (i + 1) := by
    have e2 : C.gates[i] = g := (List.getElem?_eq_some_iff.mp e).2
    rw [← e2, List.getElem_cons_drop, List.take_append_drop]
  rw [e1, List.map_append, List.map_cons, ← List.append_assoc] at h
  have := (List.nodup_append.mp h).2.2
  intro hm
  exact this _ hm _ List.mem_cons_self rfl
noncomputable def spRead (K : PySem.W.Frag) : Sp := fun vs H Q _ => ∃ (C : Cel), vs = [.str (textOf C)] ∧ Good C ∧ ∀ (ce : Addr) (H' : Hp), H ce = none → CellAt H' ce C → Same H H' → Q (.ref ce) H'
section
variable {P : Program} {w : World} {K : PySem.W.Frag} {mg : Str → Option Value} {base : Heap}
theorem scRead : FnScope ["text", "rows", "inputs", "gates", "known", "at", "words"] ["text"] (defScope sRead) := ⟨rfl, rfl, rfl, by decide +kernel, rfl, by decide +kernel, by decide +kernel⟩
set_option maxHeartbeats 2000000 in
theorem ok_read {f fI fG fC : Addr} {fd fdI fdG fdC : FuncData} (F : Fun K "read_cell" "read_cell" sRead f fd) (T : Txt mg) (gI : Gd K mg "are_inputs" sAreIn ["words"] fI fdI) (gG : Gd K mg "is_gate" sIsGate ["words", "known"] fG fdG)
    (gC : Gd K mg "check_end" sCheckEnd ["rows", "at", "known"] fC fdC) (GI : FnOk P w K mg base CX0 2 fI fdI ["words"] (spAreIn K)) (GG : FnOk P w K mg base CX0 2 fG fdG ["words", "known"] (spIsGate K))
    (GC : FnOk P w K mg base CX0 2 fC fdC ["rows", "at", "known"] (spCheck K)) : FnOk P w K mg base CX0 3 f fd ["text"] (spRead K) := by
  refine F.ok scRead (fun vs H Q E h => ?_) (fun cdv A outer s H vs Q E hr h => ?_)
  · obtain ⟨C, rfl, _⟩ := h
    rfl
  · obtain ⟨C, rfl, G, k⟩ := h
    have hsp := split_text G
    refine ex_cut (fun σ H5 => ∃ (r : Addr) (as : List Addr), σ = [some (.str (textOf C)), some (.ref r), none, none, none, none, none] ∧ H5 r = some (.lst (as.map V.ref)) ∧ RowsAt H5 as (rowsOf C) ∧ Same H H5) (fun u hu' => ?_) ?_
    · refine ⟨_, ps_setLC (i := 1) ["row"] [] [] scRead.nd rfl (Or.inl rfl) rfl (pi_list (pe_bm PySem.F.plainAttrs_str PySem.F.slot_str_split PySem.F.type_str_split mt_split (pv 0) (pa_c pe_str pa_nil))) rfl rfl
        (fun s₀ H₀ C cl fp => pg_name (i := 0) (nd1 _) rfl (Or.inl rfl)) (fun s₀ H₀ C cl fp => pifs_nil) (fun s₀ H₀ C cl fp => pe_bmK K PySem.F.plainAttrs_str PySem.F.slot_str_split PySem.F.type_str_split mt_split (pv 0) (pa_c pe_str pa_nil)), ?_⟩
      have ht := text_len G
      refine ⟨_, rfl, rfl, textOf C, nlS, rfl, rfl, by decide +kernel, by omega, fun q nq => ⟨q, rfl, ⟨_, SqL.of upd_same⟩, fun D0 nD0 => ?_⟩⟩
      rw [hsp]
      rw [hsp] at nD0
      have sq : Same H (upd H q (.lst (((rowsOf C).map (Str.join spS)).map V.str))) := Same.new nq
      have hqD : q ≠ D0 := ne_of_none upd_same nD0
      have zD : H D0 = none := sq.free nD0
      refine lc1y (yields_list (xs := ((rowsOf C).map (Str.join spS)).map V.str)) (fun i ys H4 => ∃ as : List Addr, ys = as.map V.ref ∧ as.length ≤ 26 ∧ RowsAt H4 as ((rowsOf C).take i) ∧ Same H H4 ∧ H4 D0 = some (.lst ys) ∧ H4 q = some (.lst (((rowsOf C).map (Str.join spS)).map V.str)) ∧ (∀ a ∈ as, a ≠ D0)) ?_ ?_ ?_ ?_
      · exact ⟨[], rfl, by simp, .nil, sq.trans (Same.new nD0), upd_same, by rw [upd_ne hqD]; exact upd_same, fun a ha => nomatch ha⟩
      · rintro i ys H4 _ ⟨as, _, _, _, _, _, h, _⟩
        exact SqL.of h
      · rintro i x ys H4 hx ⟨as, rfl, hl4, hr4, s4, hD4, hq4, hne⟩
        obtain ⟨y, hy, rfl⟩ := str_item1 hx
        rw [List.getElem?_map] at hy
        obtain ⟨r, hri, rfl⟩ := Option.map_eq_some_iff.mp hy
        have hrm : r ∈ rowsOf C := List.mem_of_getElem? hri
        have hi : i < (rowsOf C).length := (List.getElem?_eq_some_iff.mp hri).1
        have h26 := rows_many G
        have hrl := row_len G r hrm
        refine ⟨_, rfl, rfl, Str.join spS r, spS, rfl, rfl, by decide +kernel, by omega, fun p np => ?_⟩
        rw [split_row G r hrm]
        have hpD : p ≠ D0 := (ne_of_none hD4 np).symm
        have hlen : as.length = i := by rw [hr4.len, List.length_take]; omega
        have et : (rowsOf C).take (i + 1) = (rowsOf C).take i ++ [r] := by rw [List.take_add_one, hri]; rfl
        refine ⟨⟨_, rfl⟩, by rw [upd_ne hpD.symm]; exact hD4, ?_, as ++ [p], by simp, by simp; omega, ?_, ?_, upd_same, ?_, ?_⟩
        · rw [List.length_map]; exact Nat.lt_of_lt_of_le (show as.length < 1000 by omega) (by decide)
        · rw [et]
          refine RowsAt.other (paired_snoc (hr4.same (Same.new np)) upd_same) fun a ha => ?_
          rcases List.mem_append.mp ha with ha | ha
          · exact hne a ha
          · rw [List.mem_singleton.mp ha]; exact hpD
        · intro b o e
          rw [upd_ne (ne_of_none e zD)]
          exact (s4.trans (Same.new np)) b o e
        · rw [upd_ne hqD]; exact (Same.new np) _ _ hq4
        · intro a ha
          rcases List.mem_append.mp ha with ha | ha
          · exact hne a ha
          · rw [List.mem_singleton.mp ha]; exact hpD
      · rintro ys H4 ⟨as, rfl, hl4, hr4, s4, hD4, hq4, hne⟩
        refine hu' _ _ ⟨D0, as, rfl, hD4, ?_, s4⟩
        have : (rowsOf C).take (((rowsOf C).map (Str.join spS)).map V.str).length = rowsOf C := by rw [List.length_map, List.length_map, List.take_length]
        rw [this] at hr4
        exact hr4
    rintro σ H1 ⟨r, as, rfl, hr1, ha1, s1⟩
    have hi0 : (rowsOf C)[0]? = some (("in" : Str) :: C.ins) := rfl
    obtain ⟨a0, ea0, ra0⟩ := ha1.get hi0
    have hal := ha1.len
    have nk : ∀ x ∈ C.names, isNm x = true := fun x hx => isNm_good (G.nm x hx)
    have hnd := List.nodup_append.mp G.nd
    have li := G.li
    have lg := G.lg
    have lo := G.lo
    refine ex_next _ (ps_if (pt_not (pt_val (pe_call GI hr rfl gI.m gI.k gI.b .nil pass0 (pa_c (pe_ix ix_list (pv 1) pe_int (fun _ _ => rfl)) pa_nil)))) (pss_one ps_dead) pss_nil) ?_
    refine ⟨_, rfl, r, _, _, .ref a0, rfl, rfl, SqL.of hr1, atI_nat (j := 0) (by rw [List.getElem?_map, ea0]; rfl), a0, ("in" : Str) :: C.ins, rfl, SqL.of ra0, by simp, by simp; omega, ?_, fun H2 s2 => ⟨_, rfl, ?_⟩⟩
    · intro x hx
      have := (rows_ls G _ List.mem_cons_self).2.2 x hx
      exact ⟨this.ascii, by have := this.hi; omega⟩
    have ok1 : insOk (("in" : Str) :: C.ins) = true := by
      show (decide (("in" : Str) = "in") && C.ins.all isNm && decide C.ins.Nodup) = true
      rw [decide_eq_true hnd.1, List.all_eq_true.mpr fun x hx => nk x (List.mem_append_left _ hx)]
      rfl
    rw [ok1]
    refine iteF ?_
    have S2 := s1.trans s2
    have hr2 := s2 _ _ hr1
    have ra2 := ha1.same s2
    have ra02 : RowAt H2 a0 (("in" : Str) :: C.ins) := s2 _ _ ra0
    refine ex_next _ (ps_set (i := 2) scRead.nd rfl (Or.inl rfl) (pe_callTy call_tuple_of (by rfl) T.tuple PyProof.Rows.boot_tuple (pa_c (pe_slice sl_list (pe_ix ix_list (pv 1) pe_int (fun _ _ => rfl)) (po_some pe_int) po_none) pa_nil))) ?_
    refine ⟨_, rfl, r, _, _, .ref a0, rfl, rfl, SqL.of hr2, atI_nat (j := 0) (by rw [List.getElem?_map, ea0]; rfl), _, rfl, a0, _, rfl, SqL.of ra02, fun p np => ⟨p, _, rfl, .inl ⟨SqL.of upd_same, fun l nl => ?_⟩⟩⟩
    have e1 : cutV ((("in" : Str) :: C.ins).map V.str) (some 1) none = C.ins.map V.str := cut_drop ("in" :: C.ins) 1
    rw [e1]
    rw [e1] at nl
    have s3 : Same H2 (upd (upd H2 p (.lst (C.ins.map V.str))) l (.tup (C.ins.map V.str))) := (Same.new np).trans (Same.new nl)
    generalize hH3 : upd (upd H2 p (.lst (C.ins.map V.str))) l (.tup (C.ins.map V.str)) = H3 at s3
    have hl3 : H3 l = some (.tup (C.ins.map V.str)) := by rw [← hH3]; exact upd_same
    have S3 := S2.trans s3
    have hr3 := s3 _ _ hr2
    have ra3 := ra2.same s3
    refine ex_next _ (ps_set (i := 3) scRead.nd rfl (Or.inl rfl) (pe_lst pa_nil)) ?_
    refine ⟨(by show 0 ≤ sizeLine; decide), fun g ng => ?_⟩
    refine ex_next _ (ps_set (i := 4) scRead.nd rfl (Or.inl rfl) (pe_callTy call_list_of (by rfl) T.list PyProof.Rows.boot_list (pa_c (pv 2) pa_nil))) ?_
    have hl4 : upd H3 g (.lst []) l = some (.tup (C.ins.map V.str)) := by rw [upd_ne (ne_of_none hl3 ng)]; exact hl3
    refine ⟨_, rfl, l, _, rfl, .inr (.inl (.inl hl4)), fun kn nk => ?_⟩
    have zg : H g = none := S3.free ng
    have nkg : g ≠ kn := ne_of_none upd_same nk
    have s4 : Same H3 (upd (upd H3 g (.lst [])) kn (.lst (C.ins.map V.str))) := (Same.new ng).trans (Same.new nk)
    have nk3 : H3 kn = none := (Same.new ng).free nk
    have zkn : H kn = none := S3.free nk3
    have rg : r ≠ g := ne_of_none hr3 ng
    have rkn : r ≠ kn := ne_of_none hr3 nk3
    have rowne : ∀ {as : List Addr} {rs : List (List Str)} {x : Addr}, RowsAt H3 as rs → H3 x = none → ∀ a ∈ as, a ≠ x := by
      intro as rs x h hx
      induction h with
      | nil => intro a ha; exact nomatch ha
      | cons q _ ih =>
        intro a ha
        rcases List.mem_cons.mp ha with e | ha
        · rw [e]; exact ne_of_none q hx
        · exact ih a ha
    have ag := rowne ra3 ng
    have akn := rowne ra3 nk3
    generalize hH4 : upd (upd H3 g (.lst [])) kn (.lst (C.ins.map V.str)) = H4 at s4
    have hg4 : H4 g = some (.lst []) := by rw [← hH4, upd_ne nkg]; exact upd_same
    have hkn4 : H4 kn = some (.lst (C.ins.map V.str)) := by rw [← hH4]; exact upd_same
    have hlen : as.length = C.gates.length + 2 := by rw [hal]; unfold rowsOf; simp
    refine ex_next _ (ps_for PassesOwn.never rfl (pi_range2 rfl T.range (pa_c pe_int (pa_c (pe_callB call_len_seq (by rfl) T.len PySem.boot_len (pa_c (pv 1) pa_nil)) pa_nil))) (pg_name (i := 5) scRead.nd rfl (Or.inl rfl))
      (pss_cons (ps_set (i := 6) scRead.nd rfl (Or.inl rfl) (pe_ix ix_list (pv 1) (pv 5) (fun _ _ => rfl)))
      (pss_cons (ps_if (pt_cmpR op_eq (pe_ix ix_list (pv 6) pe_int (fun _ _ => rfl)) pe_str (nomark _))
        (pss_cons (ps_expr (pe_call GC hr rfl gC.m gC.k gC.b .nil pass0 (pa_c (pv 1) (pa_c (pv 5) (pa_c (pv 4) pa_nil)))))
        (pss_one (ps_ret (pe_tup (pa_c (pv 2) (pa_c (pe_callTy call_tuple_of (by rfl) T.tuple PyProof.Rows.boot_tuple (pa_c (pv 3) pa_nil)) (pa_c (pe_callTy call_tuple_of (by rfl) T.tuple PyProof.Rows.boot_tuple (pa_c (pe_slice sl_list (pv 6) (po_some pe_int) po_none) pa_nil)) pa_nil))))))) pss_nil)
      (pss_cons (ps_if (pt_not (pt_val (pe_call GG hr rfl gG.m gG.k gG.b .nil pass0 (pa_c (pv 6) (pa_c (pv 4) pa_nil))))) (pss_one ps_dead) pss_nil)
      (pss_cons (ps_expr (pe_bm PySem.F.plainAttrs_list PySem.F.slot_list_append PySem.F.type_list_append mt_append (pv 3) (pa_c (pe_tup (pa_c (pe_ix ix_list (pv 6) pe_int (fun _ _ => rfl)) (pa_c (pe_ix ix_list (pv 6) pe_int (fun _ _ => rfl)) (pa_c (pe_callTy call_tuple_of (by rfl) T.tuple PyProof.Rows.boot_tuple (pa_c (pe_slice sl_list (pv 6) (po_some pe_int) po_none) pa_nil)) pa_nil)))) pa_nil)))
      (pss_one (ps_expr (pe_bm PySem.F.plainAttrs_list PySem.F.slot_list_append PySem.F.type_list_append mt_append (pv 4) (pa_c (pe_ix ix_list (pv 6) pe_int (fun _ _ => rfl)) pa_nil))))))))) ?_
    refine ⟨_, rfl, r, _, rfl, .inl (SqL.of (s4 _ _ hr3)), ?_⟩
    have hn1 : (((as.map V.ref).length : Nat) : Int) = (C.gates.length : Int) + 2 := by rw [List.length_map, hlen]; omega
    refine ⟨1, _, rfl, ⟨by decide, by decide, by omega, by omega⟩, ?_⟩
    rw [hn1, show ((C.gates.length : Int) + 2 - 1).toNat = C.gates.length + 1 by omega]
    refine for_range (lo := 1) (n := C.gates.length + 1) (fun i σ H5 => i ≤ C.gates.length ∧ ∃ (gs : List Addr) (v5 v6 : Option V), σ = [some (.str (textOf C)), some (.ref r), some (.ref l), some (.ref g), some (.ref kn), v5, v6] ∧ H5 r = some (.lst (as.map V.ref)) ∧ RowsAt H5 as (rowsOf C) ∧
      H5 l = some (.tup (C.ins.map V.str)) ∧ H5 g = some (.lst (gs.map V.ref)) ∧ GatesAt H5 gs (C.gates.take i) ∧ H5 kn = some (.lst ((C.ins ++ (C.gates.take i).map (·.1)).map V.str)) ∧ Same H H5)
      ⟨Nat.zero_le _, [], none, none, rfl, s4 _ _ hr3, ra3.same s4, s4 _ _ hl3, hg4, .nil, by simpa using hkn4, S3.trans s4⟩ ?_ ?_
    · rintro i σ H5 hi ⟨hig, gs, v5, v6, rfl, hr5, ra5, hl5, hg5, hga5, hkn5, S5⟩
      have ei : (1 : Int) + (i : Int) = ((i + 1 : Nat) : Int) := by omega
      by_cases hlt : i < C.gates.length
      · obtain ⟨gt, hgt⟩ : ∃ gt, C.gates[i]? = some gt := ⟨_, List.getElem?_eq_getElem hlt⟩
        have hrow : (rowsOf C)[i + 1]? = some (gt.1 :: gt.2.1 :: gt.2.2) := by
          unfold rowsOf
          rw [List.getElem?_cons_succ, List.getElem?_append_left (by simpa using hlt), List.getElem?_map, hgt]; rfl
        obtain ⟨a, ea, ra⟩ := ra5.get hrow
        have hgn : GoodName gt.1 := G.nm gt.1 (List.mem_append_right _ (List.mem_map.mpr ⟨gt, List.mem_of_getElem? hgt, rfl⟩))
        refine ⟨_, rfl, _, rfl, r, _, _, .ref a, rfl, rfl, SqL.of hr5, (by rw [ei]; exact atI_nat (by rw [List.getElem?_map, ea]; rfl)), ?_⟩
        refine ⟨_, rfl, a, _, _, .str gt.1, rfl, rfl, SqL.of ra, at0 _ _, rfl, _, rfl, ?_⟩
        have nout : decide (V.str gt.1 = V.str (Str.ofString "out")) = false := decide_eq_false fun e => by
          injection e with e
          exact hgn.nk (by rw [e]; unfold keptS; simp)
        rw [nout]
        refine iteF ?_
        have ok := gatesOk_at G.gt hgt
        have gok : gateOk (gt.1 :: gt.2.1 :: gt.2.2) (C.ins ++ (C.gates.take i).map (·.1)) = true := by
          show (isNm gt.1 && !decide (gt.1 ∈ C.ins ++ (C.gates.take i).map (·.1)) && decide ((gt.2.2.length : Int) ∈ (countsOf gt.2.1).getD []) && allIn gt.2.2 (C.ins ++ (C.gates.take i).map (·.1))) = true
          have ha : allIn gt.2.2 (C.ins ++ (C.gates.take i).map (·.1)) = true := List.all_eq_true.mpr fun p hp => decide_eq_true (ok.2 p hp)
          rw [isNm_good hgn, decide_eq_false (fresh_at G hgt), counts_of ok.1, ha]; rfl
        have hls := rows_ls G _ (List.mem_of_getElem? hrow)
        refine ⟨_, rfl, _, rfl, a, kn, gt.1 :: gt.2.1 :: gt.2.2, _, rfl, SqL.of ra, SqL.of hkn5, by simp, by have := hls.2.1; omega, ?_, fun H6 s6 => ⟨_, rfl, ?_⟩⟩
        · intro x hx
          have := hls.2.2 x hx
          exact ⟨this.ascii, by have := this.hi; omega⟩
        rw [gok]
        refine iteF ?_
        have ra6 : RowAt H6 a (gt.1 :: gt.2.1 :: gt.2.2) := s6 _ _ ra
        have e2 : cutV ((gt.1 :: gt.2.1 :: gt.2.2).map V.str) (some 2) none = gt.2.2.map V.str := cut_drop (gt.1 :: gt.2.1 :: gt.2.2) 2
        refine ⟨_, rfl, .inl ⟨rfl, _, SqL.of (s6 _ _ hg5)⟩, _, rfl, a, _, _, .str gt.1, rfl, rfl, SqL.of ra6, at0 _ _, _, rfl, a, _, _, .str gt.2.1, rfl, rfl, SqL.of ra6, at1 _ _ _, _, rfl, _, rfl, a, _, rfl, SqL.of ra6, fun p1 n1 => ⟨p1, _, rfl, .inl ⟨SqL.of upd_same, fun q nq => ?_⟩⟩⟩
        rw [e2]
        rw [e2] at nq
        refine ⟨(by show 3 ≤ sizeLine; decide), fun t nt => ?_⟩
        have s9 : Same H6 (upd (upd (upd H6 p1 (.lst (gt.2.2.map V.str))) q (.tup (gt.2.2.map V.str))) t (.tup [V.str gt.1, V.str gt.2.1, V.ref q])) := ((Same.new n1).trans (Same.new nq)).trans (Same.new nt)
        have ht9 : upd (upd (upd H6 p1 (.lst (gt.2.2.map V.str))) q (.tup (gt.2.2.map V.str))) t (.tup [V.str gt.1, V.str gt.2.1, V.ref q]) t = some (.tup [V.str gt.1, V.str gt.2.1, V.ref q]) := upd_same
        have hq9 : upd (upd (upd H6 p1 (.lst (gt.2.2.map V.str))) q (.tup (gt.2.2.map V.str))) t (.tup [V.str gt.1, V.str gt.2.1, V.ref q]) q = some (.tup (gt.2.2.map V.str)) := (Same.new nt) _ _ upd_same
        generalize upd (upd (upd H6 p1 (.lst (gt.2.2.map V.str))) q (.tup (gt.2.2.map V.str))) t (.tup [V.str gt.1, V.str gt.2.1, V.ref q]) = H9 at s9 ht9 hq9 ⊢
        have s59 := s6.trans s9
        have hg9 := s59 _ _ hg5
        have hgl : gs.length = i := by rw [hga5.length, List.length_take]; omega
        refine ⟨g, _, _, rfl, rfl, hg9, ?_, ?_⟩
        · rw [List.length_map]; exact Nat.lt_of_lt_of_le (show gs.length < 1000 by omega) (by decide)
        have hkn9 := s59 _ _ hkn5
        have ra9 := ra5.same s59
        have hkn10 : upd H9 g (.lst (gs.map V.ref ++ [V.ref t])) kn = some (.lst ((C.ins ++ (C.gates.take i).map (·.1)).map V.str)) := by rw [upd_ne nkg.symm]; exact hkn9
        have aa : a ∈ as := List.mem_of_getElem? ea
        have ra10 : RowAt (upd H9 g (.lst (gs.map V.ref ++ [V.ref t]))) a (gt.1 :: gt.2.1 :: gt.2.2) := by unfold RowAt; rw [upd_ne (ag a aa)]; exact s59 _ _ ra
        refine ⟨_, rfl, .inl ⟨rfl, _, SqL.of hkn10⟩, _, rfl, a, _, _, .str gt.1, rfl, rfl, SqL.of ra10, at0 _ _, kn, _, _, rfl, rfl, hkn10, ?_, ?_⟩
        · rw [List.length_map]; exact Nat.lt_of_lt_of_le (show (C.ins ++ (C.gates.take i).map (·.1)).length < 1000 by simp; omega) (by decide)
        have et : C.gates.take (i + 1) = C.gates.take i ++ [gt] := by rw [List.take_add_one, hgt]; rfl
        have tp : Tups H5 (upd (upd H9 g (.lst (gs.map V.ref ++ [V.ref t]))) kn (.lst ((C.ins ++ (C.gates.take i).map (·.1)).map V.str ++ [V.str gt.1]))) := (Tups.of_same s59).trans ((Tups.lst hg9).trans (Tups.lst hkn10))
        have tp9 : Tups H9 (upd (upd H9 g (.lst (gs.map V.ref ++ [V.ref t]))) kn (.lst ((C.ins ++ (C.gates.take i).map (·.1)).map V.str ++ [V.str gt.1]))) := (Tups.lst hg9).trans (Tups.lst hkn10)
        refine ⟨hlt, gs ++ [t], _, _, rfl, ?_, (ra9.other ag).other akn, tp _ _ hl5, ?_, ?_, ?_, ?_⟩
        · rw [upd_ne rkn, upd_ne rg]; exact s59 _ _ hr5
        · rw [upd_ne nkg, upd_same]; simp
        · rw [et]
          exact paired_snoc (hga5.mono tp) ⟨q, tp9 _ _ ht9, tp9 _ _ hq9⟩
        · rw [upd_same, et]; simp
        · intro b o e
          rw [upd_ne (ne_of_none e zkn), upd_ne (ne_of_none e zg)]
          exact (S5.trans s59) b o e
      · have hie : i = C.gates.length := by omega
        subst hie
        have hrow : (rowsOf C)[C.gates.length + 1]? = some (("out" : Str) :: C.outs) := by
          unfold rowsOf
          rw [List.getElem?_cons_succ, List.getElem?_append_right (by simp)]
          simp
        obtain ⟨a, ea, ra⟩ := ra5.get hrow
        rw [List.take_length] at hga5 hkn5
        refine ⟨_, rfl, _, rfl, r, _, _, .ref a, rfl, rfl, SqL.of hr5, (by rw [ei]; exact atI_nat (by rw [List.getElem?_map, ea]; rfl)), ?_⟩
        refine ⟨_, rfl, a, _, _, .str (Str.ofString "out"), rfl, rfl, SqL.of ra, at0 _ _, rfl, _, rfl, ?_⟩
        rw [decide_eq_true rfl]
        refine iteT ?_
        have hin : allIn C.outs (C.ins ++ C.gates.map (·.1)) = true := List.all_eq_true.mpr fun p hp => decide_eq_true (G.os p hp)
        refine ⟨_, rfl, _, rfl, _, rfl, r, kn, a, as, C.gates.length + 1, C.outs, C.ins ++ C.gates.map (·.1), ?_, SqL.of hr5, ea, ra, SqL.of hkn5, hin, G.ond, by omega, by omega, by omega, fun H6 s6 => ?_⟩
        · rw [ei]; rfl
        have S6 := S5.trans s6
        refine ⟨_, rfl, _, rfl, g, _, rfl, .inl ⟨SqL.of (s6 _ _ hg5), fun gt ngt => ?_⟩⟩
        have s7 : Same H6 (upd H6 gt (.tup (gs.map V.ref))) := Same.new ngt
        refine ⟨_, rfl, _, rfl, a, _, rfl, SqL.of (s7 _ _ (s6 _ _ ra)), fun p1 n1 => ⟨p1, _, rfl, .inl ⟨SqL.of upd_same, fun o no => ?_⟩⟩⟩
        have e3 : cutV ((("out" : Str) :: C.outs).map V.str) (some 1) none = C.outs.map V.str := cut_drop ("out" :: C.outs) 1
        rw [e3]
        rw [e3] at no
        have s8 := (s7.trans (Same.new (o := .lst (C.outs.map V.str)) n1)).trans (Same.new (o := .tup (C.outs.map V.str)) no)
        refine ⟨(by show 3 ≤ sizeLine; decide), fun ce nce => ?_⟩
        have s9 := s8.trans (Same.new (o := .tup [V.ref l, V.ref gt, V.ref o]) nce)
        refine k ce _ (S6.free (s8.free nce)) ⟨l, gt, o, gs, upd_same, s9 _ _ (s6 _ _ hl5), ?_, ?_, (hga5.mono (Tups.of_same (s6.trans s9)))⟩ (S6.trans s9)
        · exact (Same.new nce) _ _ ((Same.new no) _ _ ((Same.new n1) _ _ upd_same))
        · exact (Same.new nce) _ _ upd_same
    · rintro σ H5 ⟨h, _⟩
      exact absurd h (by omega)
end
end Lw
namespace L2
open PySem PySem.Spec PyProof.Rows
theorem lc3Map {J : It} {xs : List V} {R : Hp → Prop} {n1 n2 n3 : Str} {caps : List Nat} {te : TE} {σ : St} {H1 : Hp} {Q : VK} {D : Addr} {K : PySem.W.Frag} (Y : Yields J xs R) (f : Nat → V) (nD : H1 D = none) (hR : ∀ H, Same H1 H → R H) (hl : xs.length ≤ 1000)
    (hs : ∀ (i : Nat) x H, xs[i]? = some x → Same H1 H → ∃ a x1 x2 x3, x = .ref a ∧ SqT K H a [x1, x2, x3] ∧ ∀ k : VK, k (f i) H → te (some x1 :: some x2 :: some x3 :: caps.map (fun i => (σ[i]?).join)) H k)
    (hd : Q (.ref D) (upd H1 D (.lst ((List.range xs.length).map f)))) : LCW [n1, n2, n3] caps J (gTup K 3 (gCons (gName 0) (gCons (gName 1) (gCons (gName 2) gNil)))) tYes te σ H1 Q D := by
  have sm : ∀ o, Same H1 (upd H1 D o) := fun o b u e => by rw [upd_ne (ne_of_none e nD)]; exact e
  refine lc3 Y (fun i ys H => i ≤ xs.length ∧ ys = (List.range i).map f ∧ H = upd H1 D (.lst ys)) ⟨Nat.zero_le _, rfl, rfl⟩ (fun i ys H _ p => hR H (by rw [p.2.2]; exact sm _)) ?_ ?_
  · rintro i x ys H hx ⟨hi, rfl, rfl⟩
    have hlt := (List.getElem?_eq_some_iff.mp hx).1
    obtain ⟨a, x1, x2, x3, e, hq, ht⟩ := hs i x _ hx (sm _)
    refine ⟨a, x1, x2, x3, e, hq, ht _ ⟨⟨_, _, _, rfl⟩, upd_same, ?_, hlt, ?_, ?_⟩⟩
    · rw [List.length_map, List.length_range]; exact Nat.lt_of_le_of_lt (show i ≤ 1000 by omega) (by decide)
    · rw [List.range_succ, List.map_append]; rfl
    · rw [upd_upd]
  · rintro ys H ⟨_, rfl, rfl⟩
    exact hd
noncomputable def LcN2 (cs : St) (D : Addr) (Pv : Nat → List V → Hp → Prop) (i : Nat) (ys : List V) (σ2 : St) : VK := fun v H5 => (∃ t u, σ2 = t :: u :: cs) ∧ H5 D = some (.lst ys) ∧ ys.length < sizeLine ∧ Pv (i + 1) (ys ++ [v]) (upd H5 D (.lst (ys ++ [v])))
theorem lcZip {a b : Addr} {xs ys : List V} {n1 n2 : Str} {caps : List Nat} {te : TE} {σ : St} {H1 : Hp} {Q : VK} {D : Addr} {K : PySem.W.Frag} (hl : xs.length = ys.length) (Pv : Nat → List V → Hp → Prop)
    (h0 : Pv 0 [] (upd H1 D (.lst []))) (hR : ∀ i zs H, i ≤ xs.length → Pv i zs H → SqL K H a xs ∧ SqL K H b ys)
    (hs : ∀ i x y zs H p, xs[i]? = some x → ys[i]? = some y → Pv i zs H → H p = none → te (some x :: some y :: caps.map (fun i => (σ[i]?).join)) (upd H p (.tup [x, y])) (LcN2 (caps.map (fun i => (σ[i]?).join)) D Pv i zs (some x :: some y :: caps.map (fun i => (σ[i]?).join))))
    (hd : ∀ zs H, Pv xs.length zs H → Q (.ref D) H) : LCW [n1, n2] caps (Itz K a b) (gTup K 2 (gCons (gName 0) (gCons (gName 1) gNil))) tYes te σ H1 Q D := by
  refine ⟨fun i m zs σ' H => m = xs.length - i ∧ i ≤ xs.length ∧ (∃ t u, σ' = t :: u :: caps.map (fun i => (σ[i]?).join)) ∧ Pv i zs H, ⟨xs.length, by simp, Nat.zero_le _, ⟨none, none, rfl⟩, h0⟩, ?_⟩
  rintro i m zs σ' H' ⟨rfl, hi, ⟨t, u, rfl⟩, p⟩
  obtain ⟨r1, r2⟩ := hR i zs H' hi p
  by_cases hlt : i < xs.length
  · refine .inr ⟨⟨xs, ys, xs[i], ys[i]'(by omega), r1, r2, List.getElem?_eq_getElem hlt, List.getElem?_eq_getElem (by omega)⟩, LcN2 (caps.map (fun i => (σ[i]?).join)) D Pv i zs, fun _ _ => False, ?_, fun _ _ z => z.elim, fun x H2 y => ?_⟩
    · rintro σ2 v H5 ⟨ht, a1, a2, a3⟩
      exact ⟨a1, a2, xs.length - (i + 1), by omega, rfl, hlt, ht, a3⟩
    · obtain ⟨q, v, z, nq, rfl, rfl, e1, e2⟩ := y
      have hx := e1 xs r1
      have hy := e2 ys r2
      refine ⟨q, _, rfl, .inl (.inl upd_same), rfl, _, _, rfl, _, _, rfl, rfl, ?_⟩
      show if (true : Bool) = true then te (some v :: some z :: caps.map (fun i => (σ[i]?).join)) (upd H' q (.tup [v, z])) (LcN2 (caps.map (fun i => (σ[i]?).join)) D Pv i zs (some v :: some z :: caps.map (fun i => (σ[i]?).join))) else False
      exact iteT (hs i v z zs H' q hx hy p nq)
  · have e : i = xs.length := by omega
    subst e
    exact .inl ⟨⟨xs, ys, r1, r2, .inl (Nat.le_refl _)⟩, hd zs H' p⟩
end L2
namespace Lw
open PySem L2
theorem pg3K {X : Cx} (K : PySem.W.Frag) {x1 x2 x3 : Str} {p1 p2 p3 p : Pos} {kk : Nat} (hK : X.K = K) (hc : X.calm = true) (hN : X.N.Nodup) (h1 : X.N[0]? = some x1) (h2 : X.N[1]? = some x2) (h3 : X.N[2]? = some x3)
    (l1 : Loc X.env.scope x1) (l2 : Loc X.env.scope x2) (l3 : Loc X.env.scope x3) (g1 : X.fn x1 = true ∨ X.env.scope.names.lookup x1 = some .local) (g2 : X.fn x2 = true ∨ X.env.scope.names.lookup x2 = some .local) (g3 : X.fn x3 = true ∨ X.env.scope.names.lookup x3 = some .local) :
    PG X (.Tuple [.Name x1 p1, .Name x2 p2, .Name x3 p3] kk p) (gTup K 3 (gCons (gName 0) (gCons (gName 1) (gCons (gName 2) gNil)))) := by
  subst hK
  exact pg_tup hc (pgs_cons (pg_name hN h1 l1 g1) (pgs_cons (pg_name hN h2 l2 g2) (pgs_cons (pg_name hN h3 l3 g3) pgs_nil)))
theorem pg2K {X : Cx} (K : PySem.W.Frag) {x1 x2 : Str} {p1 p2 p : Pos} {kk : Nat} (hK : X.K = K) (hc : X.calm = true) (hN : X.N.Nodup) (h1 : X.N[0]? = some x1) (h2 : X.N[1]? = some x2)
    (l1 : Loc X.env.scope x1) (l2 : Loc X.env.scope x2) (g1 : X.fn x1 = true ∨ X.env.scope.names.lookup x1 = some .local) (g2 : X.fn x2 = true ∨ X.env.scope.names.lookup x2 = some .local) :
    PG X (.Tuple [.Name x1 p1, .Name x2 p2] kk p) (gTup K 2 (gCons (gName 0) (gCons (gName 1) gNil))) := by
  subst hK
  exact pg_tup hc (pgs_cons (pg_name hN h1 l1 g1) (pgs_cons (pg_name hN h2 l2 g2) pgs_nil))
noncomputable def headsOf (C : Cel) : List (Str × List Str) := (("in" : Str), C.ins) :: (C.gates.map (fun g => (g.1 ++ spS ++ g.2.1, g.2.2)) ++ [(("out" : Str), C.outs)])
theorem join_two (x y : Str) : ∀ (r : List Str), Str.join spS ((x ++ spS ++ y) :: r) = Str.join spS (x :: y :: r)
  | [] => rfl
  | z :: r => by
    refine str_ext ?_
    rw [join_cons, join_cons, join_cons, app_list, app_list]
    simp only [List.append_assoc]
theorem heads_join (C : Cel) : (headsOf C).map (fun h => Str.join spS (h.1 :: h.2)) = (rowsOf C).map (Str.join spS) := by
  unfold headsOf rowsOf
  simp only [List.map_cons, List.map_append, List.map_map, List.map_nil]
  congr 2
  exact List.map_congr_left fun g _ => join_two g.1 g.2.1 g.2.2
theorem heads_len (C : Cel) : (headsOf C).length = (rowsOf C).length := by unfold headsOf rowsOf; simp
theorem gates_qs {H : Hp} : ∀ {as : List Addr} {gs : List (Str × Str × List Str)}, GatesAt H as gs → ∃ qs : List Addr, Paired (fun q (g : Str × Str × List Str) => H q = some (.tup (g.2.2.map V.str))) qs gs ∧
    Paired (fun a (p : Addr × (Str × Str × List Str)) => H a = some (.tup [.str p.2.1, .str p.2.2.1, .ref p.1])) as (qs.zip gs)
  | _, _, .nil => ⟨[], .nil, .nil⟩
  | _, _, .cons ⟨q, h1, h2⟩ r => by
    obtain ⟨qs, p1, p2⟩ := gates_qs r
    exact ⟨q :: qs, .cons h2 p1, .cons h1 p2⟩
theorem at_gate {H : Hp} : ∀ {as qs : List Addr} {gs : List (Str × Str × List Str)} {i : Nat} {a : Addr}, Paired (fun a (p : Addr × (Str × Str × List Str)) => H a = some (.tup [.str p.2.1, .str p.2.2.1, .ref p.1])) as (qs.zip gs) → as[i]? = some a →
    ∃ q g, qs[i]? = some q ∧ gs[i]? = some g ∧ H a = some (.tup [.str g.1, .str g.2.1, .ref q])
  | [], _, _, _, _, _, e => by simp at e
  | b :: as, [], gs, i, a, h, e => by simp at h; cases h
  | b :: as, q :: qs, [], i, a, h, e => by simp at h; cases h
  | b :: as, q :: qs, g :: gs, 0, a, h, e => by
    have : b = a := by simpa using e
    subst this
    cases h with
    | cons h1 _ => exact ⟨q, g, rfl, rfl, h1⟩
  | b :: as, q :: qs, g :: gs, i + 1, a, h, e => by
    cases h with
    | cons _ h2 =>
      obtain ⟨q', g', e1, e2, e3⟩ := at_gate (i := i) h2 (by simpa using e)
      exact ⟨q', g', by simpa using e1, by simpa using e2, e3⟩
theorem heads_aux {H : Hp} {oa : Addr} {outs : List Str} (c4 : H oa = some (.tup (outs.map V.str))) : ∀ {qs : List Addr} {gs : List (Str × Str × List Str)}, Paired (fun q (g : Str × Str × List Str) => H q = some (.tup (g.2.2.map V.str))) qs gs →
    Paired (fun b (h : Str × List Str) => H b = some (.tup (h.2.map V.str))) (qs ++ [oa]) (gs.map (fun g => (g.1 ++ spS ++ g.2.1, g.2.2)) ++ [(("out" : Str), outs)])
  | _, _, .nil => .cons c4 .nil
  | _, _, .cons h r => .cons h (heads_aux c4 r)
theorem at_pair {α β : Type} {F : α → β → Prop} : ∀ {as : List α} {bs : List β} {i : Nat} {b : β}, Paired F as bs → bs[i]? = some b → ∃ a, as[i]? = some a ∧ F a b
  | _, _, _, _, .nil, e => by simp at e
  | _, _, 0, _, .cons h _, e => by
    have := Option.some.inj e
    subst this
    exact ⟨_, rfl, h⟩
  | _, _, i + 1, _, .cons _ r, e => by
    obtain ⟨a, e1, e2⟩ := at_pair (i := i) r (by simpa using e)
    exact ⟨a, by simpa using e1, e2⟩
noncomputable def spText : Sp := fun vs H Q _ => ∃ (ce : Addr) (C : Cel), vs = [.ref ce] ∧ CellAt H ce C ∧ Good C ∧ ∀ H', Same H H' → Q (.str (textOf C)) H'
noncomputable def f1 (C : Cel) (i : Nat) : V := match C.gates[i]? with | some g => .str (g.1 ++ spS ++ g.2.1) | none => .non
noncomputable def f2 (qs : List Addr) (i : Nat) : V := match qs[i]? with | some q => .ref q | none => .non
theorem range_f1 (C : Cel) : (List.range C.gates.length).map (f1 C) = C.gates.map (fun g => V.str (g.1 ++ spS ++ g.2.1)) := by
  refine List.ext_getElem? fun i => ?_
  rw [List.getElem?_map, List.getElem?_map]
  by_cases h : i < C.gates.length
  · rw [List.getElem?_range h, List.getElem?_eq_getElem h]
    simp [f1, h]
  · rw [List.getElem?_eq_none (by simpa using h), List.getElem?_eq_none (by simpa using h)]; rfl
theorem range_f2 (qs : List Addr) : (List.range qs.length).map (f2 qs) = qs.map V.ref := by
  refine List.ext_getElem? fun i => ?_
  rw [List.getElem?_map, List.getElem?_map]
  by_cases h : i < qs.length
  · rw [List.getElem?_range h, List.getElem?_eq_getElem h]
    simp [f2, h]
  · rw [List.getElem?_eq_none (by simpa using h), List.getElem?_eq_none (by simpa using h)]; rfl
section
variable {P : Program} {w : World} {K : PySem.W.Frag} {mg : Str → Option Value} {base : Heap}
theorem scText : FnScope ["cell", "rows", "behind"] ["cell"] (defScope sText) := ⟨rfl, rfl, rfl, by decide +kernel, rfl, by decide +kernel, by decide +kernel⟩
theorem nd3 : (["name", "word", "names"] : List Str).Nodup := by decide +kernel
theorem nd2 : (["row", "names"] : List Str).Nodup := by decide +kernel
set_option maxHeartbeats 2000000 in
theorem ok_text {f : Addr} {fd : FuncData} (F : Fun K "_law_text" "_law_text" sText f fd) (Tz : mg "zip" = none) : FnOk P w K mg base CX0 1 f fd ["cell"] spText := by
  refine F.ok scText (fun vs H Q E h => ?_) (fun cdv A outer s H vs Q E hr h => ?_)
  · obtain ⟨ce, C, rfl, _⟩ := h
    rfl
  · obtain ⟨ce, C, rfl, hC, G, k⟩ := h
    obtain ⟨ia, ga, oa, as, c1, c2, c3, c4, c5⟩ := hC.ex
    obtain ⟨qs, hqs, has⟩ := gates_qs c5
    have lq : qs.length = C.gates.length := hqs.length
    have la : as.length = C.gates.length := c5.length
    have lg := G.lg
    have at_a : ∀ {i : Nat} {x : V}, (as.map V.ref)[i]? = some x → ∃ a q g, as[i]? = some a ∧ x = .ref a ∧ qs[i]? = some q ∧ C.gates[i]? = some g ∧ H a = some (.tup [.str g.1, .str g.2.1, .ref q]) := by
      intro i x hx
      rw [List.getElem?_map] at hx
      obtain ⟨a, ea, rfl⟩ := Option.map_eq_some_iff.mp hx
      have hlt : i < as.length := (List.getElem?_eq_some_iff.mp ea).1
      obtain ⟨q, g, e1, e2, e3⟩ := at_gate has ea
      exact ⟨a, q, g, ea, rfl, e1, e2, e3⟩
    have spl : (Str.ofString " ").length = 1 := by decide +kernel
    have gls : ∀ g ∈ C.gates, LS 1 8 g.1 ∧ LS 1 8 g.2.1 := fun g hg => ⟨(G.nm g.1 (List.mem_append_right _ (List.mem_map.mpr ⟨g, hg, rfl⟩))).ls, (gates_ls G.gt (fun x hx => (G.nm x (List.mem_append_left _ hx)).ls) (fun g hg => (G.nm g.1 (List.mem_append_right _ (List.mem_map.mpr ⟨g, hg, rfl⟩))).ls) g hg).1⟩
    refine ex_next _ (ps_set (i := 1) scText.nd rfl (Or.inl rfl) (pe_op op_cat (pe_op op_cat (pe_lst (pa_c pe_str pa_nil)) (pe_lc ["name", "word", "names"] [] [] rfl (pi_tup (pe_ix ix_tup (pv 0) pe_int (fun _ _ => rfl))) rfl rfl
      (fun s₀ H₀ C cl fp => pg3K K rfl rfl nd3 rfl rfl rfl (Or.inl rfl) (Or.inl rfl) (Or.inl rfl) (Or.inr rfl) (Or.inr rfl) (Or.inr rfl)) (fun s₀ H₀ C cl fp => pifs_nil)
      (fun s₀ H₀ C cl fp => pe_op op_add_str (pe_op op_add_str (pv 0) pe_str) (pv 1)))) (pe_lst (pa_c pe_str pa_nil)))) ?_
    refine ⟨(by show 1 ≤ sizeLine; decide), fun p1 n1 => ⟨_, rfl, ce, _, _, .ref ga, rfl, rfl, SqT.of ((Same.new n1) _ _ c1), rfl, ga, rfl, ⟨_, SqT.of ((Same.new n1) _ _ c3)⟩, fun D0 nD0 => ?_⟩⟩
    have s1 : Same H (upd H p1 (.lst [V.str "in"])) := Same.new n1
    refine lc3Map (K := K) yields_tup (f1 C) nD0 (fun H' sm => SqT.of (sm _ _ (s1 _ _ c3))) (by rw [List.length_map]; omega) ?_ ?_
    · intro i x H2 hx sm
      obtain ⟨a, q, g, e1, rfl, e3, e4, e5⟩ := at_a hx
      have b1 := (gls g (List.mem_of_getElem? e4)).1.hi
      have b2 := (gls g (List.mem_of_getElem? e4)).2.hi
      refine ⟨a, _, _, _, rfl, SqT.of (sm _ _ (s1 _ _ e5)), fun kk q => ⟨_, rfl, _, _, rfl, rfl, small_size (by rw [spl]; omega), _, rfl, _, _, rfl, rfl, small_size (by rw [app_len, spl]; omega), ?_⟩⟩
      have : f1 C i = .str (g.1 ++ spS ++ g.2.1) := by unfold f1; rw [e4]
      rw [this] at q
      exact q
    have el : (List.range (as.map V.ref).length).map (f1 C) = C.gates.map (fun g => V.str (g.1 ++ spS ++ g.2.1)) := by rw [List.length_map, la]; exact range_f1 C
    rw [el]
    have s2 := s1.trans (Same.new (o := .lst (C.gates.map (fun g => V.str (g.1 ++ spS ++ g.2.1)))) nD0)
    refine ⟨p1, D0, _, _, rfl, rfl, by rw [upd_ne (ne_of_none upd_same nD0)]; exact upd_same, upd_same, small_size (by simp; omega), fun p2 n2 => ?_⟩
    have s3 := s2.trans (Same.new (o := .lst ([V.str (Str.ofString "in")] ++ C.gates.map (fun g => V.str (g.1 ++ spS ++ g.2.1)))) n2)
    refine ⟨(by show 1 ≤ sizeLine; decide), fun p3 n3 => ⟨p2, p3, _, _, rfl, rfl, by rw [upd_ne (ne_of_none upd_same n3)]; exact upd_same, upd_same, small_size (by simp; omega), fun ra nra => ?_⟩⟩
    have s4 := (s3.trans (Same.new (o := .lst [V.str (Str.ofString "out")]) n3)).trans (Same.new (o := .lst ([V.str (Str.ofString "in")] ++ C.gates.map (fun g => V.str (g.1 ++ spS ++ g.2.1)) ++ [V.str (Str.ofString "out")])) nra)
    have eL : [V.str (Str.ofString "in")] ++ C.gates.map (fun g => V.str (g.1 ++ spS ++ g.2.1)) ++ [V.str (Str.ofString "out")] = (headsOf C).map (fun h => V.str h.1) := by unfold headsOf; simp [List.map_map, Function.comp_def]
    rw [eL] at s4 ⊢
    have hra4 := upd_same (H := upd (upd (upd (upd H p1 (.lst [V.str (Str.ofString "in")])) D0 (.lst (C.gates.map (fun g => V.str (g.1 ++ spS ++ g.2.1))))) p2 (.lst ([V.str (Str.ofString "in")] ++ C.gates.map (fun g => V.str (g.1 ++ spS ++ g.2.1))))) p3 (.lst [V.str (Str.ofString "out")])) (a := ra) (o := .lst ((headsOf C).map (fun h => V.str h.1)))
    generalize upd (upd (upd (upd (upd H p1 (.lst [V.str (Str.ofString "in")])) D0 (.lst (C.gates.map (fun g => V.str (g.1 ++ spS ++ g.2.1))))) p2 (.lst ([V.str (Str.ofString "in")] ++ C.gates.map (fun g => V.str (g.1 ++ spS ++ g.2.1))))) p3 (.lst [V.str (Str.ofString "out")])) ra (.lst ((headsOf C).map (fun h => V.str h.1))) = H4 at s4 hra4 ⊢
    refine ex_next _ (ps_set (i := 2) scText.nd rfl (Or.inl rfl) (pe_op op_cat (pe_op op_cat (pe_lst (pa_c (pe_ix ix_tup (pv 0) pe_int (fun _ _ => rfl)) pa_nil)) (pe_lc ["name", "word", "names"] [] [] rfl (pi_tup (pe_ix ix_tup (pv 0) pe_int (fun _ _ => rfl))) rfl rfl
      (fun s₀ H₀ C cl fp => pg3K K rfl rfl nd3 rfl rfl rfl (Or.inl rfl) (Or.inl rfl) (Or.inl rfl) (Or.inr rfl) (Or.inr rfl) (Or.inr rfl)) (fun s₀ H₀ C cl fp => pifs_nil)
      (fun s₀ H₀ C cl fp => pv 2))) (pe_lst (pa_c (pe_ix ix_tup (pv 0) pe_int (fun _ _ => rfl)) pa_nil)))) ?_
    refine ⟨_, rfl, ce, _, _, .ref ia, rfl, rfl, SqT.of (s4 _ _ c1), rfl, (by show 1 ≤ sizeLine; decide), fun p5 n5 => ⟨_, rfl, ce, _, _, .ref ga, rfl, rfl, SqT.of ((Same.new n5) _ _ (s4 _ _ c1)), rfl, ga, rfl, ⟨_, SqT.of ((Same.new n5) _ _ (s4 _ _ c3))⟩, fun D1 nD1 => ?_⟩⟩
    have s5 : Same H (upd H4 p5 (.lst [V.ref ia])) := s4.trans (Same.new n5)
    refine lc3Map (K := K) yields_tup (f2 qs) nD1 (fun H' sm => SqT.of (sm _ _ (s5 _ _ c3))) (by rw [List.length_map]; omega) ?_ ?_
    · intro i x H2 hx sm
      obtain ⟨a, qa, g, e1, rfl, e3, e4, e5⟩ := at_a hx
      refine ⟨a, _, _, _, rfl, SqT.of (sm _ _ (s5 _ _ e5)), fun kk kq => ⟨_, rfl, ?_⟩⟩
      have ef : f2 qs i = .ref qa := by unfold f2; rw [e3]
      rw [ef] at kq
      exact kq
    have el2 : (List.range (as.map V.ref).length).map (f2 qs) = qs.map V.ref := by rw [List.length_map, la, ← lq]; exact range_f2 qs
    rw [el2]
    have s6 := s5.trans (Same.new (o := .lst (qs.map V.ref)) nD1)
    refine ⟨p5, D1, _, _, rfl, rfl, by rw [upd_ne (ne_of_none upd_same nD1)]; exact upd_same, upd_same, small_size (by simp; omega), fun p6 n6 => ?_⟩
    have s7 := s6.trans (Same.new (o := .lst ([V.ref ia] ++ qs.map V.ref)) n6)
    refine ⟨_, rfl, ce, _, _, .ref oa, rfl, rfl, SqT.of (s7 _ _ c1), rfl, (by show 1 ≤ sizeLine; decide), fun p7 n7 => ⟨p6, p7, _, _, rfl, rfl, by rw [upd_ne (ne_of_none upd_same n7)]; exact upd_same, upd_same, small_size (by simp; omega), fun ba nba => ?_⟩⟩
    have s8 := (s7.trans (Same.new (o := .lst [V.ref oa]) n7)).trans (Same.new (o := .lst ([V.ref ia] ++ qs.map V.ref ++ [V.ref oa])) nba)
    have s48 : Same H4 (upd (upd (upd (upd (upd H4 p5 (.lst [V.ref ia])) D1 (.lst (qs.map V.ref))) p6 (.lst ([V.ref ia] ++ qs.map V.ref))) p7 (.lst [V.ref oa])) ba (.lst ([V.ref ia] ++ qs.map V.ref ++ [V.ref oa]))) := ((((Same.new n5).trans (Same.new nD1)).trans (Same.new n6)).trans (Same.new n7)).trans (Same.new nba)
    have hba8 := upd_same (H := upd (upd (upd (upd H4 p5 (.lst [V.ref ia])) D1 (.lst (qs.map V.ref))) p6 (.lst ([V.ref ia] ++ qs.map V.ref))) p7 (.lst [V.ref oa])) (a := ba) (o := .lst ([V.ref ia] ++ qs.map V.ref ++ [V.ref oa]))
    generalize upd (upd (upd (upd (upd H4 p5 (.lst [V.ref ia])) D1 (.lst (qs.map V.ref))) p6 (.lst ([V.ref ia] ++ qs.map V.ref))) p7 (.lst [V.ref oa])) ba (.lst ([V.ref ia] ++ qs.map V.ref ++ [V.ref oa])) = H8 at s8 s48 hba8 ⊢
    have hra8 := s48 _ _ hra4
    refine ⟨_, pss_one (ps_ret (pe_bm PySem.F.plainAttrs_str PySem.F.slot_str_join PySem.F.type_str_join mt_join pe_str (pa_c (pe_lc ["row", "names"] [] [] rfl (pi_zip rfl Tz (pa_c (pv 1) (pa_c (pv 2) pa_nil))) rfl rfl
      (fun s₀ H₀ C cl fp => pg2K K rfl rfl nd2 rfl rfl (Or.inl rfl) (Or.inl rfl) (Or.inr rfl) (Or.inr rfl)) (fun s₀ H₀ C cl fp => pifs_nil)
      (fun s₀ H₀ C cl fp => pe_bmK K (r := rJoin K) PySem.F.plainAttrs_str PySem.F.slot_str_join PySem.F.type_str_join mt_join pe_str (pa_c (pe_op (r := rCatT K) op_catT (pe_tup (pa_c (pv 0) pa_nil)) (pv 1)) pa_nil))) pa_nil))), ?_⟩
    have hpb : Paired (fun b (h : Str × List Str) => H b = some (.tup (h.2.map V.str))) (ia :: (qs ++ [oa])) (headsOf C) := .cons c2 (heads_aux c4 hqs)
    have eB : [V.ref ia] ++ qs.map V.ref ++ [V.ref oa] = (ia :: (qs ++ [oa])).map V.ref := by simp
    rw [eB] at hba8
    have lb : (ia :: (qs ++ [oa])).length = (headsOf C).length := hpb.length
    have hrm := rows_many G
    have hhl := heads_len C
    have hj := heads_join C
    have hsz : ∀ h ∈ headsOf C, h.1.length ≤ 20 ∧ h.2.length ≤ 6 ∧ ∀ x ∈ h.2, x.length ≤ 8 := by
      intro h hm
      unfold headsOf at hm
      rcases List.mem_cons.mp hm with rfl | hm
      · exact ⟨by show (Str.ofString "in").length ≤ 20; decide +kernel, G.li, fun x hx => (G.nm x (List.mem_append_left _ hx)).ls.hi⟩
      rcases List.mem_append.mp hm with hm | hm
      · obtain ⟨g, hg, rfl⟩ := List.mem_map.mp hm
        have z := gates_ls G.gt (fun x hx => (G.nm x (List.mem_append_left _ hx)).ls) (fun g hg => (G.nm g.1 (List.mem_append_right _ (List.mem_map.mpr ⟨g, hg, rfl⟩))).ls) g hg
        have z1 := (gls g hg).1.hi
        have z2 := z.1.hi
        refine ⟨?_, by show g.2.2.length ≤ 6; omega, fun x hx => (z.2.1 x hx).hi⟩
        show (g.1 ++ spS ++ g.2.1).length ≤ 20
        rw [app_len, app_len, show spS.length = 1 by decide +kernel]; omega
      · rw [List.mem_singleton.mp hm]
        exact ⟨by show (Str.ofString "out").length ≤ 20; decide +kernel, G.lo, fun x hx => (G.nm x (G.os x hx)).ls.hi⟩
    refine ⟨rfl, _, rfl, _, rfl, ra, ba, rfl, ⟨_, SqL.of hra8⟩, ⟨_, SqL.of hba8⟩, fun D2 nD2 => ?_⟩
    refine lcZip (K := K) (xs := (headsOf C).map (fun h => V.str h.1)) (ys := (ia :: (qs ++ [oa])).map V.ref) (by rw [List.length_map, List.length_map, lb])
      (fun i zs H9 => zs = (((headsOf C).take i).map (fun h => V.str (Str.join spS (h.1 :: h.2)))) ∧ Same H8 H9 ∧ H9 D2 = some (.lst zs)) ⟨rfl, Same.new nD2, upd_same⟩ (fun i zs H9 _ p => ⟨SqL.of (p.2.1 _ _ hra8), SqL.of (p.2.1 _ _ hba8)⟩) ?_ ?_
    · rintro i x y zs H9 p hx hy ⟨rfl, s9, hD9⟩ np
      rw [List.getElem?_map] at hx hy
      obtain ⟨hh, eh, rfl⟩ := Option.map_eq_some_iff.mp hx
      obtain ⟨b, eb, rfl⟩ := Option.map_eq_some_iff.mp hy
      obtain ⟨b', eb', hb'⟩ := at_pair hpb eh
      rw [eb] at eb'
      cases eb'
      have hlt : i < (headsOf C).length := (List.getElem?_eq_some_iff.mp eh).1
      have et : (headsOf C).take (i + 1) = (headsOf C).take i ++ [hh] := by rw [List.take_add_one, eh]; rfl
      have s10 : Same H8 (upd H9 p (.tup [V.str hh.1, V.ref b])) := s9.trans (Same.new np)
      have hD10 := (Same.new (o := .tup [V.str hh.1, V.ref b]) np) _ _ hD9
      have fin : ∀ H', Same (upd H9 p (.tup [V.str hh.1, V.ref b])) H' → LcN2 [] D2 (fun i zs H9 => zs = (((headsOf C).take i).map (fun h => V.str (Str.join spS (h.1 :: h.2)))) ∧ Same H8 H9 ∧ H9 D2 = some (.lst zs)) i (((headsOf C).take i).map (fun h => V.str (Str.join spS (h.1 :: h.2)))) [some (V.str hh.1), some (V.ref b)] (V.str (Str.join spS (hh.1 :: hh.2))) H' := by
        intro H' sm
        refine ⟨⟨_, _, rfl⟩, sm _ _ hD10, ?_, ?_, ?_, upd_same⟩
        · rw [List.length_map, List.length_take]; exact Nat.lt_of_le_of_lt (show min i (headsOf C).length ≤ 1000 by omega) (by decide)
        · rw [et, List.map_append]; rfl
        · intro c o e
          rw [upd_ne (ne_of_none e nD2)]
          exact sm _ _ (s10 _ _ e)
      have hbs : H9 b = some (.tup (hh.2.map V.str)) := s9 _ _ (s8 _ _ hb')
      have hrow : Str.join spS (hh.1 :: hh.2) ∈ (rowsOf C).map (Str.join spS) := by rw [← hj]; exact List.mem_map.mpr ⟨hh, List.mem_of_getElem? eh, rfl⟩
      refine ⟨rfl, _, rfl, (by show 1 ≤ sizeLine; decide), fun t nt => ⟨_, rfl, t, b, [V.str hh.1], hh.2.map V.str, rfl, rfl, SqT.of upd_same, SqT.of ((Same.new nt) _ _ ((Same.new np) _ _ hbs)), by simp, small_size (by have := (hsz hh (List.mem_of_getElem? eh)).2.1; simp; omega), fun e => ?_, fun ne q nq => ?_⟩⟩
      · have e' : hh.2 = [] := by simpa using e
        refine ⟨spS, t, [hh.1], rfl, rfl, .inr (SqT.of upd_same), by have := (hsz hh (List.mem_of_getElem? eh)).1; simp only [List.map_cons, List.map_nil, List.sum_cons, List.sum_nil, List.length_cons, List.length_nil]; rw [show spS.length = 1 by decide +kernel]; omega, ?_⟩
        rw [show Txt.join spS [hh.1] = Str.join spS [hh.1] from StrLaws.glued_eq_join _ _]
        have := fin _ (Same.new (o := .tup [V.str hh.1]) nt)
        rw [e'] at this
        exact this
      · refine ⟨spS, q, hh.1 :: hh.2, rfl, rfl, .inr (SqT.of upd_same), by have := (hsz hh (List.mem_of_getElem? eh)); have h3 := map_len_le (ys := hh.2) (n := 10) (m := 8) this.2.2 (by omega); simp only [List.map_cons, List.sum_cons, List.length_cons]; rw [show spS.length = 1 by decide +kernel]; omega, ?_⟩
        rw [show Txt.join spS (hh.1 :: hh.2) = Str.join spS (hh.1 :: hh.2) from StrLaws.glued_eq_join _ _]
        exact fin _ ((Same.new nt).trans (Same.new nq))
    · rintro zs H9 ⟨rfl, s9, hD9⟩
      have ez : ((headsOf C).take ((headsOf C).map (fun h => V.str h.1)).length).map (fun h => V.str (Str.join spS (h.1 :: h.2))) = ((rowsOf C).map (Str.join spS)).map V.str := by
        rw [List.length_map, List.take_length, ← hj, List.map_map]; rfl
      rw [ez] at hD9
      refine ⟨nlS, D2, (rowsOf C).map (Str.join spS), rfl, rfl, .inl (SqL.of hD9), ?_, ?_⟩
      · have := map_len_le (ys := (rowsOf C).map (Str.join spS)) (n := 26) (m := 100) (fun y hy => by obtain ⟨r, hr, rfl⟩ := List.mem_map.mp hy; exact row_len G r hr) (by rw [List.length_map]; exact hrm)
        have e3 : nlS.length = 1 := by decide +kernel
        rw [e3, List.length_map]; omega
      · rw [show Txt.join nlS ((rowsOf C).map (Str.join spS)) = textOf C from StrLaws.glued_eq_join _ _]
        exact k _ (s8.trans s9)
end
end Lw
namespace Lw
open PySem L2
noncomputable abbrev Gt := Str × Str × List Str
noncomputable def renG (r : Str → Str) (g : Gt) : Gt := (r g.1, g.2.1, g.2.2.map r)
noncomputable def renC (r : Str → Str) (C : Cel) : Cel := ⟨C.ins.map r, C.gates.map (renG r), C.outs.map r⟩
noncomputable def InjOn (r : Str → Str) (xs : List Str) : Prop := ∀ x ∈ xs, ∀ y ∈ xs, r x = r y → x = y
theorem evalG_ren {r : Str → Str} : ∀ (gs : List Gt) (kn : List Str) (ρ ρ' : Str → Int), GatesOk kn gs → InjOn r (kn ++ gs.map (·.1)) → (∀ x ∈ kn, ρ' (r x) = ρ x) → ∀ x ∈ kn ++ gs.map (·.1), evalG ρ' (gs.map (renG r)) (r x) = evalG ρ gs x
  | [], kn, ρ, ρ', _, _, h, x, hx => by simpa [evalG] using h x (by simpa using hx)
  | g :: gs, kn, ρ, ρ', ok, inj, h, x, hx => by
    have e1 : kn ++ (g :: gs).map (·.1) = (kn ++ [g.1]) ++ gs.map (·.1) := by simp
    rw [e1] at inj hx
    have ih := evalG_ren gs (kn ++ [g.1]) (stepG ρ g) (stepG ρ' (renG r g)) ok.2.2 inj (fun y hy => ?_) x hx
    · exact ih
    · unfold stepG
      have ea : ((renG r g).2.2.map ρ') = g.2.2.map ρ := by
        show (g.2.2.map r).map ρ' = _
        rw [List.map_map]
        exact List.map_congr_left fun z hz => h z (ok.2.1 z hz)
      by_cases z : y = g.1
      · subst z
        rw [if_pos (show r g.1 = (renG r g).1 from rfl), if_pos rfl, ea]
        rfl
      · have hr : ¬ r y = (renG r g).1 := fun q => z (inj y (List.mem_append_left _ hy) g.1 (by simp) q)
        rw [if_neg hr, if_neg z]
        rcases List.mem_append.mp hy with q | q
        · exact h y q
        · exact absurd (List.mem_singleton.mp q) z
theorem GatesOk.ren {r : Str → Str} : ∀ {gs : List Gt} {kn : List Str}, GatesOk kn gs → GatesOk (kn.map r) (gs.map (renG r))
  | [], _, _ => True.intro
  | g :: gs, kn, h => by
    refine ⟨by show ArOk g.2.1 (g.2.2.map r).length; rw [List.length_map]; exact h.1, fun p hp => ?_, ?_⟩
    · obtain ⟨q, hq, rfl⟩ := List.mem_map.mp (show p ∈ g.2.2.map r from hp)
      exact List.mem_map.mpr ⟨q, h.2.1 q hq, rfl⟩
    · have := GatesOk.ren (r := r) h.2.2
      rw [List.map_append] at this
      exact this
theorem names_ren (r : Str → Str) (C : Cel) : (renC r C).names = C.names.map r := by
  unfold Cel.names renC
  simp [List.map_append, List.map_map, renG, Function.comp_def]
theorem nodup_injOn {r : Str → Str} : ∀ {xs : List Str}, xs.Nodup → InjOn r xs → (xs.map r).Nodup
  | [], _, _ => List.nodup_nil
  | x :: xs, h, inj => by
    obtain ⟨h1, h2⟩ := List.nodup_cons.mp h
    rw [List.map_cons]
    refine List.nodup_cons.mpr ⟨fun z => ?_, nodup_injOn h2 fun a ha b hb => inj a (List.mem_cons_of_mem _ ha) b (List.mem_cons_of_mem _ hb)⟩
    obtain ⟨y, hy, e⟩ := List.mem_map.mp z
    have := inj y (List.mem_cons_of_mem _ hy) x List.mem_cons_self e
    exact h1 (this ▸ hy)
theorem Good.ren {C : Cel} (G : Good C) {r : Str → Str} (inj : InjOn r C.names) (gn : ∀ x ∈ C.names, GoodName (r x)) : Good (renC r C) where
  nd := by rw [names_ren]; exact nodup_injOn G.nd inj
  nm := fun x hx => by
    rw [names_ren] at hx
    obtain ⟨y, hy, rfl⟩ := List.mem_map.mp hx
    exact gn y hy
  gt := G.gt.ren
  os := fun o ho => by
    rw [names_ren]
    obtain ⟨y, hy, rfl⟩ := List.mem_map.mp (show o ∈ C.outs.map r from ho)
    exact List.mem_map.mpr ⟨y, G.os y hy, rfl⟩
  ond := nodup_injOn G.ond fun x hx y hy => inj x (G.os x hx) y (G.os y hy)
  li := by show (C.ins.map r).length ≤ 6; rw [List.length_map]; exact G.li
  lg := by show (C.gates.map (renG r)).length ≤ 24; rw [List.length_map]; exact G.lg
  lo := by show (C.outs.map r).length ≤ 6; rw [List.length_map]; exact G.lo
theorem evalC_ren {C : Cel} (G : Good C) {r : Str → Str} (inj : InjOn r C.names) {ρ ρ' : Str → Int} (h : ∀ x ∈ C.ins, ρ' (r x) = ρ x) : ∀ x ∈ C.names, evalC (renC r C) ρ' (r x) = evalC C ρ x := evalG_ren C.gates C.ins ρ ρ' G.gt inj h
theorem GatesOk.mono {gs : List Gt} : ∀ {kn kn' : List Str}, (∀ x ∈ kn, x ∈ kn') → GatesOk kn gs → GatesOk kn' gs := by
  induction gs with
  | nil => intro _ _ _ _; trivial
  | cons g gs ih =>
    intro kn kn' hs h
    refine ⟨h.1, fun p hp => hs p (h.2.1 p hp), ih (fun x hx => ?_) h.2.2⟩
    rcases List.mem_append.mp hx with q | q
    · exact List.mem_append_left _ (hs x q)
    · exact List.mem_append_right _ q
theorem Good.turn {C : Cel} (G : Good C) {is os : List Str} (hi : is.Perm C.ins) (ho : os.Perm C.outs) : Good ⟨is, C.gates, os⟩ where
  nd := ((hi.append_right _).nodup_iff).mpr G.nd
  nm := fun x hx => G.nm x (((hi.append_right _).mem_iff).mp hx)
  gt := G.gt.mono fun x hx => hi.mem_iff.mpr hx
  os := fun o h => ((hi.append_right _).mem_iff).mpr (G.os o (ho.mem_iff.mp h))
  ond := ho.nodup_iff.mpr G.ond
  li := by rw [hi.length_eq]; exact G.li
  lg := G.lg
  lo := by rw [ho.length_eq]; exact G.lo
noncomputable def exG (g : Gt) (f1 f2 f3 f4 : Str) : List Gt :=
  if (g.2.1 = "and" ∨ g.2.1 = "or") ∧ g.2.2.length = 2 then [(f1, "not", g.2.2.take 1), (f2, "not", g.2.2.drop 1), (f3, if g.2.1 = "or" then "and" else "or", [f1, f2]), (g.1, "not", [f3])]
  else if (g.2.1 = "and" ∨ g.2.1 = "or" ∨ g.2.1 = "odd") ∧ g.2.2.length = 3 then [(f1, g.2.1, g.2.2.take 2), (g.1, g.2.1, f1 :: g.2.2.drop 2)]
  else if g.2.1 = "most" then [(f1, "and", g.2.2.take 2), (f2, "or", g.2.2.take 2), (f3, "and", f2 :: g.2.2.drop 2), (g.1, "or", [f1, f3])]
  else if g.2.1 = "nil" then [(f1, "one", []), (g.1, "odd", [f1, f1])]
  else [g, (f4, "not", [g.1])]
theorem evalG_append : ∀ (xs ys : List Gt) (ρ : Str → Int), evalG ρ (xs ++ ys) = evalG (evalG ρ xs) ys
  | [], _, _ => rfl
  | x :: xs, ys, ρ => evalG_append xs ys _
structure Fr4 (g : Gt) (f1 f2 f3 f4 : Str) : Prop where
  n12 : f1 ≠ f2
  n13 : f1 ≠ f3
  n23 : f2 ≠ f3
  a1 : ∀ p ∈ g.2.2, p ≠ f1
  a2 : ∀ p ∈ g.2.2, p ≠ f2
  a3 : ∀ p ∈ g.2.2, p ≠ f3
  g1 : g.1 ≠ f1
  g2 : g.1 ≠ f2
  g3 : g.1 ≠ f3
theorem dm_and {i j : Int} (hi : Bit i) (hj : Bit j) : gateVal "not" [gateVal "or" [gateVal "not" [i], gateVal "not" [j]]] = gateVal "and" [i, j] := by
  rcases hi with rfl | rfl <;> rcases hj with rfl | rfl <;> decide +kernel
theorem dm_or {i j : Int} (hi : Bit i) (hj : Bit j) : gateVal "not" [gateVal "and" [gateVal "not" [i], gateVal "not" [j]]] = gateVal "or" [i, j] := by
  rcases hi with rfl | rfl <;> rcases hj with rfl | rfl <;> decide +kernel
theorem ex_eval {g : Gt} {f1 f2 f3 f4 : Str} {ρ : Str → Int} (ok : ArOk g.2.1 g.2.2.length) (hb : ∀ p ∈ g.2.2, Bit (ρ p)) (F : Fr4 g f1 f2 f3 f4) : ∀ x, x ≠ f1 → x ≠ f2 → x ≠ f3 → x ≠ f4 → evalG ρ (exG g f1 f2 f3 f4) x = stepG ρ g x := by
  intro x h1 h2 h3 h4
  obtain ⟨nm, wd, ps⟩ := g
  obtain ⟨n12, n13, n23, a1, a2, a3, g1, g2, g3⟩ := F
  dsimp only at ok hb a1 a2 a3 g1 g2 g3
  unfold exG stepG
  dsimp only
  split
  · rename_i c
    obtain ⟨cw, cl⟩ := c
    match ps, cl with
    | [p, q], _ =>
      have hp := hb p (by simp)
      have hq := hb q (by simp)
      have p1 := a1 p (by simp); have q1 := a1 q (by simp)
      simp only [List.take, List.drop, evalG, List.map]
      by_cases z : x = nm
      · subst z
        simp only [h1, h2, h3, if_true, if_false, n12, n13, n23, n12.symm, n13.symm, n23.symm, p1, q1, if_neg, ne_eq, not_false_eq_true]
        generalize ρ p = i at hp
        generalize ρ q = j at hq
        rcases cw with rfl | rfl
        · rw [if_neg (show ¬ (("and" : Str) = "or") by decide +kernel)]
          exact dm_and hp hq
        · rw [if_pos rfl]
          exact dm_or hp hq
      · simp only [h1, h2, h3, z, if_false]
  · rename_i c0
    split
    · rename_i c
      obtain ⟨cw, cl⟩ := c
      match ps, cl with
      | [p, q, s], _ =>
        have hp := hb p (by simp)
        have hq := hb q (by simp)
        have hs := hb s (by simp)
        have s1 := a1 s (by simp)
        simp only [List.take, List.drop, evalG, List.map]
        by_cases z : x = nm
        · subst z
          simp only [h1, if_true, if_false, s1]
          generalize ρ p = i at hp
          generalize ρ q = j at hq
          generalize ρ s = k at hs
          rcases cw with rfl | rfl | rfl <;> rcases hp with rfl | rfl <;> rcases hq with rfl | rfl <;> rcases hs with rfl | rfl <;> decide +kernel
        · simp only [h1, z, if_false]
    · split
      · rename_i c
        subst c
        have hl : ps.length = 3 := by
          rcases ok.ok with ⟨q, _⟩ | ⟨_, q⟩ | ⟨q, _⟩ | ⟨q, _⟩ | ⟨q, _⟩
          · exact absurd q (by decide +kernel)
          · exact q
          all_goals exact absurd q (by decide +kernel)
        match ps, hl with
        | [p, q, s], _ =>
          have hp := hb p (by simp)
          have hq := hb q (by simp)
          have hs := hb s (by simp)
          have p1 := a1 p (by simp); have q1 := a1 q (by simp); have s1 := a1 s (by simp); have s2 := a2 s (by simp)
          simp only [List.take, List.drop, evalG, List.map]
          by_cases z : x = nm
          · subst z
            simp only [h1, h2, h3, if_true, if_false, n12, n13, n23, n12.symm, n13.symm, n23.symm, p1, q1, s1, s2]
            generalize ρ p = i at hp
            generalize ρ q = j at hq
            generalize ρ s = k at hs
            rcases hp with rfl | rfl <;> rcases hq with rfl | rfl <;> rcases hs with rfl | rfl <;> decide +kernel
          · simp only [h1, h2, h3, z, if_false]
      · split
        · rename_i c
          subst c
          simp only [evalG, List.map]
          by_cases z : x = nm
          · subst z
            simp only [h1, if_true, if_false]
            have : ps = [] := by
              rcases ok.ok with ⟨q, _⟩ | ⟨q, _⟩ | ⟨q, _⟩ | ⟨q, _⟩ | ⟨_, q⟩
              · exact absurd q (by decide +kernel)
              · exact absurd q (by decide +kernel)
              · exact absurd q (by decide +kernel)
              · exact absurd q (by decide +kernel)
              · exact List.length_eq_zero_iff.mp q
            subst this
            show gateVal "odd" [gateVal "one" [], gateVal "one" []] = gateVal "nil" []
            decide +kernel
          · simp only [h1, z, if_false]
        · simp only [evalG, List.map, h4, if_false]
end Lw
namespace Lw
open PySem L2
theorem GatesOk.app : ∀ {xs ys : List Gt} {kn : List Str}, GatesOk kn xs → GatesOk (kn ++ xs.map (·.1)) ys → GatesOk kn (xs ++ ys)
  | [], _, _, _, h => by simpa using h
  | x :: xs, ys, kn, h, h' => ⟨h.1, h.2.1, GatesOk.app h.2.2 (by simpa using h')⟩
theorem exG_ok {g : Gt} {f1 f2 f3 f4 : Str} {kn : List Str} (ok : ArOk g.2.1 g.2.2.length) (ha : ∀ p ∈ g.2.2, p ∈ kn) : GatesOk kn (exG g f1 f2 f3 f4) := by
  obtain ⟨nm, wd, ps⟩ := g
  dsimp only at ok ha
  have two : ∀ {n : Nat} {w : Str}, (w = "and" ∨ w = "or" ∨ w = "odd") → (n = 2 ∨ n = 3) → ArOk w n := fun {n w} h1 h2 => ⟨.inl ⟨by unfold two3; rcases h1 with rfl | rfl | rfl <;> simp, h2⟩⟩
  have nt : ArOk "not" 1 := ⟨.inr (.inr (.inl ⟨rfl, rfl⟩))⟩
  unfold exG
  dsimp only
  split
  · rename_i c
    match ps, c.2 with
    | [p, q], _ =>
      refine ⟨nt, fun x hx => ha x (by simp at hx; simp [hx]), nt, fun x hx => ?_, two ?_ (.inl rfl), fun x hx => ?_, nt, fun x hx => ?_, True.intro⟩
      · simp at hx; subst hx; exact List.mem_append_left _ (ha _ (by simp))
      · split <;> simp
      · simp at hx; rcases hx with rfl | rfl <;> simp
      · simp at hx; subst hx; simp
  · split
    · rename_i c
      match ps, c.2 with
      | [p, q, s], _ =>
        refine ⟨two c.1 (.inl rfl), fun x hx => ha x (by simp at hx; rcases hx with rfl | rfl <;> simp), two c.1 (.inl rfl), fun x hx => ?_, True.intro⟩
        simp at hx
        rcases hx with rfl | rfl
        · simp
        · exact List.mem_append_left _ (ha _ (by simp))
    · split
      · rename_i c
        subst c
        have hl : ps.length = 3 := by
          rcases ok.ok with ⟨q, _⟩ | ⟨_, q⟩ | ⟨q, _⟩ | ⟨q, _⟩ | ⟨q, _⟩
          · exact absurd q (by decide +kernel)
          · exact q
          all_goals exact absurd q (by decide +kernel)
        match ps, hl with
        | [p, q, s], _ =>
          refine ⟨two (by simp) (.inl rfl), fun x hx => ha x (by simp at hx; rcases hx with rfl | rfl <;> simp), two (by simp) (.inl rfl), fun x hx => ?_, two (by simp) (.inl rfl), fun x hx => ?_, two (by simp) (.inl rfl), fun x hx => ?_, True.intro⟩
          · simp at hx; exact List.mem_append_left _ (ha x (by rcases hx with rfl | rfl <;> simp))
          · simp at hx
            rcases hx with rfl | rfl
            · simp
            · exact List.mem_append_left _ (List.mem_append_left _ (ha _ (by simp)))
          · simp at hx; rcases hx with rfl | rfl <;> simp
      · split
        · exact ⟨⟨.inr (.inr (.inr (.inl ⟨rfl, rfl⟩)))⟩, fun x hx => by simp at hx, two (by simp) (.inl rfl), fun x hx => by simp at hx; subst hx; simp, True.intro⟩
        · exact ⟨ok, ha, nt, fun x hx => by simp at hx; subst hx; simp, True.intro⟩
theorem exG_names {g : Gt} {f1 f2 f3 f4 : Str} : g.1 ∈ (exG g f1 f2 f3 f4).map (·.1) ∧ (∀ x ∈ (exG g f1 f2 f3 f4).map (·.1), x = g.1 ∨ x = f1 ∨ x = f2 ∨ x = f3 ∨ x = f4) ∧ (exG g f1 f2 f3 f4).length ≤ 4 := by
  unfold exG
  repeat' split
  all_goals (refine ⟨by simp, fun x hx => ?_, by simp⟩; simp at hx; first | (rcases hx with rfl | rfl | rfl | rfl <;> simp) | (rcases hx with rfl | rfl <;> simp))
theorem exG_nd {g : Gt} {f1 f2 f3 f4 : Str} (F : Fr4 g f1 f2 f3 f4) (g4 : g.1 ≠ f4) : ((exG g f1 f2 f3 f4).map (·.1)).Nodup := by
  obtain ⟨n12, n13, n23, a1, a2, a3, g1, g2, g3⟩ := F
  unfold exG
  repeat' split
  all_goals simp [n12, n13, n23, g1.symm, g2.symm, g3.symm, g1, g2, g3, g4]
noncomputable def frN (k i : Nat) : Str := ⟨#[118, 97 + k, 119 + i]⟩
theorem frN_inj {k i k' i' : Nat} (h : frN k i = frN k' i') : k = k' ∧ i = i' := by
  unfold frN at h
  injection h with h
  simp at h
  omega
noncomputable def owStep (k : Nat) (g : Gt) (c : Bool) : List Gt := if c then exG g (frN k 0) (frN k 1) (frN k 2) (frN k 3) else [g]
noncomputable def owG (count : Nat) : Nat → List Gt → List Gt → List Gt
  | _, [], acc => acc
  | k, g :: gs, acc => owG count (k + 1) gs (acc ++ owStep k g (decide (gs.length + 1 + acc.length + 3 ≤ count)))
structure OwOk (ins : List Str) (ρ : Str → Int) (k : Nat) (pre acc : List Gt) : Prop where
  ok : GatesOk ins acc
  nd : (ins ++ acc.map (·.1)).Nodup
  sub : ∀ x ∈ acc.map (·.1), x ∈ pre.map (·.1) ∨ ∃ k' i, k' < k ∧ i < 4 ∧ x = frN k' i
  sup : ∀ x ∈ pre.map (·.1), x ∈ acc.map (·.1)
  ev : ∀ x ∈ ins ++ pre.map (·.1), evalG ρ acc x = evalG ρ pre x
theorem evalG_bit : ∀ (gs : List Gt) (ρ : Str → Int) (xs : List Str), (∀ x ∈ xs, Bit (ρ x)) → ∀ x ∈ xs ++ gs.map (·.1), Bit (evalG ρ gs x)
  | [], ρ, xs, h, x, hx => h x (by simpa using hx)
  | g :: gs, ρ, xs, h, x, hx => by
    have e : xs ++ (g :: gs).map (·.1) = (xs ++ [g.1]) ++ gs.map (·.1) := by simp
    rw [e] at hx
    refine evalG_bit gs (stepG ρ g) (xs ++ [g.1]) (fun y hy => ?_) x hx
    unfold stepG
    split
    · exact gateVal_bit _ _
    · rename_i n
      rcases List.mem_append.mp hy with q | q
      · exact h y q
      · exact absurd (List.mem_singleton.mp q) n
theorem OwOk.step {ins : List Str} {ρ : Str → Int} {k : Nat} {pre acc : List Gt} {g : Gt} (O : OwOk ins ρ k pre acc) (hρ : ∀ x ∈ ins, Bit (ρ x)) (og : ArOk g.2.1 g.2.2.length) (ag : ∀ p ∈ g.2.2, p ∈ ins ++ pre.map (·.1)) (ng : g.1 ∉ ins ++ pre.map (·.1)) (fr : ∀ x ∈ (ins ++ pre.map (·.1)) ++ [g.1], ∀ k i, x ≠ frN k i) (c : Bool) :
    OwOk ins ρ (k + 1) (pre ++ [g]) (acc ++ owStep k g c) := by
  have inacc : ∀ p ∈ ins ++ pre.map (·.1), p ∈ ins ++ acc.map (·.1) := fun p hp => by
    rcases List.mem_append.mp hp with q | q
    · exact List.mem_append_left _ q
    · exact List.mem_append_right _ (O.sup p q)
  have fg : ∀ k i, g.1 ≠ frN k i := fun k i => fr g.1 (by simp) k i
  have fp : ∀ p ∈ g.2.2, ∀ k i, p ≠ frN k i := fun p hp k i => fr p (List.mem_append_left _ (ag p hp)) k i
  have F4 : Fr4 g (frN k 0) (frN k 1) (frN k 2) (frN k 3) := ⟨fun z => by have := (frN_inj z).2; omega, fun z => by have := (frN_inj z).2; omega, fun z => by have := (frN_inj z).2; omega, fun p hp => fp p hp k 0, fun p hp => fp p hp k 1, fun p hp => fp p hp k 2, fg k 0, fg k 1, fg k 2⟩
  have args : g.2.2.map (evalG ρ acc) = g.2.2.map (evalG ρ pre) := List.map_congr_left fun p hp => O.ev p (ag p hp)
  have hb : ∀ p ∈ g.2.2, Bit (evalG ρ acc p) := fun p hp => by
    rw [O.ev p (ag p hp)]
    exact evalG_bit pre ρ ins hρ p (ag p hp)
  have nacc : g.1 ∉ ins ++ acc.map (·.1) := fun z => by
    rcases List.mem_append.mp z with q | q
    · exact ng (List.mem_append_left _ q)
    · rcases O.sub g.1 q with y | ⟨k', i, _, _, y⟩
      · exact ng (List.mem_append_right _ y)
      · exact fg k' i y
  have stp : ∀ x, (∀ k i, x ≠ frN k i) → evalG ρ (acc ++ owStep k g c) x = stepG (evalG ρ acc) g x := fun x hx => by
    rw [evalG_append]
    unfold owStep
    cases c with
    | true => exact ex_eval og hb F4 x (hx k 0) (hx k 1) (hx k 2) (hx k 3)
    | false => rfl
  have nms : (∀ x ∈ (owStep k g c).map (·.1), x = g.1 ∨ ∃ i, i < 4 ∧ x = frN k i) ∧ g.1 ∈ (owStep k g c).map (·.1) ∧ ((owStep k g c).map (·.1)).Nodup ∧ GatesOk (ins ++ acc.map (·.1)) (owStep k g c) := by
    unfold owStep
    cases c with
    | true =>
      refine ⟨fun x hx => ?_, exG_names.1, exG_nd F4 (fg k 3), exG_ok og fun p hp => inacc p (ag p hp)⟩
      rcases exG_names.2.1 x hx with z | z | z | z | z
      · exact .inl z
      · exact .inr ⟨0, by decide, z⟩
      · exact .inr ⟨1, by decide, z⟩
      · exact .inr ⟨2, by decide, z⟩
      · exact .inr ⟨3, by decide, z⟩
    | false => exact ⟨fun x hx => .inl (by simpa using hx), by simp, by simp, og, fun p hp => inacc p (ag p hp), True.intro⟩
  refine ⟨O.ok.app nms.2.2.2, ?_, fun x hx => ?_, fun x hx => ?_, fun x hx => ?_⟩
  · rw [List.map_append, ← List.append_assoc]
    refine List.nodup_append.mpr ⟨O.nd, nms.2.2.1, fun x hx y hy e => ?_⟩
    subst e
    rcases nms.1 x hy with z | ⟨i, hi, z⟩
    · exact nacc (z ▸ hx)
    · rcases List.mem_append.mp hx with q | q
      · exact fr x (by simp [q]) k i z
      · rcases O.sub x q with y | ⟨k', i', hk, _, y⟩
        · exact fr x (List.mem_append_left _ (List.mem_append_right _ y)) k i z
        · have := (frN_inj (y.symm.trans z)).1
          omega
  · rw [List.map_append] at hx ⊢
    rcases List.mem_append.mp hx with q | q
    · rcases O.sub x q with y | ⟨k', i, hk, hi, y⟩
      · exact .inl (List.mem_append_left _ y)
      · exact .inr ⟨k', i, by omega, hi, y⟩
    · rcases nms.1 x q with z | ⟨i, hi, z⟩
      · exact .inl (by simp [z])
      · exact .inr ⟨k, i, by omega, hi, z⟩
  · rw [List.map_append] at hx ⊢
    rcases List.mem_append.mp hx with q | q
    · exact List.mem_append_left _ (O.sup x q)
    · have : x = g.1 := by simpa using q
      rw [this]
      exact List.mem_append_right _ nms.2.1
  · rw [List.map_append, ← List.append_assoc] at hx
    rw [stp x (fun k i => fr x (by simpa using hx) k i), evalG_snoc]
    unfold stepG
    split
    · rw [args]
    · rename_i n
      rcases List.mem_append.mp hx with q | q
      · exact O.ev x q
      · exact absurd (by simpa using q) n
end Lw
namespace Lw
open PySem L2
theorem catT_new {K : PySem.W.Frag} {H0 H : Hp} {t b : Addr} {xs ys : List V} {Q : VK} (ht : H t = some (.tup xs)) (hb : H b = some (.tup ys)) (nx : xs ≠ []) (sz : xs.length + ys.length ≤ 1000) (z : H0 t = none) (s : Same H0 H)
    (k : ∀ q H', H0 q = none → H' q = some (.tup (xs ++ ys)) → Same H H' → Q (.ref q) H') : rCatT K (.ref t) (.ref b) H Q := by
  refine ⟨t, b, xs, ys, rfl, rfl, SqT.of ht, SqT.of hb, nx, small_size sz, fun e => ?_, fun _ p np => ?_⟩
  · subst e
    exact k t H z (by rw [List.append_nil]; exact ht) (Same.refl H)
  · exact k p _ (s.free np) upd_same (Same.new np)
noncomputable def TupAt (H : Hp) (a : Addr) (r : List Str) : Prop := H a = some (.tup (r.map V.str))
theorem rows_take (C : Cel) {i : Nat} {g : Gt} (hg : C.gates[i]? = some g) : (rowsOf C).take (i + 2) = (rowsOf C).take (i + 1) ++ [g.1 :: g.2.1 :: g.2.2] := by
  have hlt := (List.getElem?_eq_some_iff.mp hg).1
  refine take_snoc ?_
  unfold rowsOf
  rw [List.getElem?_cons_succ, List.getElem?_append_left (by simpa using hlt), List.getElem?_map, hg]
  rfl
theorem rows_all (C : Cel) : (rowsOf C).take (C.gates.length + 1) ++ [("out" : Str) :: C.outs] = rowsOf C := by
  unfold rowsOf
  simp
theorem row_parts {C : Cel} (G : Good C) {r : List Str} (h : r ∈ rowsOf C) : (r.map (·.length)).sum + r.length * 1 ≤ 1000 := by
  have hls := rows_ls G r h
  have := map_len_le (ys := r) (n := 10) (m := 10) (fun x hx => by have := (hls.2.2 x hx).hi; omega) (by have := hls.2.1; omega)
  have := hls.2.1
  omega
section
variable {P : Program} {w : World} {K : PySem.W.Frag} {mg : Str → Option Value} {base : Heap}
theorem scShown : FnScope ["cell", "rows", "name", "word", "names"] ["cell"] (defScope sShown) := ⟨rfl, rfl, rfl, by decide +kernel, rfl, by decide +kernel, by decide +kernel⟩
set_option maxHeartbeats 2000000 in
theorem ok_shown {f : Addr} {fd : FuncData} (F : Fun K "cell_shown" "cell_shown" sShown f fd) : FnOk P w K mg base CX0 1 f fd ["cell"] spText := by
  refine F.ok scShown (fun vs H Q E h => ?_) (fun cdv A outer s H vs Q E hr h => ?_)
  · obtain ⟨ce, C, rfl, _⟩ := h
    rfl
  · obtain ⟨ce, C, rfl, hC, G, k⟩ := h
    obtain ⟨ia, ga, oa, as, c1, c2, c3, c4, c5⟩ := hC.ex
    have li := G.li
    have lg := G.lg
    have lo := G.lo
    have la : as.length = C.gates.length := c5.length
    refine ex_cut (fun σ H2 => ∃ (rr a0 : Addr), σ = [some (.ref ce), some (.ref rr), none, none, none] ∧ H2 rr = some (.lst [V.ref a0]) ∧ TupAt H2 a0 (("in" : Str) :: C.ins) ∧ H rr = none ∧ Same H H2) (fun u hu' => ?_) ?_
    · refine ⟨_, ps_set (i := 1) scShown.nd rfl (Or.inl rfl) (pe_lst (pa_c (pe_op op_catT (pe_tup (pa_c pe_str pa_nil)) (pe_ix ix_tup (pv 0) pe_int (fun _ _ => rfl))) pa_nil)), ?_⟩
      refine ⟨(by show 1 ≤ sizeLine; decide), fun t nt => ⟨_, rfl, ce, _, _, .ref ia, rfl, rfl, SqT.of ((Same.new nt) _ _ c1), rfl, ?_⟩⟩
      refine catT_new (H0 := H) upd_same ((Same.new nt) _ _ c2) (by simp) (by simp; omega) nt (Same.new nt) fun q H' zq hq s' => ?_
      refine ⟨(by show 1 ≤ sizeLine; decide), fun rr nr => hu' _ _ ⟨rr, q, rfl, upd_same, (Same.new nr) _ _ hq, ((Same.new nt).trans s').free nr, ((Same.new nt).trans s').trans (Same.new nr)⟩⟩
    rintro σ H2 ⟨rr, a0, rfl, hr2, ha0, zrr, s2⟩
    refine ex_cut (fun σ H3 => ∃ (rs : List Addr) (v2 v3 v4 : Option V), σ = [some (.ref ce), some (.ref rr), v2, v3, v4] ∧ H3 rr = some (.lst (rs.map V.ref)) ∧ rs.length = C.gates.length + 1 ∧ Paired (TupAt H3) rs ((rowsOf C).take (C.gates.length + 1)) ∧ Same H H3) (fun u hu' => ?_) ?_
    · refine ⟨_, ps_for PassesOwn.never rfl (pi_tup (pe_ix ix_tup (pv 0) pe_int (fun _ _ => rfl))) (pg_tup rfl (pgs_cons (pg_name (i := 2) scShown.nd rfl (Or.inl rfl)) (pgs_cons (pg_name (i := 3) scShown.nd rfl (Or.inl rfl)) (pgs_cons (pg_name (i := 4) scShown.nd rfl (Or.inl rfl)) pgs_nil))))
        (pss_one (ps_expr (pe_bm PySem.F.plainAttrs_list PySem.F.slot_list_append PySem.F.type_list_append mt_append (pv 1) (pa_c (pe_op op_catT (pe_tup (pa_c (pv 2) (pa_c (pv 3) pa_nil))) (pv 4)) pa_nil)))), ?_⟩
      refine ⟨_, rfl, ce, _, _, .ref ga, rfl, rfl, SqT.of (s2 _ _ c1), rfl, ga, rfl, ⟨_, SqT.of (s2 _ _ c3)⟩, ?_⟩
      refine for_tup (K := K) (a := ga) (xs := as.map V.ref) (fun i σ H3 => ∃ (rs : List Addr) (v2 v3 v4 : Option V), σ = [some (.ref ce), some (.ref rr), v2, v3, v4] ∧ H3 rr = some (.lst (rs.map V.ref)) ∧ rs.length = i + 1 ∧ Paired (TupAt H3) rs ((rowsOf C).take (i + 1)) ∧ Same H H3)
        ⟨[a0], none, none, none, rfl, hr2, rfl, .cons ha0 .nil, s2⟩ (fun i σ H3 _ ⟨_, _, _, _, _, _, _, _, s3⟩ => SqT.of (s3 _ _ c3)) ?_ ?_
      · rintro i x σ H3 hx ⟨rs, v2, v3, v4, rfl, hr3, hrl, hp, s3⟩
        obtain ⟨a1, ha1, rfl⟩ := ref_item hx
        obtain ⟨g, hg, q, g1, g2⟩ := paired_get c5 ha1
        have hi : i < C.gates.length := (List.getElem?_eq_some_iff.mp hg).1
        obtain ⟨hok, hps⟩ := G.gt.at hg
        have hpl : g.2.2.length ≤ 3 := by rcases hok.ok with ⟨_, z | z⟩ | ⟨_, z⟩ | ⟨_, z⟩ | ⟨_, z⟩ | ⟨_, z⟩ <;> omega
        refine ⟨a1, _, rfl, SqT.of (s3 _ _ g1), rfl, _, _, rfl, _, _, rfl, _, _, rfl, rfl, ?_⟩
        refine ⟨_, rfl, .inl ⟨rfl, _, SqL.of hr3⟩, _, rfl, _, rfl, (by show 2 ≤ sizeLine; decide), fun t nt => ⟨_, rfl, ?_⟩⟩
        refine catT_new (H0 := H3) upd_same ((Same.new nt) _ _ (s3 _ _ g2)) (by simp) (by simp; omega) nt (Same.new nt) fun q2 H' zq hq s' => ?_
        have s4 : Same H3 H' := (Same.new nt).trans s'
        have hr4 := s4 _ _ hr3
        refine ⟨rr, _, _, rfl, rfl, hr4, ?_, rs ++ [q2], _, _, _, rfl, ?_, by simp [hrl], ?_, ?_⟩
        · rw [List.length_map]; exact Nat.lt_of_lt_of_le (show rs.length < 1000 by omega) (by decide)
        · rw [upd_same]; simp
        · rw [rows_take C hg]
          refine paired_snoc (L2.Paired.mapP hp fun a b z => ?_) ?_
          · unfold TupAt at z ⊢
            rw [upd_ne (ne_of z hr3 (fun q => nomatch q))]; exact s4 _ _ z
          · unfold TupAt
            rw [upd_ne (ne_of hq hr4 (fun q => nomatch q)), hq]; rfl
        · exact fun c o e => by rw [upd_ne (ne_of_none e zrr)]; exact s4 c o (s3 c o e)
      · rintro σ H3 ⟨rs, v2, v3, v4, rfl, hr3, hrl, hp, s3⟩
        rw [List.length_map, la] at hrl hp
        exact hu' _ _ ⟨rs, v2, v3, v4, rfl, hr3, hrl, hp, s3⟩
    rintro σ H3 ⟨rs, v2, v3, v4, rfl, hr3, hrl, hp3, s3⟩
    refine ex_cut (fun σ H4 => ∃ (rs : List Addr), σ = [some (.ref ce), some (.ref rr), v2, v3, v4] ∧ H4 rr = some (.lst (rs.map V.ref)) ∧ rs.length = C.gates.length + 2 ∧ Paired (TupAt H4) rs (rowsOf C) ∧ Same H H4) (fun u hu' => ?_) ?_
    · refine ⟨_, ps_expr (pe_bm PySem.F.plainAttrs_list PySem.F.slot_list_append PySem.F.type_list_append mt_append (pv 1) (pa_c (pe_op op_catT (pe_tup (pa_c pe_str pa_nil)) (pe_ix ix_tup (pv 0) pe_int (fun _ _ => rfl))) pa_nil)), ?_⟩
      refine ⟨_, rfl, .inl ⟨rfl, _, SqL.of hr3⟩, (by show 1 ≤ sizeLine; decide), fun t nt => ⟨_, rfl, ce, _, _, .ref oa, rfl, rfl, SqT.of ((Same.new nt) _ _ (s3 _ _ c1)), rfl, ?_⟩⟩
      refine catT_new (H0 := H3) upd_same ((Same.new nt) _ _ (s3 _ _ c4)) (by simp) (by simp; omega) nt (Same.new nt) fun q2 H' zq hq s' => ?_
      have s4 : Same H3 H' := (Same.new nt).trans s'
      have hr4 := s4 _ _ hr3
      refine ⟨rr, _, _, rfl, rfl, hr4, ?_, hu' _ _ ⟨rs ++ [q2], rfl, ?_, by simp [hrl], ?_, ?_⟩⟩
      · rw [List.length_map]; exact Nat.lt_of_lt_of_le (show rs.length < 1000 by omega) (by decide)
      · rw [upd_same]; simp
      · rw [← rows_all C]
        refine paired_snoc (L2.Paired.mapP hp3 fun a b z => ?_) ?_
        · unfold TupAt at z ⊢
          rw [upd_ne (ne_of z hr3 (fun q => nomatch q))]; exact s4 _ _ z
        · unfold TupAt
          rw [upd_ne (ne_of hq hr4 (fun q => nomatch q)), hq]; rfl
      · exact fun c o e => by rw [upd_ne (ne_of_none e zrr)]; exact s4 c o (s3 c o e)
    rintro σ H4 ⟨rs, rfl, hr4, hrl, hp4, s4⟩
    refine ⟨_, pss_one (ps_ret (pe_bm PySem.F.plainAttrs_str PySem.F.slot_str_join PySem.F.type_str_join mt_join pe_str (pa_c (pe_lc ["row"] [] [] rfl (pi_list (pv 1)) rfl rfl
      (fun s₀ H₀ C cl fp => pg_name (i := 0) (nd1 _) rfl (Or.inl rfl)) (fun s₀ H₀ C cl fp => pifs_nil)
      (fun s₀ H₀ C cl fp => pe_bmK K (r := rJoin K) PySem.F.plainAttrs_str PySem.F.slot_str_join PySem.F.type_str_join mt_join pe_str (pa_c (pv 0) pa_nil))) pa_nil))), ?_⟩
    refine ⟨rfl, _, rfl, rr, rfl, ⟨_, SqL.of hr4⟩, fun D0 nD0 => ?_⟩
    have hrm := rows_many G
    refine lc1y yields_list (fun i zs H9 => zs = (((rowsOf C).take i).map (fun r => V.str (Str.join spS r))) ∧ Same H4 H9 ∧ H9 D0 = some (.lst zs)) ⟨rfl, Same.new nD0, upd_same⟩ (fun i zs H9 _ p => SqL.of (p.2.1 _ _ hr4)) ?_ ?_
    · rintro i x zs H9 hx ⟨rfl, s9, hD9⟩
      obtain ⟨a1, ha1, rfl⟩ := ref_item hx
      obtain ⟨r, hrr, hat⟩ := paired_get hp4 ha1
      have et : (rowsOf C).take (i + 1) = (rowsOf C).take i ++ [r] := take_snoc hrr
      refine ⟨rfl, _, rfl, spS, a1, r, rfl, rfl, .inr (SqT.of (s9 _ _ hat)), ?_, ?_⟩
      · have := row_parts G (List.mem_of_getElem? hrr)
        rw [show spS.length = 1 by decide +kernel]; omega
      · rw [show Txt.join spS r = Str.join spS r from StrLaws.glued_eq_join _ _]
        refine ⟨⟨_, rfl⟩, hD9, ?_, ?_, ?_, upd_same⟩
        · rw [List.length_map, List.length_take]; exact Nat.lt_of_le_of_lt (show min i (rowsOf C).length ≤ 1000 by omega) (by decide)
        · rw [et, List.map_append]; rfl
        · intro c o e
          rw [upd_ne (ne_of_none e nD0)]
          exact s9 _ _ e
    · rintro zs H9 ⟨rfl, s9, hD9⟩
      have hlr : rs.length = (rowsOf C).length := paired_len hp4
      have ez : ((rowsOf C).take (rs.map V.ref).length).map (fun r => V.str (Str.join spS r)) = ((rowsOf C).map (Str.join spS)).map V.str := by
        rw [List.length_map, hlr, List.take_length, List.map_map]; rfl
      rw [ez] at hD9
      refine ⟨nlS, D0, (rowsOf C).map (Str.join spS), rfl, rfl, .inl (SqL.of hD9), ?_, ?_⟩
      · have := map_len_le (ys := (rowsOf C).map (Str.join spS)) (n := 26) (m := 100) (fun y hy => by obtain ⟨r, hr, rfl⟩ := List.mem_map.mp hy; exact row_len G r hr) (by rw [List.length_map]; exact hrm)
        have e3 : nlS.length = 1 := by decide +kernel
        rw [e3, List.length_map]; omega
      · rw [show Txt.join nlS ((rowsOf C).map (Str.join spS)) = textOf C from StrLaws.glued_eq_join _ _]
        exact k _ (s4.trans s9)
end
end Lw
namespace Lw
open PySem L2
noncomputable def spCell9 : Sp := fun vs H Q _ => ∃ (d c : Addr) (a b : Nat), vs = [.ref d, .int a, .int b] ∧ DeckAt H d c ∧ a ≤ 6 ∧ b ≤ 24 ∧ ∀ (ce : Addr) (C : Cel) (H' : Hp), H ce = none → CellAt H' ce C → Good C → C.gates.length ≤ b → DeckAt H' d c → Keep d c H H' → Q (.ref ce) H'
section
variable {P : Program} {w : World} {K : PySem.W.Frag} {mg : Str → Option Value} {base : Heap}
set_option maxHeartbeats 4000000 in
theorem ok_cell9 {f fT fN fG : Addr} {fd fdT fdN fdG : FuncData} (F : Fun K "_law_cell" "_law_cell" sCell f fd) (T : Txt mg) (gT : Gd K mg "_law_take" sTake ["deck", "many"] fT fdT) (gN : Gd K mg "_law_names" sNames ["deck", "many"] fN fdN)
    (gG : Gd K mg "_law_gate" sGate ["deck", "known"] fG fdG) (GT : FnOk P w K mg base CX0 1 fT fdT ["deck", "many"] spTake) (GN : FnOk P w K mg base CX0 3 fN fdN ["deck", "many"] spNames) (GG : FnOk P w K mg base CX0 2 fG fdG ["deck", "known"] spGate) :
    FnOk P w K mg base CX0 4 f fd ["deck", "inputs", "gates"] spCell9 := by
  refine F.ok scCell (fun vs H Q E h => ?_) (fun cdv A outer s H vs Q E hr h => ?_)
  · obtain ⟨d, c, a, b, rfl, _⟩ := h
    rfl
  · obtain ⟨d, c, a, b, rfl, D, ha, hb, k⟩ := h
    have hr1 : Room 1 _ := hr.mono (by decide)
    have hr2 : Room 2 _ := hr.mono (by decide)
    refine ex_next _ (ps_set (i := 3) scCell.nd rfl (Or.inl rfl) (pe_call GT hr1 rfl gT.m gT.k gT.b .nil pass0 (pa_c (pv 0) (pa_c (pe_op op_add (pv 1) pe_int) pa_nil)))) ?_
    refine ⟨_, rfl, _, rfl, _, _, rfl, rfl, d, c, _, rfl, D, by omega, by omega, fun r1 H1 a0 a1 D1 k1 => ?_⟩
    refine ex_next _ (ps_set (i := 4) scCell.nd rfl (Or.inl rfl) (pe_call GT hr1 rfl gT.m gT.k gT.b .nil pass0 (pa_c (pv 0) (pa_c (pe_op op_add (pv 2) pe_int) pa_nil)))) ?_
    refine ⟨_, rfl, _, rfl, _, _, rfl, rfl, d, c, _, rfl, D1, by omega, by omega, fun r2 H2 b0 b1 D2 k2 => ?_⟩
    obtain ⟨m, rfl⟩ := Int.eq_ofNat_of_zero_le a0
    obtain ⟨n, rfl⟩ := Int.eq_ofNat_of_zero_le b0
    refine ex_next _ (ps_set (i := 5) scCell.nd rfl (Or.inl rfl) (pe_call GN hr rfl gN.m gN.k gN.b .nil pass0 (pa_c (pv 0) (pa_c (pe_op op_add (pv 3) (pv 4)) pa_nil)))) ?_
    refine ⟨_, rfl, _, rfl, _, rfl, _, _, rfl, rfl, d, c, m + n, rfl, D2, by omega, fun l xs H3 nl hl hlen hnd hgn D3 k3 => ?_⟩
    have nl1 := D2.ned nl
    have kk3 : Keep d c H H3 := (k1.trans k2).trans k3
    have zl : H l = none := (k1.trans k2).free nl1.1 nl1.2 nl
    refine ex_cut (fun σ H5 => ∃ (kn rr : Addr), σ = [some (.ref d), some (.int a), some (.int b), some (.int m), some (.int n), some (.ref l), some (.ref kn), none, none, none, none, none] ∧
      H5 l = some (.lst (xs.map V.str)) ∧ H5 kn = some (.lst ((xs.take m).map V.str)) ∧ H kn = none ∧ DeckAt H5 d c ∧ Keep d c H H5) (fun u hu' => ?_) ?_
    · refine ⟨_, ps_set (i := 6) scCell.nd rfl (Or.inl rfl) (pe_slice sl_list (pv 5) po_none (po_some (pv 3))), ?_⟩
      refine ⟨_, rfl, _, rfl, _, rfl, l, _, rfl, SqL.of hl, fun kn nk => ?_⟩
      have nk1 := D3.ned nk
      refine hu' _ _ ⟨kn, kn, rfl, by rw [upd_ne (ne_of_none hl nk)]; exact hl, ?_, kk3.free nk1.1 nk1.2 nk, D3.new nk, kk3.trans (Keep.new nk)⟩
      rw [cut_take]; exact upd_same
    rintro σ H4 ⟨kn, _, rfl, hl4, hkn4, zkn, D4, k4⟩
    refine ex_cut (fun σ H5 => ∃ (rr : Addr), σ = [some (.ref d), some (.int a), some (.int b), some (.int m), some (.int n), some (.ref l), some (.ref kn), some (.ref rr), none, none, none, none] ∧
      H5 l = some (.lst (xs.map V.str)) ∧ H5 kn = some (.lst ((xs.take m).map V.str)) ∧ H5 rr = some (.lst []) ∧ l ≠ rr ∧ kn ≠ rr ∧ H rr = none ∧ DeckAt H5 d c ∧ Keep d c H H5) (fun u hu' => ?_) ?_
    · refine ⟨_, ps_set (i := 7) scCell.nd rfl (Or.inl rfl) (pe_lst pa_nil), ?_⟩
      refine ⟨(by show 0 ≤ sizeLine; decide), fun rr nr => ?_⟩
      have nr1 := D4.ned nr
      exact hu' _ _ ⟨rr, rfl, by rw [upd_ne (ne_of_none hl4 nr)]; exact hl4, by rw [upd_ne (ne_of_none hkn4 nr)]; exact hkn4, upd_same, ne_of_none hl4 nr, ne_of_none hkn4 nr, k4.free nr1.1 nr1.2 nr, D4.new nr, k4.trans (Keep.new nr)⟩
    rintro σ H5 ⟨rr, rfl, hl5, hkn5, hrr5, lrr, krr, zrr, D5, k5⟩
    refine ex_cut (fun σ H6 => ∃ (kn' : Addr) (as : List Addr) (gs : List (Str × Str × List Str)) (v8 : Option V), σ = [some (.ref d), some (.int a), some (.int b), some (.int m), some (.int n), some (.ref l), some (.ref kn'), some (.ref rr), v8, none, none, none] ∧
      H6 l = some (.lst (xs.map V.str)) ∧ H6 kn' = some (.lst (xs.map V.str)) ∧ H6 rr = some (.lst (as.map V.ref)) ∧ GatesAt H6 as gs ∧ gs.map (·.1) = xs.drop m ∧ GatesOk (xs.take m) gs ∧ DeckAt H6 d c ∧ Keep d c H H6) (fun u hu' => ?_) ?_
    · refine ⟨_, ps_for PassesOwn.never rfl (pi_list (pe_slice sl_list (pv 5) (po_some (pv 3)) po_none)) (pg_name (i := 8) scCell.nd rfl (Or.inl rfl))
        (pss_cons (ps_expr (pe_bm PySem.F.plainAttrs_list PySem.F.slot_list_append PySem.F.type_list_append mt_append (pv 7) (pa_c (pe_op op_catT (pe_tup (pa_c (pv 8) pa_nil)) (pe_call GG hr2 rfl gG.m gG.k gG.b .nil pass0 (pa_c (pv 0) (pa_c (pv 6) pa_nil)))) pa_nil)))
        (pss_one (ps_set (i := 6) scCell.nd rfl (Or.inl rfl) (pe_op op_cat (pv 6) (pe_lst (pa_c (pv 8) pa_nil)))))), ?_⟩
      refine ⟨_, rfl, _, rfl, _, rfl, l, _, rfl, SqL.of hl5, fun ln nln => ?_⟩
      rw [cut_drop]
      have nln1 := D5.ned nln
      have zln : H ln = none := k5.free nln1.1 nln1.2 nln
      have lnrr : ln ≠ rr := (ne_of_none hrr5 nln).symm
      refine ⟨ln, rfl, ⟨_, SqL.of upd_same⟩, ?_⟩
      refine for_list (K := K) (a := ln) (xs := (xs.drop m).map V.str) (fun i σ H6 => ∃ (kn' : Addr) (as : List Addr) (gs : List (Str × Str × List Str)) (v8 : Option V), σ = [some (.ref d), some (.int a), some (.int b), some (.int m), some (.int n), some (.ref l), some (.ref kn'), some (.ref rr), v8, none, none, none] ∧
          H6 l = some (.lst (xs.map V.str)) ∧ H6 ln = some (.lst ((xs.drop m).map V.str)) ∧ H6 kn' = some (.lst ((xs.take (m + i)).map V.str)) ∧ H kn' = none ∧ kn' ≠ rr ∧ H6 rr = some (.lst (as.map V.ref)) ∧ as.length = i ∧ GatesAt H6 as gs ∧ gs.map (·.1) = (xs.drop m).take i ∧ GatesOk (xs.take m) gs ∧ DeckAt H6 d c ∧ Keep d c H H6)
        ⟨kn, [], [], none, rfl, by rw [upd_ne (ne_of_none hl5 nln)]; exact hl5, upd_same, by rw [upd_ne (ne_of_none hkn5 nln)]; exact hkn5, zkn, krr, by rw [upd_ne (ne_of_none hrr5 nln)]; exact hrr5, rfl, .nil, by simp, True.intro, D5.new nln, k5.trans (Keep.new nln)⟩
        (fun i σ H6 _ ⟨_, _, _, _, _, _, h, _⟩ => SqL.of h) ?_ ?_
      · rintro i x σ H6 hx ⟨kn', as, gs, v8, rfl, hl6, hln6, hkn6, zkn', knr, hrr6, hal, hga, hgn', hgo, D6, k6⟩
        obtain ⟨y, hy, rfl⟩ : ∃ y, (xs.drop m)[i]? = some y ∧ V.str y = x := by
          rw [List.getElem?_map] at hx
          cases e : (xs.drop m)[i]? with
          | none => rw [e] at hx; cases hx
          | some y => rw [e] at hx; exact ⟨y, rfl, Option.some.inj hx⟩
        have hi : i < (xs.drop m).length := (List.getElem?_eq_some_iff.mp hy).1
        rw [List.length_drop] at hi
        have nkd := D.ned zkn'
        refine ⟨_, rfl, .inl ⟨rfl, _, SqL.of hrr6⟩, _, rfl, (by show 1 ≤ sizeLine; decide), fun t1 nt1 => ?_⟩
        have D7 := D6.new (o := .tup [V.str y]) nt1
        have hkn7 : upd H6 t1 (.tup [V.str y]) kn' = some (.lst ((xs.take (m + i)).map V.str)) := by rw [upd_ne (ne_of_none hkn6 nt1)]; exact hkn6
        refine ⟨_, rfl, _, rfl, d, c, kn', xs.take (m + i), rfl, D7, hkn7, nkd.1, nkd.2, by rw [List.length_take]; omega, fun t q wd ps H8 nt nq ht hq hok hps D8 k8 => ?_⟩
        have k68 : Keep d c H6 H8 := (Keep.new nt1).trans k8
        have t1d := D6.ned nt1
        have ht1 := k8 t1 _ upd_same t1d.1 t1d.2
        refine ⟨t1, t, _, _, rfl, rfl, SqT.of ht1, SqT.of ht, by simp, (by show 1 + 2 ≤ sizeLine; decide), (fun z => by cases z), fun _ t3 nt3 => ?_⟩
        have rrd := D.ned zrr
        have hrr8 := k68 rr _ hrr6 rrd.1 rrd.2
        have hrr9 : ∀ o, upd H8 t3 o rr = some (.lst (as.map V.ref)) := fun o => by rw [upd_ne (ne_of_none hrr8 nt3)]; exact hrr8
        refine ⟨rr, _, .ref t3, rfl, rfl, hrr9 _, ?_, ?_⟩
        · rw [List.length_map]; exact Nat.lt_of_lt_of_le (show as.length < 1000 by omega) (by decide)
        have rt3 : rr ≠ t3 := ne_of_none hrr8 nt3
        have D10 : DeckAt (upd (upd H8 t3 (.tup ([V.str y] ++ [V.str wd, V.ref q]))) rr (.lst (as.map V.ref ++ [V.ref t3]))) d c := (D8.new nt3).upd_other rrd.1 rrd.2
        have k10 : Keep d c H (upd (upd H8 t3 (.tup ([V.str y] ++ [V.str wd, V.ref q]))) rr (.lst (as.map V.ref ++ [V.ref t3]))) := fun b o e g1 g2 => by
          rw [upd_ne (ne_of_none e zrr)]
          exact (k6.trans (k68.trans (Keep.new nt3))) b o e g1 g2
        have old10 : ∀ b ys, b ≠ rr → b ≠ d → b ≠ c → H6 b = some (.lst ys) → upd (upd H8 t3 (.tup ([V.str y] ++ [V.str wd, V.ref q]))) rr (.lst (as.map V.ref ++ [V.ref t3])) b = some (.lst ys) := fun b ys e1 e2 e3 e => by
          have e8 := k68 b _ e e2 e3
          rw [upd_ne e1, upd_ne (ne_of_none e8 nt3)]; exact e8
        have tp : Tups H6 (upd (upd H8 t3 (.tup ([V.str y] ++ [V.str wd, V.ref q]))) rr (.lst (as.map V.ref ++ [V.ref t3]))) := (Tups.of_keep D6 k68).trans ((Tups.new nt3).trans (Tups.lst (hrr9 _)))
        have hg3 : GateAt (upd (upd H8 t3 (.tup ([V.str y] ++ [V.str wd, V.ref q]))) rr (.lst (as.map V.ref ++ [V.ref t3]))) t3 (y, wd, ps) := by
          refine ⟨q, ?_, ?_⟩
          · rw [upd_ne rt3.symm]; exact upd_same
          · have qr : q ≠ rr := ne_of hq hrr8 (fun z => nomatch z)
            rw [upd_ne qr, upd_ne (ne_of_none hq nt3)]; exact hq
        have ld := D.ned zl
        have lnd := D.ned zln
        have hl10 := old10 l _ lrr ld.1 ld.2 hl6
        have hln10 := old10 ln _ lnrr lnd.1 lnd.2 hln6
        have hkn10 := old10 kn' _ knr nkd.1 nkd.2 hkn6
        have hrr10 : upd (upd H8 t3 (.tup ([V.str y] ++ [V.str wd, V.ref q]))) rr (.lst (as.map V.ref ++ [V.ref t3])) rr = some (.lst ((as ++ [t3]).map V.ref)) := by rw [upd_same]; simp
        generalize upd (upd H8 t3 (.tup ([V.str y] ++ [V.str wd, V.ref q]))) rr (.lst (as.map V.ref ++ [V.ref t3])) = H10 at D10 k10 tp hg3 hl10 hln10 hkn10 hrr10 ⊢
        refine ⟨_, rfl, _, rfl, (by show 1 ≤ sizeLine; decide), fun p1 n1 => ?_⟩
        have D11 := D10.new (o := .lst [V.str y]) n1
        have k11 := k10.trans (Keep.new (d := d) (c := c) (o := .lst [V.str y]) n1)
        refine ⟨kn', p1, _, _, rfl, rfl, by rw [upd_ne (ne_of_none hkn10 n1)]; exact hkn10, upd_same, ?_, fun p2 n2 => ?_⟩
        · rw [List.length_map, List.length_take]; exact small_size (by show min (m + i) xs.length + 1 ≤ 1000; omega)
        have new2 : ∀ b o, H10 b = some o → upd (upd H10 p1 (.lst [V.str y])) p2 (.lst ((xs.take (m + i)).map V.str ++ [V.str y])) b = some o := fun b o e => by
          have e1 : upd H10 p1 (.lst [V.str y]) b = some o := by rw [upd_ne (ne_of_none e n1)]; exact e
          rw [upd_ne (ne_of_none e1 n2)]; exact e1
        have n2d := D11.ned n2
        refine ⟨p2, as ++ [t3], gs ++ [(y, wd, ps)], _, rfl, new2 _ _ hl10, new2 _ _ hln10, ?_, k11.free n2d.1 n2d.2 n2, ?_, new2 _ _ hrr10, by simp [hal], ?_, ?_, ?_, D11.new n2, k11.trans (Keep.new n2)⟩
        · rw [upd_same, ← Nat.add_assoc, List.take_add_one, List.map_append]
          rw [List.getElem?_drop] at hy
          rw [hy]; rfl
        · intro e
          have := new2 rr _ hrr10
          rw [← e] at hrr10
          have q1 : upd H10 p1 (.lst [V.str y]) p2 = some (.lst ((as ++ [t3]).map V.ref)) := by rw [upd_ne (ne_of_none hrr10 n1)]; exact hrr10
          rw [q1] at n2; cases n2
        · exact GatesAt.mono (fun b ys e => new2 b _ e) (paired_snoc (GatesAt.mono tp hga) hg3)
        · rw [List.map_append, hgn', List.take_add_one, hy]; rfl
        · refine GatesOk.snoc hgo hok (fun p hp => ?_)
          have := hps p hp
          rw [hgn']
          rw [List.take_add] at this
          exact this
      · rintro σ H6 ⟨kn', as, gs, v8, rfl, hl6, hln6, hkn6, zkn', knr, hrr6, hal, hga, hgn', hgo, D6, k6⟩
        rw [List.length_map] at hkn6 hgn'
        rw [List.take_of_length_le (Nat.le_refl _)] at hgn'
        rw [List.take_of_length_le (by rw [List.length_drop]; omega)] at hkn6
        exact hu' _ _ ⟨kn', as, gs, v8, rfl, hl6, hkn6, hrr6, hga, hgn', hgo, D6, k6⟩
    rintro σ H6 ⟨kn', as, gs, v8, rfl, hl6, hkn6, hrr6, hga, hgn', hgo, D6, k6⟩
    refine ex_cut (fun σ H7 => ∃ (lf ou : Addr), σ = [some (.ref d), some (.int a), some (.int b), some (.int m), some (.int n), some (.ref l), some (.ref kn'), some (.ref rr), v8, some (.ref lf), none, none] ∧
      H7 l = some (.lst (xs.map V.str)) ∧ H7 rr = some (.lst (as.map V.ref)) ∧ H7 lf = some (.lst (xs.map V.str)) ∧ l ≠ lf ∧ rr ≠ lf ∧ H lf = none ∧ GatesAt H7 as gs ∧ DeckAt H7 d c ∧ Keep d c H H7) (fun u hu' => ?_) ?_
    · refine ⟨_, ps_set (i := 9) scCell.nd rfl (Or.inl rfl) (pe_callTy call_list_of (by rfl) T.list PyProof.Rows.boot_list (pa_c (pv 6) pa_nil)), ?_⟩
      refine ⟨_, rfl, kn', _, rfl, .inl (SqL.of hkn6), fun lf nf => ?_⟩
      have nf1 := D6.ned nf
      exact hu' _ _ ⟨lf, lf, rfl, by rw [upd_ne (ne_of_none hl6 nf)]; exact hl6, by rw [upd_ne (ne_of_none hrr6 nf)]; exact hrr6, upd_same, ne_of_none hl6 nf, ne_of_none hrr6 nf, k6.free nf1.1 nf1.2 nf, hga.mono (Tups.new nf), D6.new nf, k6.trans (Keep.new nf)⟩
    rintro σ H7 ⟨lf, _, rfl, hl7, hrr7, hlf7, llf, rlf, zlf, hga7, D7, k7⟩
    refine ex_cut (fun σ H8 => ∃ (ou : Addr), σ = [some (.ref d), some (.int a), some (.int b), some (.int m), some (.int n), some (.ref l), some (.ref kn'), some (.ref rr), v8, some (.ref lf), some (.ref ou), none] ∧
      H8 l = some (.lst (xs.map V.str)) ∧ H8 rr = some (.lst (as.map V.ref)) ∧ H8 lf = some (.lst (xs.map V.str)) ∧ H8 ou = some (.lst []) ∧ l ≠ ou ∧ rr ≠ ou ∧ lf ≠ ou ∧ H ou = none ∧ GatesAt H8 as gs ∧ DeckAt H8 d c ∧ Keep d c H H8) (fun u hu' => ?_) ?_
    · refine ⟨_, ps_set (i := 10) scCell.nd rfl (Or.inl rfl) (pe_lst pa_nil), ?_⟩
      refine ⟨(by show 0 ≤ sizeLine; decide), fun ou no => ?_⟩
      have no1 := D7.ned no
      exact hu' _ _ ⟨ou, rfl, by rw [upd_ne (ne_of_none hl7 no)]; exact hl7, by rw [upd_ne (ne_of_none hrr7 no)]; exact hrr7, by rw [upd_ne (ne_of_none hlf7 no)]; exact hlf7, upd_same, ne_of_none hl7 no, ne_of_none hrr7 no, ne_of_none hlf7 no, k7.free no1.1 no1.2 no, hga7.mono (Tups.new no), D7.new no, k7.trans (Keep.new no)⟩
    rintro σ H8 ⟨ou, rfl, hl8, hrr8, hlf8, hou8, lou, rou, lfou, zou, hga8, D8, k8⟩
    refine ex_cut (fun σ H9 => ∃ (os lt : List Str) (v11 : Option V), σ = [some (.ref d), some (.int a), some (.int b), some (.int m), some (.int n), some (.ref l), some (.ref kn'), some (.ref rr), v8, some (.ref lf), some (.ref ou), v11] ∧
      H9 l = some (.lst (xs.map V.str)) ∧ H9 rr = some (.lst (as.map V.ref)) ∧ H9 ou = some (.lst (os.map V.str)) ∧ os.length ≤ 6 ∧ (os ++ lt).Perm xs ∧ GatesAt H9 as gs ∧ DeckAt H9 d c ∧ Keep d c H H9) (fun u hu' => ?_) ?_
    · refine ⟨_, ps_for PassesOwn.never rfl (pi_range1 rfl T.range (pa_c (pe_callB (call_min2 rfl) (by rfl) T.min PyProof.Rows.boot_min (pa_c (pe_call GT hr1 rfl gT.m gT.k gT.b .nil pass0 (pa_c (pv 0) (pa_c pe_int pa_nil))) (pa_c (pe_callB call_len_seq (by rfl) T.len PySem.boot_len (pa_c (pv 9) pa_nil)) pa_nil))) pa_nil)) (pg_name (i := 11) scCell.nd rfl (Or.inl rfl))
        (pss_one (ps_expr (pe_bm PySem.F.plainAttrs_list PySem.F.slot_list_append PySem.F.type_list_append mt_append (pv 10) (pa_c (pe_bm PySem.F.plainAttrs_list PySem.F.slot_list_pop PySem.F.type_list_pop mt_popAt (pv 9) (pa_c (pe_call GT hr1 rfl gT.m gT.k gT.b .nil pass0 (pa_c (pv 0) (pa_c (pe_callB call_len_seq (by rfl) T.len PySem.boot_len (pa_c (pv 9) pa_nil)) pa_nil))) pa_nil)) pa_nil)))), ?_⟩
      refine ⟨_, rfl, d, c, 7, rfl, D8, by decide, by decide, fun r H9 c0 c1 D9 k9 => ?_⟩
      have ld := D.ned zl
      have rrd := D.ned zrr
      have lfd := D.ned zlf
      have oud := D.ned zou
      have hlf9 := k9 lf _ hlf8 lfd.1 lfd.2
      refine ⟨_, rfl, lf, _, rfl, .inl (SqL.of hlf9), _, _, rfl, _, rfl, ?_, ?_, ?_⟩
      · split <;> omega
      · split
        · rw [List.length_map]; omega
        · omega
      rw [List.length_map]
      have hN : (if (xs.length : Int) < r then (xs.length : Int) else r).toNat ≤ 6 ∧ (if (xs.length : Int) < r then (xs.length : Int) else r).toNat ≤ xs.length := by split <;> omega
      generalize (if (xs.length : Int) < r then (xs.length : Int) else r).toNat = N at hN
      refine for_range (lo := 0) (n := N) (fun i σ H10 => ∃ (os lt : List Str) (v11 : Option V), σ = [some (.ref d), some (.int a), some (.int b), some (.int m), some (.int n), some (.ref l), some (.ref kn'), some (.ref rr), v8, some (.ref lf), some (.ref ou), v11] ∧
          H10 l = some (.lst (xs.map V.str)) ∧ H10 rr = some (.lst (as.map V.ref)) ∧ H10 lf = some (.lst (lt.map V.str)) ∧ H10 ou = some (.lst (os.map V.str)) ∧ os.length = i ∧ lt.length + i = xs.length ∧ (os ++ lt).Perm xs ∧ GatesAt H10 as gs ∧ DeckAt H10 d c ∧ Keep d c H H10)
        ⟨[], xs, none, rfl, k9 l _ hl8 ld.1 ld.2, k9 rr _ hrr8 rrd.1 rrd.2, hlf9, k9 ou _ hou8 oud.1 oud.2, rfl, rfl, List.Perm.refl _, hga8.mono (Tups.of_keep D8 k9), D9, k8.trans k9⟩ ?_ ?_
      · rintro i σ H10 hi ⟨os, lt, v11, rfl, hl10, hrr10, hlf10, hou10, ho1, ho2, ho3, hga10, D10, k10⟩
        refine ⟨_, rfl, .inl ⟨rfl, _, SqL.of hou10⟩, _, rfl, .inl ⟨rfl, _, SqL.of hlf10⟩, _, rfl, _, rfl, lf, _, rfl, .inl (SqL.of hlf10), d, c, _, rfl, D10, by rw [List.length_map]; omega, by rw [List.length_map]; omega, fun r2 H11 e0 e1 D11 k11 => ?_⟩
        rw [List.length_map] at e1
        obtain ⟨j, rfl⟩ := Int.eq_ofNat_of_zero_le e0
        have hj : j < lt.length := by omega
        have hlf11 := k11 lf _ hlf10 lfd.1 lfd.2
        have hou11 := k11 ou _ hou10 oud.1 oud.2
        have hy : lt[j]? = some lt[j] := List.getElem?_eq_getElem hj
        have pm2 : ((os ++ [lt[j]]) ++ lt.eraseIdx j).Perm (os ++ lt) := by
          rw [List.append_assoc]
          exact List.Perm.append_left os (pop_perm hy)
        have hel : (lt.eraseIdx j).length + 1 = lt.length := by
          rw [List.length_eraseIdx, if_pos hj]; omega
        refine ⟨lf, _, _, j, .str lt[j], rfl, rfl, hlf11, by omega, by omega, ?_, by simp [hj], ou, _, .str lt[j], rfl, rfl, by rw [upd_ne lfou.symm]; exact hou11, ?_, os ++ [lt[j]], lt.eraseIdx j, _, rfl, ?_, ?_, ?_, by rw [upd_same]; simp, by simp [ho1], by omega, pm2.trans ho3, ?_, ?_, ?_⟩
        · rw [List.length_map]; exact PySem.StrLaws.seqIndex_nonneg (by omega) (by omega)
        · rw [List.length_map]; exact Nat.lt_of_lt_of_le (show os.length < 1000 by omega) (by decide)
        · rw [upd_ne lou, upd_ne llf]; exact k11 l _ hl10 ld.1 ld.2
        · rw [upd_ne rou, upd_ne rlf]; exact k11 rr _ hrr10 rrd.1 rrd.2
        · rw [upd_ne lfou, upd_same, erase_map]
        · refine hga10.mono ((Tups.of_keep D10 k11).trans ((Tups.lst hlf11).trans (Tups.lst (ys := os.map V.str) ?_)))
          rw [upd_ne lfou.symm]; exact hou11
        · exact (D11.upd_other lfd.1 lfd.2).upd_other oud.1 oud.2
        · exact fun b o e g1 g2 => by rw [upd_ne (ne_of_none e zou), upd_ne (ne_of_none e zlf)]; exact k11 b o (k10 b o e g1 g2) g1 g2
      · rintro σ H10 ⟨os, lt, v11, rfl, hl10, hrr10, hlf10, hou10, ho1, ho2, ho3, hga10, D10, k10⟩
        exact hu' _ _ ⟨os, lt, v11, rfl, hl10, hrr10, hou10, by omega, ho3, hga10, D10, k10⟩
    rintro σ H9 ⟨os, lt, v11, rfl, hl9, hrr9, hou9, ho6, hperm, hga9, D9, k9⟩
    refine ⟨_, pss_one (ps_ret (pe_tup (pa_c (pe_callTy call_tuple_of (by rfl) T.tuple PyProof.Rows.boot_tuple (pa_c (pe_slice sl_list (pv 5) po_none (po_some (pv 3))) pa_nil)) (pa_c (pe_callTy call_tuple_of (by rfl) T.tuple PyProof.Rows.boot_tuple (pa_c (pv 7) pa_nil))
      (pa_c (pe_callTy call_tuple_of (by rfl) T.tuple PyProof.Rows.boot_tuple (pa_c (pv 10) pa_nil)) pa_nil))))), ?_⟩
    refine ⟨_, rfl, _, rfl, _, rfl, l, _, rfl, SqL.of hl9, fun p1 n1 => ⟨p1, _, rfl, .inl ⟨SqL.of upd_same, fun p2 n2 => ?_⟩⟩⟩
    rw [cut_take] at n2 ⊢
    have hrrA : upd (upd H9 p1 (.lst ((xs.take m).map V.str))) p2 (.tup ((xs.take m).map V.str)) rr = some (.lst (as.map V.ref)) := by
      have e1 : upd H9 p1 (.lst ((xs.take m).map V.str)) rr = some (.lst (as.map V.ref)) := by rw [upd_ne (ne_of_none hrr9 n1)]; exact hrr9
      rw [upd_ne (ne_of_none e1 n2)]; exact e1
    have houA : upd (upd H9 p1 (.lst ((xs.take m).map V.str))) p2 (.tup ((xs.take m).map V.str)) ou = some (.lst (os.map V.str)) := by
      have e1 : upd H9 p1 (.lst ((xs.take m).map V.str)) ou = some (.lst (os.map V.str)) := by rw [upd_ne (ne_of_none hou9 n1)]; exact hou9
      rw [upd_ne (ne_of_none e1 n2)]; exact e1
    have DA := (D9.new (o := .lst ((xs.take m).map V.str)) n1).new (o := .tup ((xs.take m).map V.str)) n2
    have kA := (k9.trans (Keep.new (d := d) (c := c) (o := .lst ((xs.take m).map V.str)) n1)).trans (Keep.new (d := d) (c := c) (o := .tup ((xs.take m).map V.str)) n2)
    have gA : GatesAt (upd (upd H9 p1 (.lst ((xs.take m).map V.str))) p2 (.tup ((xs.take m).map V.str))) as gs := hga9.mono ((Tups.new n1).trans (Tups.new n2))
    have iA : upd (upd H9 p1 (.lst ((xs.take m).map V.str))) p2 (.tup ((xs.take m).map V.str)) p2 = some (.tup ((xs.take m).map V.str)) := upd_same
    generalize upd (upd H9 p1 (.lst ((xs.take m).map V.str))) p2 (.tup ((xs.take m).map V.str)) = HA at hrrA houA DA kA gA iA ⊢
    refine ⟨_, rfl, rr, _, rfl, .inl ⟨SqL.of hrrA, fun p3 n3 => ?_⟩⟩
    have houB : upd HA p3 (.tup (as.map V.ref)) ou = some (.lst (os.map V.str)) := by rw [upd_ne (ne_of_none houA n3)]; exact houA
    refine ⟨_, rfl, ou, _, rfl, .inl ⟨SqL.of houB, fun p4 n4 => ⟨(by show 3 ≤ sizeLine; decide), fun ce nc => ?_⟩⟩⟩
    have DB := (DA.new (o := .tup (as.map V.ref)) n3).new (o := .tup (os.map V.str)) n4
    have kB := (kA.trans (Keep.new (d := d) (c := c) (o := .tup (as.map V.ref)) n3)).trans (Keep.new (d := d) (c := c) (o := .tup (os.map V.str)) n4)
    have tB : Tups HA (upd (upd (upd HA p3 (.tup (as.map V.ref))) p4 (.tup (os.map V.str))) ce (.tup [V.ref p2, V.ref p3, V.ref p4])) := (Tups.new n3).trans ((Tups.new n4).trans (Tups.new nc))
    have ncd := DB.ned nc
    have hgl : gs.length = xs.length - m := by
      have := congrArg List.length hgn'
      rw [List.length_map, List.length_drop] at this
      exact this
    refine k ce ⟨xs.take m, gs, os⟩ _ (kB.free ncd.1 ncd.2 nc) ⟨p2, p3, p4, as, upd_same, tB _ _ iA, ((Tups.new n4).trans (Tups.new nc)) _ _ upd_same, (Tups.new nc) _ _ upd_same, gA.mono tB⟩ ?_ (by show gs.length ≤ b; omega) (DB.new nc) (kB.trans (Keep.new nc))
    have enames : (⟨xs.take m, gs, os⟩ : Cel).names = xs := by
      show xs.take m ++ gs.map (·.1) = xs
      rw [hgn']; exact List.take_append_drop m xs
    refine ⟨by rw [enames]; exact hnd, by rw [enames]; exact hgn, hgo, fun o ho => by rw [enames]; exact hperm.mem_iff.mp (List.mem_append_left _ ho), ?_, by show (xs.take m).length ≤ 6; rw [List.length_take]; omega, by show gs.length ≤ 24; omega, ho6⟩
    exact List.Nodup.sublist (List.sublist_append_left os lt) (hperm.symm.nodup hnd)
end
end Lw
namespace L2
open PySem PySem.Spec PyProof.Rows
section
variable {X : Cx}
theorem op_once : OpR X (binaryOp .Mult) (fun x y H Q => ∃ i, x = .str i ∧ y = .int 1 ∧ Q (.str i) H) := by
  intro pins s σ H x y v u Q I rx ry h
  obtain ⟨i, rfl, rfl, q⟩ := h
  obtain ⟨t, rfl⟩ := rx
  obtain ⟨t', rfl⟩ := ry
  refine PySem.P.mul_str (by decide) (fun _ h => by simp at h) (fun _ h => by simp at h) ?_
  rw [if_neg (by decide), if_pos (by simp)]
  exact ⟨.str i, H, I, ⟨_, rfl⟩, q⟩
end
end L2
namespace L2
open PySem PySem.Spec PyProof.Rows
section
variable {X : Cx}
noncomputable def rTupK (K : PySem.W.Frag) : List V → Hp → VK → Prop := fun xs H Q => ∃ p ys, xs = [.ref p] ∧ ((SqL K H p ys ∧ ∀ l, H l = none → Q (.ref l) (upd H l (.tup ys))) ∨ (SqT K H p ys ∧ Q (.ref p) H))
theorem call_tupK (K : PySem.W.Frag) (hK : X.K = K := by rfl) : CallR X (.type "tuple") (rTupK K) := by subst hK; exact call_tuple_of
theorem pi_tupK {tg l : Expr} {tl : TE} (K : PySem.W.Frag) (hl : PE X l tl) (hK : X.K = K := by rfl) : PI X tg l (iTup K tl) := by subst hK; exact pi_tup hl
end
end L2
namespace Lw
open PySem L2
noncomputable def newN (k : Nat) : Str := ⟨#[113, 97 + k]⟩
theorem newN_inj {i j : Nat} (h : newN i = newN j) : i = j := by
  unfold newN at h
  injection h with h
  simp at h
  omega
theorem newN_good {k : Nat} (h : k < 26) : GoodName (newN k) := by
  have a : ∀ k : Fin 26, lsB 1 8 (newN k) = true ∧ newN k ∉ keptS := by decide +kernel
  exact ⟨LS.of (a ⟨k, h⟩).1, (a ⟨k, h⟩).2⟩
noncomputable def rn (xs : List Str) (x : Str) : Str := newN (xs.idxOf x)
theorem idx_inj {xs : List Str} {x y : Str} (hx : x ∈ xs) (h : xs.idxOf x = xs.idxOf y) (hy : y ∈ xs) : x = y := by
  have h1 := List.idxOf_lt_length_iff.mpr hx
  have h2 := List.idxOf_lt_length_iff.mpr hy
  have e1 : xs[xs.idxOf x] = x := List.getElem_idxOf h1
  have e2 : xs[xs.idxOf y] = y := List.getElem_idxOf h2
  rw [← e1, ← e2]
  congr 1
theorem rn_inj (xs : List Str) : InjOn (rn xs) xs := fun x hx y hy h => idx_inj hx (newN_inj h) hy
theorem rn_good {xs : List Str} (hl : xs.length ≤ 26) : ∀ x ∈ xs, GoodName (rn xs x) := fun x hx => newN_good (by have := List.idxOf_lt_length_iff.mpr hx; omega)
theorem idx_at {xs : List Str} {i : Nat} {y : Str} (h : xs.Nodup) (e : xs[i]? = some y) : xs.idxOf y = i := by
  obtain ⟨h1, rfl⟩ := List.getElem?_eq_some_iff.mp e
  exact h.idxOf_getElem i h1
noncomputable def fS (r : Str → Str) : V → V
  | .str x => .str (r x)
  | v => v
theorem map_fS (r : Str → Str) (ps : List Str) : (ps.map V.str).map (fS r) = (ps.map r).map V.str := by
  rw [List.map_map, List.map_map]; rfl
noncomputable def HasS (kvs : List (Key × V)) (xs : List Str) (r : Str → Str) : Prop := ∀ x ∈ xs, valV kvs (Sum.inr x) = some (.str (r x))
noncomputable def letS : Str := "abcdefghijklmnopqrstuvwxyz"
theorem let_at {k : Nat} (h : k < 26) : atI letS.cps.toList (k : Int) = some (97 + k) := by
  have a : ∀ k : Fin 26, letS.cps.toList[k.val]? = some (97 + k.val) := by decide +kernel
  exact atI_nat (a ⟨k, h⟩)
theorem q_app (k : Nat) : (Str.ofString "q") ++ (⟨#[97 + k]⟩ : Str) = newN k := by
  refine str_ext ?_
  rw [app_list]
  rfl
noncomputable def spCalled : Sp := fun vs H Q _ => ∃ (ce : Addr) (C : Cel), vs = [.ref ce] ∧ CellAt H ce C ∧ Good C ∧ C.names.length ≤ 26 ∧ ∀ (c2 : Addr) (H' : Hp), H c2 = none → CellAt H' c2 (renC (rn C.names) C) → Same H H' → Q (.ref c2) H'
section
variable {P : Program} {w : World} {K : PySem.W.Frag} {mg : Str → Option Value} {base : Heap}
theorem scCalled : FnScope ["cell", "names", "new", "k", "gates"] ["cell"] (defScope sCalled) := ⟨rfl, rfl, rfl, by decide +kernel, rfl, by decide +kernel, by decide +kernel⟩
theorem ndN3 : (["name", "word", "some", "new"] : List Str).Nodup := by decide +kernel
theorem ndON : (["one", "new"] : List Str).Nodup := by decide +kernel
theorem ndNN : (["name", "new"] : List Str).Nodup := by decide +kernel
set_option maxHeartbeats 2000000 in
theorem ok_called {f : Addr} {fd : FuncData} (F : Fun K "_law_called" "_law_called" sCalled f fd) (T : Txt mg) : FnOk P w K mg base CX0 1 f fd ["cell"] spCalled := by
  refine F.ok scCalled (fun vs H Q E h => ?_) (fun cdv A outer s H vs Q E hr h => ?_)
  · obtain ⟨ce, C, rfl, _⟩ := h
    rfl
  · obtain ⟨ce, C, rfl, hC, G, hl26, k⟩ := h
    have hu := hu_of hr
    obtain ⟨ia, ga, oa, as, c1, c2, c3, c4, c5⟩ := hC.ex
    have li := G.li
    have lg := G.lg
    have lo := G.lo
    have la : as.length = C.gates.length := c5.length
    have nl : C.names.length = C.ins.length + C.gates.length := by unfold Cel.names; simp
    refine ex_cut (fun σ H2 => ∃ (na : Addr), σ = [some (.ref ce), some (.ref na), none, none, none] ∧ H2 na = some (.lst (C.names.map V.str)) ∧ Same H H2) (fun u hu' => ?_) ?_
    · refine ⟨_, ps_set (i := 1) scCalled.nd rfl (Or.inl rfl) (pe_op op_cat (pe_callTy call_list_of (by rfl) T.list PyProof.Rows.boot_list (pa_c (pe_ix ix_tup (pv 0) pe_int (fun _ _ => rfl)) pa_nil))
        (pe_lc ["row"] [] [] rfl (pi_tup (pe_ix ix_tup (pv 0) pe_int (fun _ _ => rfl))) rfl rfl (fun s₀ H₀ C cl fp => pg_name (i := 0) (nd1 _) rfl (Or.inl rfl)) (fun s₀ H₀ C cl fp => pifs_nil) (fun s₀ H₀ C cl fp => pe_ix (ix_tupK K) (pv 0) pe_int (fun _ _ => rfl)))), ?_⟩
      refine ⟨_, rfl, ce, _, _, .ref ia, rfl, rfl, SqT.of c1, rfl, ia, _, rfl, .inr (SqT.of c2), fun p1 n1 => ?_⟩
      have s1 : Same H (upd H p1 (.lst (C.ins.map V.str))) := Same.new n1
      refine ⟨_, rfl, ce, _, _, .ref ga, rfl, rfl, SqT.of (s1 _ _ c1), rfl, ga, rfl, ⟨_, SqT.of (s1 _ _ c3)⟩, fun D0 nD0 => ?_⟩
      refine lc1y yields_tup (fun i zs H9 => zs = ((C.gates.take i).map (fun g => V.str g.1)) ∧ Same (upd H p1 (.lst (C.ins.map V.str))) H9 ∧ H9 D0 = some (.lst zs)) ⟨rfl, Same.new nD0, upd_same⟩ (fun i zs H9 _ p => SqT.of (p.2.1 _ _ (s1 _ _ c3))) ?_ ?_
      · rintro i x zs H9 hx ⟨rfl, s9, hD9⟩
        obtain ⟨a1, ha1, rfl⟩ := ref_item hx
        obtain ⟨g, hg, q, g1, g2⟩ := paired_get c5 ha1
        have hi : i < C.gates.length := (List.getElem?_eq_some_iff.mp hg).1
        refine ⟨_, rfl, a1, _, _, .str g.1, rfl, rfl, SqT.of (s9 _ _ (s1 _ _ g1)), rfl, ⟨_, rfl⟩, hD9, ?_, ?_, ?_, upd_same⟩
        · rw [List.length_map, List.length_take]; exact Nat.lt_of_le_of_lt (show min i C.gates.length ≤ 1000 by omega) (by decide)
        · rw [take_snoc hg, List.map_append]; rfl
        · intro c o e
          rw [upd_ne (ne_of_none e nD0)]
          exact s9 _ _ e
      · rintro zs H9 ⟨rfl, s9, hD9⟩
        rw [List.length_map, la, List.take_length] at hD9
        refine ⟨p1, D0, _, _, rfl, rfl, s9 _ _ upd_same, hD9, small_size (by simp; omega), fun na nna => hu' _ _ ⟨na, rfl, ?_, (s1.trans s9).trans (Same.new nna)⟩⟩
        rw [upd_same]
        unfold Cel.names
        rw [List.map_append, List.map_map]; rfl
    rintro σ H2 ⟨na, rfl, hna, s2⟩
    refine ex_cut (fun σ H3 => ∃ td, σ = [some (.ref ce), some (.ref na), some (.ref td), none, none] ∧ H3 td = some (.dK []) ∧ H2 td = none ∧ Same H2 H3) (fun u hu' => ?_) ?_
    · exact ⟨_, ps_set (i := 2) scCalled.nd rfl (Or.inr rfl) pe_dnewK, fun td ntd => hu' _ _ ⟨td, rfl, upd_same, ntd, Same.new ntd⟩⟩
    rintro σ H3 ⟨td, rfl, ht3, ntd, s3⟩
    generalize hr' : rn C.names = r
    rw [hr'] at k
    refine ex_cut (fun σ H4 => ∃ (kv : List (Key × V)) (v3 : Option V), σ = [some (.ref ce), some (.ref na), some (.ref td), v3, none] ∧ H4 td = some (.dK kv) ∧ HasS kv C.names r ∧ Same H H4) (fun u hu' => ?_) ?_
    · refine ⟨_, ps_for PassesOwn.never rfl (pi_range1 rfl T.range (pa_c (pe_callB call_len_seq (by rfl) T.len PySem.boot_len (pa_c (pv 1) pa_nil)) pa_nil)) (pg_name (i := 3) scCalled.nd rfl (Or.inl rfl))
        (pss_one (ps_dput hu (pv 2) (pe_ix ix_list (pv 1) (pv 3) (fun _ _ => rfl)) (pe_op op_add_str pe_str (pe_op op_once (pe_ix ix_str pe_str (pe_op op_mod (pv 3) pe_int) (fun _ _ => rfl)) (pe_op op_add pe_int (pe_op op_fdiv (pv 3) pe_int)))) rfl)), ?_⟩
      refine ⟨_, rfl, na, _, rfl, .inl (SqL.of (s3 _ _ hna)), _, rfl, by omega, by rw [List.length_map]; omega, ?_⟩
      rw [List.length_map, Int.toNat_natCast]
      refine for_range (lo := 0) (n := C.names.length) (fun i σ H4 => ∃ (kv : List (Key × V)) (v3 : Option V), σ = [some (.ref ce), some (.ref na), some (.ref td), v3, none] ∧ H4 td = some (.dK kv) ∧ HasS kv (C.names.take i) r ∧ kv.length ≤ i ∧ Same H2 H4)
        ⟨[], none, rfl, ht3, (fun x hx => by simp at hx), Nat.le_refl _, s3⟩ ?_ ?_
      · rintro i σ H4 hi ⟨kv, v3, rfl, ht4, hh, hl, s4⟩
        have hy : C.names[i]? = some C.names[i] := List.getElem?_eq_getElem hi
        have ei : (0 : Int) + (i : Int) = (i : Int) := by omega
        have e26 : ((i : Int) % 26) = (i : Int) := by omega
        have e1 : (1 : Int) + (i : Int) / 26 = 1 := by omega
        refine ⟨_, rfl, _, _, rfl, rfl, (by show (0 : Int) < 26; decide), letS, _, 97 + i, rfl, rfl, (by decide +kernel), ?_, ?_⟩
        · rw [ei, e26]; exact let_at (by omega)
        refine ⟨_, rfl, _, _, rfl, rfl, ⟨by decide, by decide⟩, _, _, rfl, rfl, _, rfl, ?_, ?_⟩
        · show V.int (1 + ((0 : Int) + (i : Int)) / 26) = _
          rw [ei, e1]
        refine ⟨_, _, rfl, rfl, (by show (Str.ofString "q").length + 1 ≤ sizeLine; decide +kernel), ?_⟩
        rw [q_app]
        refine ⟨_, rfl, _, rfl, _, rfl, na, _, _, .str C.names[i], rfl, rfl, SqL.of (s4 _ _ hna), ?_, td, _, rfl, DPut.k (k := (Sum.inr C.names[i] : Key)) ht4 (small1000 (by omega)), putK kv (Sum.inr C.names[i]) (.str (newN i)), _, rfl, upd_same, ?_, ?_, ?_⟩
        · rw [ei]; exact atI_nat (by rw [List.getElem?_map, hy]; rfl)
        · rw [take_snoc hy]
          intro x hx
          rw [valV_put]
          by_cases q : x = C.names[i]
          · rw [if_pos (by rw [q]), ← hr']
            unfold rn
            rw [q, idx_at G.nd hy]
          · rw [if_neg (fun z => q (Sum.inr.inj z))]
            rcases List.mem_append.mp hx with m | m
            · exact hh x m
            · exact absurd (List.mem_singleton.mp m) q
        · have := length_putK kv (Sum.inr C.names[i] : Key) (.str (newN i)); omega
        · exact fun c o e => by rw [upd_ne (ne_of_none e ntd)]; exact s4 c o e
      · rintro σ H4 ⟨kv, v3, rfl, ht4, hh, hl, s4⟩
        rw [List.take_length] at hh
        exact hu' _ _ ⟨kv, v3, rfl, ht4, hh, s2.trans s4⟩
    rintro σ H4 ⟨kv, v3, rfl, ht4, hh, s4⟩
    refine ex_cut (fun σ H5 => ∃ (gt : Addr) (ts : List Addr), σ = [some (.ref ce), some (.ref na), some (.ref td), v3, some (.ref gt)] ∧ H5 gt = some (.tup (ts.map V.ref)) ∧ GatesAt H5 ts (C.gates.map (renG r)) ∧ Same H4 H5) (fun u hu' => ?_) ?_
    · refine ⟨_, ps_set (i := 4) scCalled.nd rfl (Or.inl rfl) (pe_callTy call_tuple_of (by rfl) T.tuple PyProof.Rows.boot_tuple (pa_c (pe_lc ["name", "word", "some"] ["new"] [2] rfl (pi_tup (pe_ix ix_tup (pv 0) pe_int (fun _ _ => rfl))) rfl rfl
        (fun s₀ H₀ C cl fp => pg3K K rfl rfl ndN3 rfl rfl rfl (Or.inl rfl) (Or.inl rfl) (Or.inl rfl) (Or.inr rfl) (Or.inr rfl) (Or.inr rfl)) (fun s₀ H₀ C cl fp => pifs_nil)
        (fun s₀ H₀ C cl fp => pe_tup (pa_c (pe_dget hu (pv 3) (pv 0) (fun _ _ => rfl)) (pa_c (pv 1) (pa_c (pe_callTy (call_tupK K) (by rfl) T.tuple PyProof.Rows.boot_tuple (pa_c (pe_lc ["one"] ["new"] [3] rfl (pi_tupK K (pv 2)) rfl rfl
          (fun s₀ H₀ C cl fp => pg_name (i := 0) ndON rfl (Or.inl rfl)) (fun s₀ H₀ C cl fp => pifs_nil) (fun s₀ H₀ C cl fp => pe_dget hu (pv 1) (pv 0) (fun _ _ => rfl))) pa_nil)) pa_nil))))) pa_nil)), ?_⟩
      refine ⟨_, rfl, ce, _, _, .ref ga, rfl, rfl, SqT.of (s4 _ _ c1), rfl, ga, rfl, ⟨_, SqT.of (s4 _ _ c3)⟩, fun D0 nD0 => ?_⟩
      refine lc3 (K := K) yields_tup (fun i ys H5 => i ≤ as.length ∧ ∃ ts : List Addr, ys = ts.map V.ref ∧ ts.length = i ∧ GatesAt H5 ts ((C.gates.take i).map (renG r)) ∧ Same H4 H5 ∧ H5 D0 = some (.lst ys)) ⟨Nat.zero_le _, [], rfl, rfl, .nil, Same.new nD0, upd_same⟩
        (fun i ys H5 _ p => by obtain ⟨_, _, _, _, _, s5, _⟩ := p; exact SqT.of (s5 _ _ (s4 _ _ c3))) ?_ ?_
      · rintro i x ys H5 hx ⟨hi, ts, rfl, hti, hp, s5, hD5⟩
        obtain ⟨a1, ha1, rfl⟩ := ref_item hx
        obtain ⟨g, hg, q, g1, g2⟩ := paired_get c5 ha1
        have hlt : i < C.gates.length := (List.getElem?_eq_some_iff.mp hg).1
        obtain ⟨hok, hps⟩ := G.gt.at hg
        have hpl : g.2.2.length ≤ 3 := by rcases hok.ok with ⟨_, z | z⟩ | ⟨_, z⟩ | ⟨_, z⟩ | ⟨_, z⟩ | ⟨_, z⟩ <;> omega
        have s45 := s4.trans s5
        have mem1 : g.1 ∈ C.names := List.mem_append_right _ (List.mem_map.mpr ⟨g, List.mem_of_getElem? hg, rfl⟩)
        have mem2 : ∀ p ∈ g.2.2, p ∈ C.names := fun p hp => by
          rcases List.mem_append.mp (hps p hp) with m | m
          · exact List.mem_append_left _ m
          · obtain ⟨g', hg', e⟩ := List.mem_map.mp m
            exact List.mem_append_right _ (List.mem_map.mpr ⟨g', List.mem_of_mem_take hg', e⟩)
        refine ⟨a1, .str g.1, .str g.2.1, .ref q, rfl, SqT.of (s45 _ _ g1), _, rfl, _, rfl, td, _, rfl, dget (s5 _ _ ht4) (hh g.1 mem1), _, rfl, _, rfl, q, rfl, ⟨_, SqT.of (s45 _ _ g2)⟩, fun D1 nD1 => ?_⟩
        refine lcMap yields_tup (fS r) nD1 (fun H6 s6 => SqT.of (s6 _ _ (s45 _ _ g2))) (by rw [List.length_map]; omega) ?_ ?_
        · intro j x H6 kk hx s6 hk
          obtain ⟨y, hy, rfl⟩ := str_item hx
          exact ⟨_, rfl, _, rfl, td, _, rfl, dget (s6 _ _ (s5 _ _ ht4)) (hh y (mem2 y (List.mem_of_getElem? hy))), hk⟩
        rw [map_fS]
        refine ⟨D1, _, rfl, .inl ⟨SqL.of upd_same, fun q2 nq2 => ⟨(by show 3 ≤ sizeLine; decide), fun t nt => ?_⟩⟩⟩
        have s56 : Same H5 (upd (upd (upd H5 D1 (.lst ((g.2.2.map r).map V.str))) q2 (.tup ((g.2.2.map r).map V.str))) t (.tup [V.str (r g.1), V.str g.2.1, V.ref q2])) := ((Same.new nD1).trans (Same.new nq2)).trans (Same.new nt)
        have ht6 : upd (upd (upd H5 D1 (.lst ((g.2.2.map r).map V.str))) q2 (.tup ((g.2.2.map r).map V.str))) t (.tup [V.str (r g.1), V.str g.2.1, V.ref q2]) t = some (.tup [V.str (r g.1), V.str g.2.1, V.ref q2]) := upd_same
        have hq6 : upd (upd (upd H5 D1 (.lst ((g.2.2.map r).map V.str))) q2 (.tup ((g.2.2.map r).map V.str))) t (.tup [V.str (r g.1), V.str g.2.1, V.ref q2]) q2 = some (.tup ((g.2.2.map r).map V.str)) := (Same.new nt) _ _ upd_same
        generalize upd (upd (upd H5 D1 (.lst ((g.2.2.map r).map V.str))) q2 (.tup ((g.2.2.map r).map V.str))) t (.tup [V.str (r g.1), V.str g.2.1, V.ref q2]) = H6 at s56 ht6 hq6 ⊢
        have hD6 := s56 _ _ hD5
        refine ⟨⟨_, _, _, rfl⟩, hD6, ?_, by omega, ts ++ [t], by simp, by simp [hti], ?_, ?_, upd_same⟩
        · rw [List.length_map]; exact Nat.lt_of_le_of_lt (show ts.length ≤ 1000 by omega) (by decide)
        · rw [take_snoc hg, List.map_append]
          have tp : Tups H6 (upd H6 D0 (.lst (ts.map V.ref ++ [V.ref t]))) := Tups.lst hD6
          exact paired_snoc (GatesAt.mono ((Tups.of_same s56).trans tp) hp) ⟨q2, tp _ _ ht6, tp _ _ hq6⟩
        · intro c o e
          rw [upd_ne (ne_of_none e nD0)]
          exact s56 _ _ (s5 _ _ e)
      · rintro ys H5 ⟨_, ts, rfl, hti, hp, s5, hD5⟩
        rw [List.length_map, la, List.take_length] at hp
        refine ⟨D0, _, rfl, .inl ⟨SqL.of hD5, fun gt ngt => hu' _ _ ⟨gt, ts, rfl, upd_same, hp.mono (Tups.new ngt), s5.trans (Same.new ngt)⟩⟩⟩
    rintro σ H5 ⟨gt, ts, rfl, hgt, hga, s5⟩
    have s45 := s4.trans s5
    refine ⟨_, pss_one (ps_ret (pe_tup (pa_c (pe_callTy call_tuple_of (by rfl) T.tuple PyProof.Rows.boot_tuple (pa_c (pe_lc ["name"] ["new"] [2] rfl (pi_tup (pe_ix ix_tup (pv 0) pe_int (fun _ _ => rfl))) rfl rfl (fun s₀ H₀ C cl fp => pg_name (i := 0) ndNN rfl (Or.inl rfl)) (fun s₀ H₀ C cl fp => pifs_nil)
      (fun s₀ H₀ C cl fp => pe_dget hu (pv 1) (pv 0) (fun _ _ => rfl))) pa_nil)) (pa_c (pv 4) (pa_c (pe_callTy call_tuple_of (by rfl) T.tuple PyProof.Rows.boot_tuple (pa_c (pe_lc ["name"] ["new"] [2] rfl (pi_tup (pe_ix ix_tup (pv 0) pe_int (fun _ _ => rfl))) rfl rfl (fun s₀ H₀ C cl fp => pg_name (i := 0) ndNN rfl (Or.inl rfl)) (fun s₀ H₀ C cl fp => pifs_nil)
      (fun s₀ H₀ C cl fp => pe_dget hu (pv 1) (pv 0) (fun _ _ => rfl))) pa_nil)) pa_nil))))), ?_⟩
    refine ⟨_, rfl, ce, _, _, .ref ia, rfl, rfl, SqT.of (s45 _ _ c1), rfl, ia, rfl, ⟨_, SqT.of (s45 _ _ c2)⟩, fun D0 nD0 => ?_⟩
    refine lcMap yields_tup (fS r) nD0 (fun H6 s6 => SqT.of (s6 _ _ (s45 _ _ c2))) (by rw [List.length_map]; omega) ?_ ?_
    · intro j x H6 kk hx s6 hk
      obtain ⟨y, hy, rfl⟩ := str_item hx
      exact ⟨_, rfl, _, rfl, td, _, rfl, dget (s6 _ _ (s5 _ _ ht4)) (hh y (List.mem_append_left _ (List.mem_of_getElem? hy))), hk⟩
    rw [map_fS]
    refine ⟨D0, _, rfl, .inl ⟨SqL.of upd_same, fun i2 ni2 => ?_⟩⟩
    have s6 : Same H5 (upd (upd H5 D0 (.lst ((C.ins.map r).map V.str))) i2 (.tup ((C.ins.map r).map V.str))) := (Same.new nD0).trans (Same.new ni2)
    have hi6 : upd (upd H5 D0 (.lst ((C.ins.map r).map V.str))) i2 (.tup ((C.ins.map r).map V.str)) i2 = some (.tup ((C.ins.map r).map V.str)) := upd_same
    generalize upd (upd H5 D0 (.lst ((C.ins.map r).map V.str))) i2 (.tup ((C.ins.map r).map V.str)) = H6 at s6 hi6 ⊢
    have s46 := s45.trans s6
    refine ⟨_, rfl, _, rfl, ce, _, _, .ref oa, rfl, rfl, SqT.of (s46 _ _ c1), rfl, oa, rfl, ⟨_, SqT.of (s46 _ _ c4)⟩, fun D1 nD1 => ?_⟩
    refine lcMap yields_tup (fS r) nD1 (fun H7 s7 => SqT.of (s7 _ _ (s46 _ _ c4))) (by rw [List.length_map]; omega) ?_ ?_
    · intro j x H7 kk hx s7 hk
      obtain ⟨y, hy, rfl⟩ := str_item hx
      exact ⟨_, rfl, _, rfl, td, _, rfl, dget (s7 _ _ (s6 _ _ (s5 _ _ ht4))) (hh y (G.os y (List.mem_of_getElem? hy))), hk⟩
    rw [map_fS]
    refine ⟨D1, _, rfl, .inl ⟨SqL.of upd_same, fun o2 no2 => ⟨(by show 3 ≤ sizeLine; decide), fun c2' nc2 => ?_⟩⟩⟩
    have s7 : Same H6 (upd (upd (upd H6 D1 (.lst ((C.outs.map r).map V.str))) o2 (.tup ((C.outs.map r).map V.str))) c2' (.tup [V.ref i2, V.ref gt, V.ref o2])) := ((Same.new nD1).trans (Same.new no2)).trans (Same.new nc2)
    refine k c2' _ (s46.free (((Same.new nD1).trans (Same.new no2)).free nc2)) ⟨i2, gt, o2, ts, upd_same, s7 _ _ hi6, s7 _ _ (s6 _ _ hgt), (Same.new nc2) _ _ upd_same, hga.mono (Tups.of_same (s6.trans s7))⟩ (s46.trans s7)
end
end Lw
namespace Lw
open PySem L2
theorem owStep_len {k : Nat} {g : Gt} {c : Bool} : (owStep k g c).length ≤ 4 ∧ (c = false → (owStep k g c).length = 1) := by
  unfold owStep
  cases c with
  | true => exact ⟨exG_names.2.2, fun h => nomatch h⟩
  | false => exact ⟨by simp, fun _ => rfl⟩
theorem owG_len (count : Nat) : ∀ (gs : List Gt) (k : Nat) (acc : List Gt), acc.length + gs.length ≤ count → (owG count k gs acc).length ≤ count
  | [], _, acc, h => by simpa [owG] using h
  | g :: gs, k, acc, h => by
    unfold owG
    refine owG_len count gs (k + 1) _ ?_
    have h' : acc.length + (gs.length + 1) ≤ count := h
    rw [List.length_append]
    by_cases c : gs.length + 1 + acc.length + 3 ≤ count
    · have := (owStep_len (k := k) (g := g) (c := decide (gs.length + 1 + acc.length + 3 ≤ count))).1
      omega
    · have := (owStep_len (k := k) (g := g) (c := decide (gs.length + 1 + acc.length + 3 ≤ count))).2 (decide_eq_false c)
      omega
theorem ow_all {ins : List Str} {ρ : Str → Int} (count : Nat) (hρ : ∀ x ∈ ins, Bit (ρ x)) : ∀ (gs : List Gt) (k : Nat) (pre acc : List Gt), OwOk ins ρ k pre acc → GatesOk (ins ++ pre.map (·.1)) gs → (ins ++ (pre ++ gs).map (·.1)).Nodup → (∀ x ∈ ins ++ (pre ++ gs).map (·.1), ∀ k i, x ≠ frN k i) →
    OwOk ins ρ (k + gs.length) (pre ++ gs) (owG count k gs acc)
  | [], k, pre, acc, O, _, _, _ => by simpa [owG] using O
  | g :: gs, k, pre, acc, O, ok, nd, fr => by
    have e : pre ++ g :: gs = (pre ++ [g]) ++ gs := by simp
    have ek : k + (g :: gs).length = (k + 1) + gs.length := by simp; omega
    rw [e] at nd fr ⊢
    rw [ek]
    unfold owG
    have cut : ins ++ ((pre ++ [g]) ++ gs).map (·.1) = ((ins ++ pre.map (·.1)) ++ [g.1]) ++ gs.map (·.1) := by simp
    rw [cut] at nd fr
    have ng : g.1 ∉ ins ++ pre.map (·.1) := fun z => (List.nodup_append.mp (List.nodup_append.mp nd).1).2.2 _ z g.1 (by simp) rfl
    refine ow_all count hρ gs (k + 1) (pre ++ [g]) _ (O.step hρ ok.1 ok.2.1 ng (fun x hx => fr x (List.mem_append_left _ hx)) _) ?_ (by rw [cut]; exact nd) (by rw [cut]; exact fr)
    have := ok.2.2
    rw [List.append_assoc] at this
    simpa using this
noncomputable def owC (C : Cel) : Cel := ⟨C.ins, owG 24 0 C.gates [], C.outs⟩
noncomputable def NoFr (C : Cel) : Prop := ∀ x ∈ C.names, ∀ k i, x ≠ frN k i
theorem owC_ok {C : Cel} (G : Good C) (fr : NoFr C) {ρ : Str → Int} (hρ : ∀ x ∈ C.ins, Bit (ρ x)) : OwOk C.ins ρ C.gates.length C.gates (owC C).gates := by
  have nd := G.nd
  have := ow_all (ins := C.ins) (ρ := ρ) 24 hρ C.gates 0 [] [] ⟨True.intro, by simpa using (List.nodup_append.mp nd).1, fun x hx => by simp at hx, fun x hx => by simp at hx, fun x _ => rfl⟩ (by simpa using G.gt) (by simpa [Cel.names] using nd) (by simpa [Cel.names, NoFr] using fr)
  simpa [owC] using this
theorem frN_good {k i : Nat} (hk : k < 20) (hi : i < 4) : GoodName (frN k i) := by
  have a : ∀ k : Fin 20, ∀ i : Fin 4, lsB 1 8 (frN k i) = true ∧ frN k i ∉ keptS := by decide +kernel
  exact ⟨LS.of (a ⟨k, hk⟩ ⟨i, hi⟩).1, (a ⟨k, hk⟩ ⟨i, hi⟩).2⟩
theorem owC_good {C : Cel} (G : Good C) (fr : NoFr C) (l20 : C.gates.length ≤ 20) : Good (owC C) := by
  have O := owC_ok G fr (ρ := fun _ => 0) (fun _ _ => .inl rfl)
  exact {
    nd := O.nd
    nm := fun x hx => by
      rcases List.mem_append.mp hx with q | q
      · exact G.nm x (List.mem_append_left _ q)
      · rcases O.sub x q with y | ⟨k, i, hk, hi, rfl⟩
        · exact G.nm x (List.mem_append_right _ y)
        · exact frN_good (by omega) hi
    gt := O.ok
    os := fun o ho => by
      rcases List.mem_append.mp (G.os o ho) with q | q
      · exact List.mem_append_left _ q
      · exact List.mem_append_right _ (O.sup o q)
    ond := G.ond
    li := G.li
    lg := owG_len 24 C.gates 0 [] (by simpa using G.lg)
    lo := G.lo }
theorem owC_eval {C : Cel} (G : Good C) (fr : NoFr C) {ρ : Str → Int} (hρ : ∀ x ∈ C.ins, Bit (ρ x)) : ∀ x ∈ C.names, evalC (owC C) ρ x = evalC C ρ x := (owC_ok G fr hρ).ev
theorem newN_fr {j k i : Nat} : newN j ≠ frN k i := fun h => by
  unfold newN frN at h
  injection h with h
  have := congrArg Array.size h
  simp at this
theorem ren_nofr (C : Cel) (xs : List Str) : NoFr (renC (rn xs) C) := fun x hx k i => by
  rw [names_ren] at hx
  obtain ⟨y, _, rfl⟩ := List.mem_map.mp hx
  exact newN_fr
end Lw
namespace PySem
open PyProof.Rows L2
section
variable {prog : Program} {w : World} {A : Around} {E : Value → Shared → Prop}
theorem list_goes {s : Shared} {l : Addr} {items : Array Value} {Q : Bool → Shared → Prop} (hl : s.heap.IsList l items) (q : Q false s) : wpAny (model prog w) A (notIterableAtAll (.ref l)) Q E s := by
  have has : wpAny (model prog w) A (specialOf (.ref l) "__iter__") (fun r s' => r.isSome = true ∧ s' = s) E s :=
    wpAny_bind (wpAny_typeOf hl.typeIs (wpAny_of_eq F.slot_list_iter.lookup ⟨rfl, rfl⟩))
  unfold notIterableAtAll
  refine wpAny_bind (thn has ?_)
  rintro r _ ⟨e, rfl⟩
  rw [if_pos e]
  exact wpAny_pure q
theorem list_draws {it l : Addr} {items : Array Value} (away : l ≠ it) : ∀ (n i : Nat) (s : Shared) (Q : List Value → Shared → Prop), s.heap.IsListIter it l i → s.heap.IsList l items → i + n ≤ items.size →
    (∀ h', h'.IsListIter it l (i + n) → (∀ b, b ≠ it → h'.get? b = s.heap.get? b) → Q ((items.toList.drop i).take n) { s with heap := h' }) → wpAny (model prog w) A (draw (.ref it) n) Q E s
  | 0, i, s, Q, hit, _, _, q => wpAny_pure (q s.heap hit fun _ _ => rfl)
  | n + 1, i, s, Q, hit, hl, le, q => by
    have lt : i < items.size := by omega
    have this : items[i]? = some items[i] := Array.getElem?_eq_getElem lt
    have parts : items.toList.drop i = items[i] :: items.toList.drop (i + 1) := by
      rw [List.drop_eq_getElem_cons (by simpa using lt)]; simp
    unfold draw
    refine wpAny_bind (wpAny_pyNext_list_item hit hl this fun h1 hit1 k1 => ?_)
    refine wpAny_bind (wpAny_holding (list_draws away n (i + 1) _ _ hit1 (hl.at fun o e => (k1.2 l away).trans e) (by omega) fun h2 hit2 k2 => wpAny_pure ?_))
    have := q h2 (by rw [show i + (n + 1) = i + 1 + n by omega]; exact hit2) fun b nb => (k2 b nb).trans (k1.2 b nb)
    rw [parts] at this
    exact this
theorem list_unpacks {s : Shared} {l : Addr} {items : Array Value} {ts : List (Bool × (Value → Sem Unit))} {Q : Unit → Shared → Prop} (calm : A.handled = none) (hl : s.heap.IsList l items) (hn : ts.length = items.size) (plain : ts.findIdx? (·.1) = none)
    (go : ∀ h', (∀ b o, s.heap.get? b = some o → h'.get? b = some o) → wpAny (model prog w) A (assignInOrder (ts.map (·.2)) items.toList) Q E { s with heap := h' }) : wpAny (model prog w) A (unpack (.ref l) ts) Q E s := by
  have lt : l < s.heap.objs.size := by
    obtain ⟨_, e, _⟩ := hl
    exact Heap.lt_size e
  let h1 := s.heap.push { cls := .type "list_iterator", data := .fields #[.ref l, .int 0 0] }
  have same : ∀ b o, s.heap.get? b = some o → h1.get? b = some o := fun b o e => Heap.get?_push_of_some _ e
  have less : ∀ b o, s.heap.get? b = some o → b ≠ s.heap.objs.size := fun b o e => Nat.ne_of_lt (Heap.lt_size e)
  have it0 : h1.IsListIter s.heap.objs.size l 0 := ⟨_, Heap.get?_push_size _ rfl, rfl, rfl⟩
  have l1 : h1.IsList l items := hl.at fun o e => same _ o e
  unfold unpack
  rw [plain, hn]
  refine wpAny_bind (wpAny_holding ?_)
  unfold unpackItems
  refine wpAny_bind (list_goes hl ?_)
  rw [if_neg Bool.false_ne_true]
  refine wpAny_bind (wpAny_holding (wpAny_pyIter_list hl ?_))
  refine wpAny_bind (wpAny_holding (list_draws (Nat.ne_of_lt lt) items.size 0 _ _ it0 l1 (by omega) fun h2 it2 k2 => ?_))
  have all : (items.toList.drop 0).take items.size = items.toList := by rw [List.drop_zero]; exact List.take_of_length_le (by simp)
  have l2 : h2.IsList l items := l1.at fun o e => (k2 l (Nat.ne_of_lt lt)).trans e
  rw [all, if_neg (by simp)]
  refine wpAny_bind (wpAny_holding (wpAny_pyNext_list_end calm it2 l2 (Array.getElem?_eq_none (by omega)) fun h3 k3 => ?_))
  simp only [Option.isSome_none, Bool.false_eq_true, if_false]
  exact wpAny_pure (go h3 fun b o e => k3 b o (less b o e) ((k2 b (less b o e)).trans (same b o e)))
end
end PySem
namespace L2
open PySem PySem.Spec PyProof.Rows
section
variable {X : Cx} {pos : Pos}
noncomputable def gLst (K : PySem.W.Frag) (n : Nat) (t : TGs) : TG := fun v σ H Q => ∃ a xs, v = .ref a ∧ SqL K H a xs ∧ xs.length = n ∧ t xs σ H Q
theorem pg_lst {es : List Expr} {k : Nat} {t : TGs} {n : Nat} (hc : X.calm = true) (h : PGs X es t)
    (hn : (assignEach es X.env).length = n := by rfl) (plain : (assignEach es X.env).findIdx? (·.1) = none := by rfl) (ha : ∀ v, assign (.Tuple es k pos) X.env v = (do standAt pos; unpack v (assignEach es X.env)) := by intro _; rfl) : PG X (.Tuple es k pos) (gLst X.K n t) := by
  intro pins s σ H v u Q I r hw
  obtain ⟨a, xs, rfl, hq, hl, hw⟩ := hw
  cases r
  obtain ⟨its, rv, pl, hz⟩ := I.list hq
  rw [ha]
  refine wpAny_bind (wpAny_standAt (list_unpacks (I.ok.hd hc) pl.isList (by rw [hn, ← hl, List.size_toArray]; exact rv.length) plain fun h' k => ?_))
  exact h pins _ σ H xs _ Q (I.kept (t' := s.toks) k) (by simpa using rv) hw
end
end L2
namespace PySem
open PyProof.Rows L2
theorem range_turns {M : Model} {A : Around} {β : Type} {f : Nat → β → Sem (ForInStep β)} {b : β} {Q : β → Shared → Prop} {E : Value → Shared → Prop} {s : Shared} {j n : Nat} (on : ∀ i, i < j → wpAny M A (f i b) (fun r s' => r = .yield b ∧ s' = s) E s)
    (stop : wpAny M A (f j b) (fun r s' => ∃ c, r = .done c ∧ Q c s') E s) (hj : j < n) : wpAny M A (forIn (List.range' 0 n 1) b f) Q E s := by
  suffices turns : ∀ k i : Nat, i + k = n → i ≤ j → wpAny M A (forIn (List.range' i k 1) b f) Q E s from turns n 0 (by omega) (Nat.zero_le _)
  intro k
  induction k with
  | zero => intro i h1 h2; omega
  | succ k ih =>
    intro i h1 h2
    rw [List.range'_succ, List.forIn_cons]
    by_cases here : i = j
    · subst here
      refine wpAny_bind (thn stop ?_)
      rintro _ s' ⟨c, rfl, q⟩
      exact wpAny_pure q
    · refine wpAny_bind (thn (on i (by omega)) ?_)
      rintro _ _ ⟨rfl, rfl⟩
      exact ih (i + 1) (by omega) (by omega)
theorem tuple_index {t x : Value} {items : Array Value} {j : Nat} {e : Value → Bool} (hj : j < items.size) (hit : e items[j] = true) (before : ∀ m (hm : m < items.size), m < j → e items[m] = false) :
    Meets (Builtin.«tuple.index» ⟨[t, x], []⟩) (fun A R s => (∀ (prog : Program) (w : World) (E : Value → Shared → Prop) (Q : Option (Array Value) → Shared → Prop), Q (some items) s → wpAny (model prog w) A.in1 (seqItems? t) Q E s) ∧ (∀ y, y ∈ items → SeqAt.EqAt A.in1 s y x (e y)) ∧
      R (.ok (.ret (.int j s.toks))) { s with toks := s.toks + 1 }) :=
  Meets.of_wp fun prog w A R s hs => by
    obtain ⟨load, same, out⟩ := hs
    unfold Builtin.«tuple.index»
    refine wpAny_bind (wpAny_of_eq (show selfAndSome "tuple.index" "index" 1 3 ⟨[t, x], []⟩ = pure (t, [x]) from rfl) ?_)
    refine wpAny_bind (wpAny_bind (load _ _ _ _ (wpAny_pure ?_)))
    refine wpAny_bind (wpAny_pure (wpAny_bind (wpAny_pure ?_)))
    refine wpAny_bind ?_
    rw [Std.Legacy.Range.forIn_eq_forIn_range']
    have size : [:min items.size items.size].size = items.size := by simp [Std.Legacy.Range.size]
    rw [size]
    show wpAny _ _ (forIn (List.range' 0 items.size 1) _ _) _ _ _
    refine range_turns (j := j) (fun i lt => ?_) ?_ hj
    · have ls : i < items.size := by omega
      simp only [Array.getElem?_eq_getElem ls]
      refine wpAny_bind (same _ (Array.getElem_mem ls) _ _ _ _ ?_)
      rw [before i ls lt, if_neg Bool.false_ne_true]
      exact wpAny_pure ⟨rfl, rfl⟩
    · simp only [Array.getElem?_eq_getElem hj]
      refine wpAny_bind (same _ (Array.getElem_mem hj) _ _ _ _ ?_)
      rw [hit, if_pos rfl]
      exact wpAny_bind (wpAny_bind (wpAny_mkInt (wpAny_pure (wpAny_pure ⟨_, rfl, wpAny_pure ⟨_, rfl, out⟩⟩))))
end PySem
namespace L2
open PySem PySem.Spec PyProof.Rows
section
variable {X : Cx}
noncomputable def rIndexT (K : PySem.W.Frag) : V → List V → Hp → VK → Prop := fun x vs H Q => ∃ (l : Addr) (xs : List V) (y : V) (j : Nat), x = .ref l ∧ vs = [y] ∧ SqT K H l xs ∧ xs.all flatV = true ∧ flatV y = true ∧ j < xs.length ∧
  (∀ z, xs[j]? = some z → eqV z y = true) ∧ (∀ (m : Nat) z, m < j → xs[m]? = some z → eqV z y = false) ∧ Q (.int j) H
theorem mt_indexT : MtR X "tuple.index" (rIndexT X.K) := by
  intro pins s σ H x vs v us Q I rx rv h
  obtain ⟨l, xs, y, j, rfl, rfl, hq, fx, fy, hj, h1, h2, q⟩ := h
  cases rx
  obtain ⟨u, rfl, ru⟩ := rv.one
  obtain ⟨its, r, ht, hz⟩ := I.tuple hq
  have hlen := r.length
  have hu : ∀ (i : Nat) (hi : i < its.toArray.size), ∃ z, xs[i]? = some z ∧ eqU y its.toArray[i] = eqV z y := fun i hi => by
    have hi' : i < its.length := by simpa using hi
    have hx : xs[i]? = some (xs[i]'(by omega)) := List.getElem?_eq_getElem (by omega)
    obtain ⟨w', hw, rw'⟩ := r.get hx
    have e : its.toArray[i] = w' := by
      rw [List.getElem?_eq_getElem hi'] at hw
      simpa using Option.some.inj hw
    refine ⟨_, hx, ?_⟩
    rw [e]
    exact eqU_of rw' (List.all_eq_true.mp fx _ (List.mem_of_getElem? hx))
  have hjs : j < its.toArray.size := by rw [List.size_toArray]; omega
  have f1 : eqU y its.toArray[j] = true := by
    obtain ⟨z, hz', ez⟩ := hu j hjs
    rw [ez]; exact h1 z hz'
  have f2 : ∀ m (hm : m < its.toArray.size), m < j → eqU y its.toArray[m] = false := fun m hm lt => by
    obtain ⟨z, hz', ez⟩ := hu m hm
    rw [ez]; exact h2 m z lt hz'
  refine call_meets PySem.F.slot_tuple_index ht.typeIs PySem.F.entry_tuple_index (PySem.F.args_tuple_index_2 _ _) (tuple_index (t := .ref l) (x := u) (e := eqU y) hjs f1 f2) ⟨fun _ _ _ _ hq => ?_, fun w' hw => mem_eqAt ru fy r fx w' (by simpa using hw), ⟨.int j, H, I.tok _, ⟨_, rfl⟩, q⟩⟩
  obtain ⟨o, ho, hc, n, hd⟩ := ht
  exact wpAny_seqItems ho hd hq
theorem tup_bare {pins : List (Addr × Obj)} {σ : St} {H : Hp} {s : Shared} {a : Addr} {xs : List V} (I : Inv X pins σ H s) (h : H a = some (.tup xs)) : s.TypeIs (.ref a) "tuple" ∧ ∀ b, Value.ref a = .ref b → ∃ ob, s.heap.get? b = some ob ∧ ob.dict = none := by
  obtain ⟨_, its, _, p, o, e, d⟩ := (show ObjOk X.prog X.w H s.heap a (.tup xs) from I.hok a _ h)
  exact ⟨p.typeIs, fun b q => by cases q; exact ⟨o, e, d⟩⟩
noncomputable def tBMT (r : V → List V → Hp → VK → Prop) (to : TE) (t : TA) : TE := fun σ H Q => to σ H fun x H1 => (∃ a xs, x = .ref a ∧ H1 a = some (.tup xs)) ∧ t σ H1 fun xs H2 => r x xs H2 Q
variable {o e : Expr} {es : List Expr} {to : TE} {t : TA} {name : Str} {apos cpos : Pos} {id : String} {r : V → List V → Hp → VK → Prop}
theorem pe_bmT (slot : Slot "tuple" name id) (hty : typeOf (.builtin id) = pure (.type "method_descriptor")) (hm : MtR X id r) (ho : PE X o to) (ha : PA X (e :: es) t)
    (hbase : attributeBase o name X.env (eval o X.env) = eval o X.env := by rfl)
    (hfew : ((backTo cpos (starEach (e :: es) X.env)).all (fun x => !x.1) && (backToKw cpos (keywordEach [] X.env)).all (fun x => x.1.isSome)
      && decide ((e :: es).length + ([] : List Keyword).length + (if ([] : List Keyword).isEmpty then 0 else 1) < 30)) = true := by rfl)
    (hline : (apos.endLine == cpos.line) = true := by rfl) (hs : starEach (e :: es) X.env = (false, eval e X.env) :: starEach es X.env := by rfl) (hplain : (backTo cpos (starEach es X.env)).any (·.1) = false := by rfl) :
    PE X (.Call (.Attribute o name apos) (e :: es) [] cpos) (tBMT r to t) := by
  intro pins s σ H Q I h
  refine wpAny_Call_method_late hbase hfew hline rfl (thn (ho pins s σ H _ I h) fun v s1 ⟨x, H1, I1, r1, ty, q1⟩ => ?_)
  obtain ⟨a, xs, rfl, hx⟩ := ty
  cases r1
  obtain ⟨h1, h2⟩ := tup_bare I1 hx
  refine ⟨"tuple", id, PySem.F.plainAttrs_tuple, slot, hty, h1, h2, ?_⟩
  have hA := ha cpos pins s1 σ H1 _ I1 q1
  rw [hs] at hA ⊢
  refine Calls.callWith_builtin (by show (false || (backTo cpos (starEach es X.env)).any (·.1)) = false; rw [hplain] <;> rfl) (Calls.evalArgs_plain ?_)
  exact thn hA fun us s2 ⟨vs, H2, I2, r2, q2⟩ => hm pins s2 σ H2 (.ref a) vs _ us Q I2 rfl r2 q2
end
end L2
namespace Lw
open PySem L2
noncomputable def halves : Nat → Int → Int
  | 0, z => z
  | n + 1, z => halves n (z / 2)
theorem halves_succ : ∀ (n : Nat) (z : Int), halves (n + 1) z = halves n z / 2
  | 0, _ => rfl
  | n + 1, z => halves_succ n (z / 2)
noncomputable def bitsL : List Str → Int → List (Key × V)
  | [], _ => []
  | x :: xs, z => ((Sum.inr x : Key), V.int (z % 2)) :: bitsL xs (z / 2)
theorem bitsL_snoc : ∀ (xs : List Str) (x : Str) (z : Int), bitsL (xs ++ [x]) z = bitsL xs z ++ [((Sum.inr x : Key), V.int (halves xs.length z % 2))]
  | [], _, _ => rfl
  | y :: xs, x, z => by
    show _ :: bitsL (xs ++ [x]) (z / 2) = _
    rw [bitsL_snoc xs x (z / 2)]; rfl
theorem bitsL_keys : ∀ (xs : List Str) (z : Int), (bitsL xs z).map (·.1) = xs.map Sum.inr
  | [], _ => rfl
  | x :: xs, z => by show _ :: (bitsL xs (z / 2)).map (·.1) = _; rw [bitsL_keys xs (z / 2)]; rfl
theorem bitsL_len (xs : List Str) (z : Int) : (bitsL xs z).length = xs.length := by
  have := congrArg List.length (bitsL_keys xs z)
  simpa using this
theorem bit_two (z : Int) : Bit (z % 2) := by
  unfold Bit
  omega
theorem bitsL_bits : ∀ (xs : List Str) (z : Int), ∀ p ∈ bitsL xs z, p.2 = .int 0 ∨ p.2 = .int 1
  | [], _, p, h => nomatch h
  | x :: xs, z, p, h => by
    rcases List.mem_cons.mp h with rfl | h
    · rcases bit_two z with e | e
      · exact .inl (by show V.int (z % 2) = _; rw [e])
      · exact .inr (by show V.int (z % 2) = _; rw [e])
    · exact bitsL_bits xs (z / 2) p h
theorem bitsL_D (xs : List Str) (z : Int) : BitsD xs (bitsL xs z) := ⟨bitsL_keys xs z, bitsL_bits xs z⟩
theorem idx_skip {x y : Str} {xs : List Str} (e : y ≠ x) : (y :: xs).idxOf x = xs.idxOf x + 1 := by
  rw [List.idxOf_cons, beq_eq_false_iff_ne.mpr e]; rfl
noncomputable def bitOf (xs : List Str) (z : Int) (x : Str) : Int := halves (xs.idxOf x) z % 2
theorem bitsL_val : ∀ (xs : List Str) (z : Int) (x : Str), x ∈ xs → valV (bitsL xs z) (Sum.inr x) = some (.int (bitOf xs z x))
  | [], _, _, h => nomatch h
  | y :: xs, z, x, h => by
    unfold bitOf
    by_cases e : y = x
    · subst e
      rw [List.idxOf_cons_self]
      exact valV_pos rfl
    · have hx : x ∈ xs := by
        rcases List.mem_cons.mp h with q | q
        · exact absurd q.symm e
        · exact q
      rw [idx_skip e]
      exact (valV_neg (fun q => e (Sum.inr.inj q))).trans (bitsL_val xs (z / 2) x hx)
theorem bitsL_has (xs : List Str) (z : Int) : Has (bitsL xs z) xs (bitOf xs z) := fun x hx => ⟨bitsL_val xs z x hx, bit_two _⟩
theorem idx_map {r : Str → Str} : ∀ {xs : List Str} {x : Str}, InjOn r xs → x ∈ xs → (xs.map r).idxOf (r x) = xs.idxOf x
  | [], _, _, h => nomatch h
  | y :: xs, x, inj, h => by
    rw [List.map_cons]
    by_cases e : y = x
    · subst e
      rw [List.idxOf_cons_self, List.idxOf_cons_self]
    · have hx : x ∈ xs := by
        rcases List.mem_cons.mp h with q | q
        · exact absurd q.symm e
        · exact q
      have e' : r y ≠ r x := fun q => e (inj y List.mem_cons_self x h q)
      rw [idx_skip e, idx_skip e', idx_map (fun a ha b hb => inj a (List.mem_cons_of_mem _ ha) b (List.mem_cons_of_mem _ hb)) hx]
theorem bitOf_map {r : Str → Str} {xs : List Str} {x : Str} (z : Int) (inj : InjOn r xs) (h : x ∈ xs) : bitOf (xs.map r) z (r x) = bitOf xs z x := by
  unfold bitOf
  rw [idx_map inj h]
noncomputable def spBitsN : Sp := fun vs H Q _ => ∃ (n : Addr) (xs : List Str) (z : Int), vs = [.ref n, .int z] ∧ H n = some (.tup (xs.map V.str)) ∧ xs.Nodup ∧ xs.length ≤ 100 ∧ ∀ (p : Addr) (H' : Hp), H p = none → H' p = some (.dK (bitsL xs z)) → Same H H' → Q (.ref p) H'
noncomputable def spTurned : Sp := fun vs H Q _ => ∃ (d c n : Addr) (xs : List Str), vs = [.ref d, .ref n] ∧ DeckAt H d c ∧ H n = some (.tup (xs.map V.str)) ∧ xs.length ≤ 40 ∧ ∀ (t : Addr) (ys : List Str) (H' : Hp), H t = none → H' t = some (.tup (ys.map V.str)) → ys.Perm xs → DeckAt H' d c → Keep d c H H' → Q (.ref t) H'
noncomputable def spToldL : Sp := fun vs H Q _ => ∃ (ce b o : Addr) (C : Cel) (kvs : List (Key × V)) (ρ : Str → Int) (os : List Str), vs = [.ref ce, .ref b, .ref o] ∧ CellAt H ce C ∧ Good C ∧ H b = some (.dK kvs) ∧ Has kvs C.ins ρ ∧ H o = some (.tup (os.map V.str)) ∧ (∀ x ∈ os, x ∈ C.outs) ∧ os.length ≤ 100 ∧
  ∀ (l : Addr) (H' : Hp), H l = none → H' l = some (.lst ((os.map (evalC C ρ)).map V.int)) → Same H H' → Q (.ref l) H'
section
variable {P : Program} {w : World} {K : PySem.W.Frag} {mg : Str → Option Value} {base : Heap}
set_option maxHeartbeats 4000000 in
theorem ok_bitsN {f : Addr} {fd : FuncData} (F : Fun K "_law_bits" "_law_bits" sBits f fd) : FnOk P w K mg base CX0 1 f fd ["names", "number"] spBitsN := by
  refine F.ok scBits (fun vs H Q E h => ?_) (fun cdv A outer s H vs Q E hr h => ?_)
  · obtain ⟨n, xs, z, rfl, _⟩ := h
    rfl
  · obtain ⟨n, xs, z, rfl, hn, hnd, hlen, k⟩ := h
    have hu := hu_of hr
    refine ⟨_, pss_cons (ps_set (i := 2) scBits.nd rfl (Or.inl rfl) pe_dnewK)
      (pss_cons (ps_for PassesOwn.never rfl (pi_tup (pv 0)) (pg_name (i := 3) scBits.nd rfl (Or.inl rfl))
        (pss_cons (ps_dput hu (pv 2) (pv 3) (pe_op op_mod (pv 1) pe_int) rfl) (pss_one (ps_set (i := 1) scBits.nd rfl (Or.inl rfl) (pe_op op_fdiv (pv 1) pe_int)))))
      (pss_one (ps_ret (pv 2)))), ?_⟩
    intro p np
    refine ⟨_, rfl, n, rfl, ⟨_, SqT.of (Same.new np _ _ hn)⟩, ?_⟩
    refine for_tup (K := K) (a := n) (xs := xs.map V.str) (fun i σ H2 => ∃ (v3 : Option V), σ = [some (.ref n), some (.int (halves i z)), some (.ref p), v3] ∧ H2 p = some (.dK (bitsL (xs.take i) z)) ∧ Same H H2)
      ⟨none, rfl, upd_same, Same.new np⟩ (fun i σ H2 _ ⟨_, _, _, s2⟩ => SqT.of (s2 _ _ hn)) ?_ ?_
    · rintro i x σ H2 hx ⟨v3, rfl, h2, s2⟩
      obtain ⟨nm, hy, rfl⟩ := str_item hx
      have hi : i < xs.length := (List.getElem?_eq_some_iff.mp hy).1
      have hkl : (bitsL (xs.take i) z).length = i := by rw [bitsL_len, List.length_take]; omega
      have hno : valV (bitsL (xs.take i) z) (Sum.inr nm : Key) = none := by
        cases e : valV (bitsL (xs.take i) z) (Sum.inr nm : Key) with
        | none => rfl
        | some v =>
          have hm := valV_in e
          rw [bitsL_keys] at hm
          obtain ⟨q, hq, eq⟩ := List.mem_map.mp hm
          rw [Sum.inr.inj eq] at hq
          have hnd' : (xs.take i ++ [nm]).Nodup := by rw [← take_snoc hy]; exact hnd.sublist (List.take_sublist _ _)
          exact absurd rfl ((List.nodup_append.mp hnd').2.2 nm hq nm (by simp))
      refine ⟨_, rfl, _, _, rfl, rfl, (by show (0 : Int) < 2; decide), _, rfl, _, rfl, p, _, rfl, DPut.k (k := (Sum.inr nm : Key)) h2 (small1000 (by omega)), ?_⟩
      refine ⟨_, rfl, _, _, rfl, rfl, ⟨by decide, by decide⟩, some (.str nm), ?_, ?_, ?_⟩
      · show _ = [some (V.ref n), some (V.int (halves (i + 1) z)), some (V.ref p), some (V.str nm)]
        rw [halves_succ]; rfl
      · rw [upd_same, putK_new _ hno, take_snoc hy, bitsL_snoc, List.length_take, Nat.min_eq_left (Nat.le_of_lt hi)]
      · exact fun c o e => by rw [upd_ne (ne_of_none e np)]; exact s2 c o e
    · rintro σ H2 ⟨v3, rfl, h2, s2⟩
      rw [List.length_map, List.take_of_length_le (Nat.le_refl _)] at h2
      exact ⟨_, rfl, k p H2 np h2 s2⟩
theorem scTurned : FnScope ["deck", "names", "left"] ["deck", "names"] (defScope sTurned) := ⟨rfl, rfl, rfl, by decide +kernel, rfl, by decide +kernel, by decide +kernel⟩
theorem ndKLD : (["k", "left", "deck"] : List Str).Nodup := by decide +kernel
set_option maxHeartbeats 4000000 in
theorem ok_turned {f fT : Addr} {fd fdT : FuncData} (F : Fun K "_law_turned" "_law_turned" sTurned f fd) (T : Txt mg) (gT : Gd K mg "_law_take" sTake ["deck", "many"] fT fdT) (GT : FnOk P w K mg base CX0 1 fT fdT ["deck", "many"] spTake) : FnOk P w K mg base CX0 2 f fd ["deck", "names"] spTurned := by
  refine F.ok scTurned (fun vs H Q E h => ?_) (fun cdv A outer s H vs Q E hr h => ?_)
  · obtain ⟨d, c, n, xs, rfl, _⟩ := h
    rfl
  · obtain ⟨d, c, n, xs, rfl, D, hn, hlen, k⟩ := h
    have hr1 : Room 1 _ := hr.mono (by decide)
    refine ⟨_, pss_cons (ps_set (i := 2) scTurned.nd rfl (Or.inr rfl) (pe_callTy call_list_of (by rfl) T.list PyProof.Rows.boot_list (pa_c (pv 1) pa_nil)))
      (pss_one (ps_ret (pe_callTy call_tuple_of (by rfl) T.tuple PyProof.Rows.boot_tuple (pa_c (pe_lc ["k"] ["left", "deck"] [2, 0] rfl (pi_range1 rfl T.range (pa_c (pe_callB call_len_seq (by rfl) T.len PySem.boot_len (pa_c (pv 1) pa_nil)) pa_nil)) rfl rfl
        (fun s₀ H₀ C cl fp => pg_name (i := 0) ndKLD rfl (Or.inl rfl)) (fun s₀ H₀ C cl fp => pifs_nil)
        (fun s₀ H₀ C cl fp => pe_bmK K PySem.F.plainAttrs_list PySem.F.slot_list_pop PySem.F.type_list_pop mt_popAt (pv 1) (pa_c (pe_call GT hr1 rfl gT.m gT.k gT.b .nil pass0 (pa_c (pv 2) (pa_c (pe_callB (call_lenK K) (by rfl) T.len PySem.boot_len (pa_c (pv 1) pa_nil)) pa_nil))) pa_nil))) pa_nil)))), ?_⟩
    refine ⟨_, rfl, n, _, rfl, .inr (SqT.of hn), fun p4 z9 => ?_⟩
    have D9 : DeckAt (upd H p4 (.lst (xs.map V.str))) d c := D.new z9
    have hn9 : upd H p4 (.lst (xs.map V.str)) n = some (.tup (xs.map V.str)) := Same.new z9 _ _ hn
    have h9 : upd H p4 (.lst (xs.map V.str)) p4 = some (.lst (xs.map V.str)) := upd_same
    have k9 : Keep d c H (upd H p4 (.lst (xs.map V.str))) := Keep.new z9
    generalize upd H p4 (.lst (xs.map V.str)) = H9 at D9 hn9 h9 k9 ⊢
    refine ⟨_, rfl, n, _, rfl, .inr (SqT.of hn9), _, rfl, by rw [List.length_map]; omega, by rw [List.length_map]; omega, fun D0 nD0 => ?_⟩
    have nd0 := D9.ned nD0
    have hHD : H D0 = none := k9.free nd0.1 nd0.2 nD0
    have np4 : p4 ≠ d ∧ p4 ≠ c := D.ned z9
    have p4D : p4 ≠ D0 := ne_of_none h9 nD0
    refine lc1y yields_range (fun i ys H10 => ∃ zs sp : List Str, ys = zs.map V.str ∧ zs.length = i ∧ (zs ++ sp).Perm xs ∧ H10 p4 = some (.lst (sp.map V.str)) ∧ DeckAt H10 d c ∧ Keep d c H H10 ∧ H10 D0 = some (.lst ys))
      ⟨[], xs, rfl, rfl, .refl _, by rw [upd_ne p4D]; exact h9, D9.new nD0, k9.trans (Keep.new nD0), upd_same⟩ (fun _ _ _ _ _ => True.intro) ?_ ?_
    · rintro i x ys H10 hx ⟨zs, sp, rfl, hzl, hpm, h10, D10, k10, hD10⟩
      have hlx := hpm.length_eq
      rw [List.length_append] at hlx
      have hi : i < xs.length := by
        have := (List.getElem?_eq_some_iff.mp hx).1
        simp at this
        omega
      refine ⟨_, rfl, .inl ⟨rfl, _, SqL.of h10⟩, _, rfl, _, rfl, p4, _, rfl, .inl (SqL.of h10), d, c, _, rfl, D10, by rw [List.length_map]; omega, by rw [List.length_map]; omega, fun r H11 b0 b1 D11 k11 => ?_⟩
      rw [List.length_map] at b1
      obtain ⟨j, rfl⟩ := Int.eq_ofNat_of_zero_le b0
      have hj : j < sp.length := by omega
      have h11 := k11 p4 _ h10 np4.1 np4.2
      have hD11 := k11 D0 _ hD10 nd0.1 nd0.2
      have hy : sp[j]? = some sp[j] := List.getElem?_eq_getElem hj
      have pm2 : ((zs ++ [sp[j]]) ++ sp.eraseIdx j).Perm (zs ++ sp) := by
        rw [List.append_assoc]
        exact List.Perm.append_left zs (pop_perm hy)
      refine ⟨p4, _, _, j, .str sp[j], rfl, rfl, h11, by omega, by omega, ?_, by simp [hj], ⟨_, rfl⟩, by rw [upd_ne p4D.symm]; exact hD11, ?_, zs ++ [sp[j]], sp.eraseIdx j, by simp, by simp [hzl], pm2.trans hpm, ?_, ?_, ?_, upd_same⟩
      · rw [List.length_map]; exact PySem.StrLaws.seqIndex_nonneg (by omega) (by omega)
      · rw [List.length_map]; exact Nat.lt_of_lt_of_le (show zs.length < 1000 by omega) (by decide)
      · rw [upd_ne p4D, upd_same, erase_map]
      · exact (D11.upd_other np4.1 np4.2).upd_other nd0.1 nd0.2
      · exact fun b o e g1 g2 => by rw [upd_ne (ne_of_none e hHD), upd_ne (ne_of_none e z9)]; exact k11 b o (k10 b o e g1 g2) g1 g2
    · rintro ys H10 ⟨zs, sp, rfl, hzl, hpm, h10, D10, k10, hD10⟩
      rw [List.length_map, List.length_range, List.length_map] at hzl
      have hz : zs.length = xs.length := by omega
      have hlx := hpm.length_eq
      rw [List.length_append] at hlx
      have es : sp = [] := List.length_eq_zero_iff.mp (by omega)
      subst es
      rw [List.append_nil] at hpm
      refine ⟨D0, _, rfl, .inl ⟨SqL.of hD10, fun t nt => ?_⟩⟩
      have ntd := D10.ned nt
      exact k t zs _ (k10.free ntd.1 ntd.2 nt) upd_same hpm (D10.new nt) (k10.trans (Keep.new nt))
theorem scToldL : FnScope ["cell", "bits", "outputs", "found"] ["cell", "bits", "outputs"] (defScope sTold) := ⟨rfl, rfl, rfl, by decide +kernel, rfl, by decide +kernel, by decide +kernel⟩
theorem ndNFC : (["name", "found", "cell"] : List Str).Nodup := by decide +kernel
theorem eqV_str_same (x : Str) : eqV (.str x) (.str x) = true := by
  show (x == x) = true
  exact beq_self_eq_true x
theorem eqV_str_ne {x y : Str} (h : y ≠ x) : eqV (.str y) (.str x) = false := by
  show (y == x) = false
  exact beq_eq_false_iff_ne.mpr h
theorem idx_le {xs : List Str} {m : Nat} {y : Str} (q : xs[m]? = some y) : xs.idxOf y ≤ m := by
  induction xs generalizing m with
  | nil => cases q
  | cons a r ih =>
    by_cases e : a = y
    · subst e
      rw [List.idxOf_cons_self]; exact Nat.zero_le _
    · cases m with
      | zero => exact absurd (Option.some.inj q) e
      | succ m =>
        rw [idx_skip e]
        exact Nat.succ_le_succ (ih q)
theorem idx_first {xs : List Str} {x : Str} (h : x ∈ xs) : xs.idxOf x < xs.length ∧ (∀ z, (xs.map V.str)[xs.idxOf x]? = some z → eqV z (.str x) = true) ∧ ∀ (m : Nat) z, m < xs.idxOf x → (xs.map V.str)[m]? = some z → eqV z (.str x) = false := by
  have lt := List.idxOf_lt_length_iff.mpr h
  have at1 : xs[xs.idxOf x]? = some x := by
    rw [List.getElem?_eq_getElem lt, List.getElem_idxOf]
  refine ⟨lt, fun z e => ?_, fun m z hm e => ?_⟩
  · rw [List.getElem?_map, at1] at e
    cases e
    exact eqV_str_same x
  · rw [List.getElem?_map] at e
    cases q : xs[m]? with
    | none => rw [q] at e; cases e
    | some y =>
      rw [q] at e
      cases e
      refine eqV_str_ne fun z => ?_
      subst z
      have : xs.idxOf y ≤ m := idx_le q
      omega
theorem mt_indexTK {X : Cx} (K : PySem.W.Frag) (hK : X.K = K := by rfl) : MtR X "tuple.index" (rIndexT K) := by subst hK; exact mt_indexT
theorem all_flat (xs : List Str) : (xs.map V.str).all flatV = true := by
  rw [List.all_eq_true]
  intro v hv
  obtain ⟨x, _, rfl⟩ := List.mem_map.mp hv
  rfl
set_option maxHeartbeats 4000000 in
theorem ok_toldL {f fT : Addr} {fd fdT : FuncData} (F : Fun K "_law_told" "_law_told" sTold f fd) (gT : Gd K mg "told_by" sToldBy ["cell", "bits"] fT fdT) (GT : FnOk P w K mg base CX0 2 fT fdT ["cell", "bits"] spTold) : FnOk P w K mg base CX0 3 f fd ["cell", "bits", "outputs"] spToldL := by
  refine F.ok scToldL (fun vs H Q E h => ?_) (fun cdv A outer s H vs Q E hr h => ?_)
  · obtain ⟨ce, b, o, C, kvs, ρ, os, rfl, _⟩ := h
    rfl
  · obtain ⟨ce, b, o, C, kvs, ρ, os, rfl, hC, G, hb, hH, ho, hm, hlen, k⟩ := h
    have hr2 : Room 2 _ := hr.mono (by decide)
    obtain ⟨ia, ga, oa, as, c1, c2, c3, c4, c5⟩ := hC.ex
    refine ⟨_, pss_cons (ps_set (i := 3) scToldL.nd rfl (Or.inr rfl) (pe_call GT hr2 rfl gT.m gT.k gT.b .nil pass0 (pa_c (pv 0) (pa_c (pv 1) pa_nil))))
      (pss_one (ps_ret (pe_lc ["name"] ["found", "cell"] [3, 0] rfl (pi_tup (pv 2)) rfl rfl (fun s₀ H₀ C cl fp => pg_name (i := 0) ndNFC rfl (Or.inl rfl)) (fun s₀ H₀ C cl fp => pifs_nil)
        (fun s₀ H₀ C cl fp => pe_ix (ix_tupK K) (pv 1) (pe_bmT PySem.F.slot_tuple_index PySem.F.type_tuple_index (mt_indexTK K) (pe_ix (ix_tupK K) (pv 2) pe_int (fun _ _ => rfl)) (pa_c (pv 0) pa_nil)) (fun _ _ => rfl))))), ?_⟩
    refine ⟨_, rfl, _, rfl, ce, b, C, kvs, ρ, rfl, hC, G, hb, hH, fun t H1 nt ht s1 => ?_⟩
    refine ⟨_, rfl, o, rfl, ⟨_, SqT.of (s1 _ _ ho)⟩, fun D0 nD0 => ?_⟩
    refine lcMap yields_tup (fV (evalC C ρ)) nD0 (fun H6 s6 => SqT.of (s6 _ _ (s1 _ _ ho))) (by rw [List.length_map]; omega) ?_ ?_
    · intro j x H6 kk hx s6 hk
      obtain ⟨y, hy, rfl⟩ := str_item hx
      have my := hm y (List.mem_of_getElem? hy)
      obtain ⟨i1, i2, i3⟩ := idx_first my
      have s16 := s1.trans s6
      refine ⟨_, rfl, _, rfl, ce, _, _, .ref oa, rfl, rfl, SqT.of (s16 _ _ c1), rfl, ⟨oa, _, rfl, s16 _ _ c4⟩, _, rfl, oa, _, _, C.outs.idxOf y, rfl, rfl, SqT.of (s16 _ _ c4), all_flat _, rfl, by rw [List.length_map]; exact i1, i2, i3, t, _, _, .int (evalC C ρ y), rfl, rfl, SqT.of (s6 _ _ ht), ?_, hk⟩
      refine atI_nat ?_
      rw [List.getElem?_map, List.getElem?_map, List.getElem?_eq_getElem i1, List.getElem_idxOf]; rfl
    · rw [map_fV]
      exact k D0 _ (s1.free nD0) upd_same (s1.trans (Same.new nD0))
end
end Lw
namespace Lw
open PySem L2
noncomputable def GateAt1 (H : Hp) (a : Addr) (g : Gt) : Prop := ∃ q, H a = some (.tup [.str g.1, .str g.2.1, .ref q]) ∧ H q = some (.tup (g.2.2.map V.str))
noncomputable def spOthers : Sp := fun vs H Q _ => ∃ (ga fa : Addr) (g : Gt) (f1 f2 f3 f4 : Str), vs = [.ref ga, .ref fa] ∧ GateAt1 H ga g ∧ H fa = some (.lst [.str f1, .str f2, .str f3, .str f4]) ∧ ArOk g.2.1 g.2.2.length ∧
  ∀ (l : Addr) (ts : List Addr) (H' : Hp), H l = none → H' l = some (.lst (ts.map V.ref)) → GatesAt H' ts (exG g f1 f2 f3 f4) → Same H H' → Q (.ref l) H'
noncomputable def ao : List Str := ["and", "or"]
theorem gate_laid {H2 : Hp} {c t : Addr} {o : HO} {nm wd : Str} {ps : List Str} (n : H2 c = none) (m : upd H2 c o t = none) (e : o = .tup (ps.map V.str)) : Same H2 (upd (upd H2 c o) t (.tup [.str nm, .str wd, .ref c])) ∧ GateAt1 (upd (upd H2 c o) t (.tup [.str nm, .str wd, .ref c])) t (nm, wd, ps) :=
  ⟨(Same.new n).trans (Same.new m), c, upd_same, e ▸ Same.new m _ _ upd_same⟩
theorem GateAt1.same {H H' : Hp} {a : Addr} {g : Gt} (h : GateAt1 H a g) (s : Same H H') : GateAt1 H' a g := by
  obtain ⟨q, h1, h2⟩ := h
  exact ⟨q, s _ _ h1, s _ _ h2⟩
theorem other_at {wd : Str} (h : wd ∈ ao) : atI [V.str "or", V.str "and"] (if decide (V.str wd = V.str "or") then 1 else 0) = some (.str (if wd = "or" then "and" else "or")) := by
  unfold ao at h
  simp only [List.mem_cons, List.not_mem_nil, or_false] at h
  rcases h with rfl | rfl
  · rw [if_neg (show ¬ (("and" : Str) = "or") by decide +kernel), if_neg (by simp; decide +kernel)]; rfl
  · rw [if_pos rfl, if_pos (by simp)]; rfl
section
variable {P : Program} {w : World} {K : PySem.W.Frag} {mg : Str → Option Value} {base : Heap}
theorem scOthers : FnScope ["gate", "fresh", "name", "word", "names", "one", "two", "three", "four", "other", "some"] ["gate", "fresh"] (defScope sOthers) := ⟨rfl, rfl, rfl, by decide +kernel, rfl, by decide +kernel, by decide +kernel⟩
set_option maxHeartbeats 4000000 in
theorem ok_others {f : Addr} {fd : FuncData} (F : Fun K "_law_by_others" "_law_by_others" sOthers f fd) (T : Txt mg) : FnOk P w K mg base CX0 1 f fd ["gate", "fresh"] spOthers := by
  refine F.ok scOthers (fun vs H Q E h => ?_) (fun cdv A outer s H vs Q E hr h => ?_)
  · obtain ⟨ga, fa, g, f1, f2, f3, f4, rfl, _⟩ := h
    rfl
  · obtain ⟨ga, fa, ⟨nm, wd, ps⟩, f1, f2, f3, f4, rfl, ⟨q, hg, hq⟩, hf, ok, k⟩ := h
    dsimp only at hg hq ok k
    have hu := hu_of hr
    refine ex_next _ (ps_asg (pv 0) (pg_tup rfl (pgs_cons (pg_name (i := 2) scOthers.nd rfl (Or.inl rfl)) (pgs_cons (pg_name (i := 3) scOthers.nd rfl (Or.inl rfl)) (pgs_cons (pg_name (i := 4) scOthers.nd rfl (Or.inl rfl)) pgs_nil))))) ?_
    refine ⟨_, rfl, ga, _, rfl, SqT.of hg, rfl, _, _, rfl, _, _, rfl, _, _, rfl, rfl, ?_⟩
    refine ex_next _ (ps_asg (pv 1) (pg_lst rfl (pgs_cons (pg_name (i := 5) scOthers.nd rfl (Or.inl rfl)) (pgs_cons (pg_name (i := 6) scOthers.nd rfl (Or.inl rfl)) (pgs_cons (pg_name (i := 7) scOthers.nd rfl (Or.inl rfl)) (pgs_cons (pg_name (i := 8) scOthers.nd rfl (Or.inl rfl)) pgs_nil)))))) ?_
    refine ⟨_, rfl, fa, _, rfl, SqL.of hf, rfl, _, _, rfl, _, _, rfl, _, _, rfl, _, _, rfl, rfl, ?_⟩
    refine ex_cut (fun σ H3 => σ = [some (.ref ga), some (.ref fa), some (.str nm), some (.str wd), some (.ref q), some (.str f1), some (.str f2), some (.str f3), some (.str f4), none, none] ∧ ¬ (wd ∈ ao ∧ ps.length = 2) ∧ Same H H3) (fun u hu' => ?_) ?_
    · refine ⟨_, ps_if (PW.pt (pw_and (pt_cmpR op_in_seq (pv 3) (pe_lst (pa_c pe_str (pa_c pe_str pa_nil))) rfl) (pw_and1 (pt_cmpR op_eq (pe_callB call_len_seq (by rfl) T.len PySem.boot_len (pa_c (pv 4) pa_nil)) pe_int (nomark _)))))
        (pss_cons (ps_set (i := 9) scOthers.nd rfl (Or.inl rfl) (pe_ix ix_list (pe_lst (pa_c pe_str (pa_c pe_str pa_nil))) (pe_callTy call_int1 (by rfl) T.int PyProof.Rows.boot_int (pa_c (pe_cmpR op_eq (pv 3) pe_str (nomark _)) pa_nil)) (fun _ _ => rfl)))
        (pss_cons (ps_set (i := 10) scOthers.nd rfl (Or.inl rfl) (pe_lst (pa_c (pe_tup (pa_c (pv 5) (pa_c pe_str (pa_c (pe_slice sl_tup (pv 4) po_none (po_some pe_int)) pa_nil)))) (pa_c (pe_tup (pa_c (pv 6) (pa_c pe_str (pa_c (pe_slice sl_tup (pv 4) (po_some pe_int) po_none) pa_nil)))) (pa_c (pe_tup (pa_c (pv 7) (pa_c (pv 9) (pa_c (pe_tup (pa_c (pv 5) (pa_c (pv 6) pa_nil))) pa_nil)))) pa_nil)))))
        (pss_one (ps_ret (pe_op op_cat (pv 10) (pe_lst (pa_c (pe_tup (pa_c (pv 2) (pa_c pe_str (pa_c (pe_tup (pa_c (pv 7) pa_nil)) pa_nil)))) pa_nil))))))) pss_nil, ?_⟩
      refine ⟨_, rfl, (by show 2 ≤ sizeLine; decide), fun p np => ⟨p, ao.map V.str, rfl, .inl (SqL.of upd_same), rfl, flat_strs _, _, rfl, ?_⟩⟩
      rw [inV_str]
      have s1 : Same H (upd H p (.lst [V.str "and", V.str "or"])) := Same.new np
      refine ite2 (fun hk => ?_) (fun hk => iteF (hu' _ _ ⟨rfl, fun z => hk (decide_eq_true z.1), s1⟩))
      have hk' : wd ∈ ao := of_decide_eq_true hk
      refine ⟨_, rfl, q, _, rfl, .inr (SqT.of (s1 _ _ hq)), rfl, _, rfl, ?_⟩
      refine ite2 (fun h2 => ?_) (fun h2 => hu' _ _ ⟨rfl, fun z => h2 (by simp [z.2]), s1⟩)
      have hl : ps.length = 2 := by
        have := of_decide_eq_true h2
        injection this with this
        simp at this
        omega
      obtain ⟨x1, x2, rfl⟩ : ∃ x1 x2, ps = [x1, x2] := by
        match ps, hl with
        | [a, b], _ => exact ⟨a, b, rfl⟩
      refine ⟨(by show 2 ≤ sizeLine; decide), fun p2 np2 => ⟨_, rfl, rfl, .inr ⟨_, rfl, p2, _, _, .str (if wd = "or" then "and" else "or"), rfl, rfl, SqL.of upd_same, ?_, ?_⟩⟩⟩
      · exact other_at hk'
      have s2 := s1.trans (Same.new (o := .lst [V.str "or", V.str "and"]) np2)
      generalize upd (upd H p (.lst [V.str "and", V.str "or"])) p2 (.lst [V.str "or", V.str "and"]) = H2 at s2 ⊢
      refine ⟨_, rfl, _, rfl, _, rfl, q, _, rfl, SqT.of (s2 _ _ hq), (by show ¬ (HT.sIx 2 0 none = 0 ∧ HT.sIx 2 2 (some 1) = 2); decide), fun c1 n1 => ⟨(by show 3 ≤ sizeLine; decide), fun t1 m1 => ?_⟩⟩
      obtain ⟨s3, g1⟩ := gate_laid (nm := f1) (wd := "not") (ps := [x1]) n1 m1 rfl
      generalize upd (upd H2 c1 _) t1 _ = H3 at s3 g1 ⊢
      replace s3 := s2.trans s3
      refine ⟨_, rfl, _, rfl, _, rfl, q, _, rfl, SqT.of (s3 _ _ hq), (by show ¬ (HT.sIx 2 0 (some 1) = 0 ∧ HT.sIx 2 2 none = 2); decide), fun c2 n2 => ⟨(by show 3 ≤ sizeLine; decide), fun t2 m2 => ?_⟩⟩
      obtain ⟨s4, g2⟩ := gate_laid (nm := f2) (wd := "not") (ps := [x2]) n2 m2 rfl
      generalize upd (upd H3 c2 _) t2 _ = H4 at s4 g2 ⊢
      replace g1 := g1.same s4
      replace s4 := s3.trans s4
      refine ⟨_, rfl, _, rfl, _, rfl, _, rfl, (by show 2 ≤ sizeLine; decide), fun c3 n3 => ⟨(by show 3 ≤ sizeLine; decide), fun t3 m3 => ?_⟩⟩
      obtain ⟨s5, g3⟩ := gate_laid (nm := f3) (wd := if wd = "or" then "and" else "or") (ps := [f1, f2]) n3 m3 rfl
      generalize upd (upd H4 c3 _) t3 _ = H5 at s5 g3 ⊢
      replace g1 := g1.same s5
      replace g2 := g2.same s5
      replace s5 := s4.trans s5
      refine ⟨(by show 3 ≤ sizeLine; decide), fun sl nsl => ⟨_, rfl, _, rfl, _, rfl, (by show 1 ≤ sizeLine; decide), fun c4 n4 => ⟨(by show 3 ≤ sizeLine; decide), fun t4 m4 => ?_⟩⟩⟩
      have s6 := Same.new (o := HO.lst [V.ref t1, V.ref t2, V.ref t3]) nsl
      have h6 := upd_same (H := H5) (a := sl) (o := HO.lst [V.ref t1, V.ref t2, V.ref t3])
      obtain ⟨s7, g4⟩ := gate_laid (nm := nm) (wd := "not") (ps := [f3]) n4 m4 rfl
      generalize upd H5 sl (HO.lst [V.ref t1, V.ref t2, V.ref t3]) = H6 at s6 h6 n4 m4 s7 g4 ⊢
      generalize upd (upd H6 c4 _) t4 _ = H7 at s7 g4 ⊢
      replace g1 := (g1.same s6).same s7
      replace g2 := (g2.same s6).same s7
      replace g3 := (g3.same s6).same s7
      have h7 := s7 _ _ h6
      replace s7 := (s5.trans s6).trans s7
      refine ⟨(by show 1 ≤ sizeLine; decide), fun l2 nl2 => ⟨sl, l2, _, _, rfl, rfl, Same.new nl2 _ _ h7, upd_same, (by show 3 + 1 ≤ sizeLine; decide), fun l nl => ?_⟩⟩
      have s8 := (Same.new (o := HO.lst [V.ref t4]) nl2).trans (Same.new (o := HO.lst [V.ref t1, V.ref t2, V.ref t3, V.ref t4]) nl)
      refine k l [t1, t2, t3, t4] _ ((s7.trans (Same.new nl2)).free nl) upd_same ?_ (s7.trans s8)
      rw [show exG (nm, wd, [x1, x2]) f1 f2 f3 f4 = [(f1, Str.ofString "not", [x1]), (f2, Str.ofString "not", [x2]), (f3, if wd = Str.ofString "or" then Str.ofString "and" else Str.ofString "or", [f1, f2]), (nm, Str.ofString "not", [f3])] by
        unfold exG; rw [if_pos ⟨by unfold ao at hk'; simpa using hk', rfl⟩]; rfl]
      exact .cons (g1.same s8) (.cons (g2.same s8) (.cons (g3.same s8) (.cons (g4.same s8) .nil)))
    rintro σ H3 ⟨rfl, hA, s3⟩
    refine ex_cut (fun σ H3 => σ = [some (.ref ga), some (.ref fa), some (.str nm), some (.str wd), some (.ref q), some (.str f1), some (.str f2), some (.str f3), some (.str f4), none, none] ∧ ¬ (wd ∈ two3 ∧ ps.length = 3) ∧ Same H H3) (fun u hu' => ?_) ?_
    · refine ⟨_, ps_if (PW.pt (pw_and (pt_cmpR op_in_seq (pv 3) (pe_lst (pa_c pe_str (pa_c pe_str (pa_c pe_str pa_nil)))) rfl) (pw_and1 (pt_cmpR op_eq (pe_callB call_len_seq (by rfl) T.len PySem.boot_len (pa_c (pv 4) pa_nil)) pe_int (nomark _)))))
        (pss_one (ps_ret (pe_lst (pa_c (pe_tup (pa_c (pv 5) (pa_c (pv 3) (pa_c (pe_slice sl_tup (pv 4) po_none (po_some pe_int)) pa_nil)))) (pa_c (pe_tup (pa_c (pv 2) (pa_c (pv 3) (pa_c (pe_tup (pa_c (pv 5) (pa_c (pe_ix ix_tup (pv 4) pe_int (fun _ _ => rfl)) pa_nil))) pa_nil)))) pa_nil))))) pss_nil, ?_⟩
      refine ⟨_, rfl, (by show 3 ≤ sizeLine; decide), fun p np => ⟨p, two3.map V.str, rfl, .inl (SqL.of upd_same), rfl, flat_strs _, _, rfl, ?_⟩⟩
      rw [inV_str]
      have s1 := s3.trans (Same.new (o := HO.lst [V.str "and", V.str "or", V.str "odd"]) np)
      refine ite2 (fun hk => ?_) (fun hk => iteF (hu' _ _ ⟨rfl, fun z => hk (decide_eq_true z.1), s1⟩))
      have hk' : wd ∈ two3 := of_decide_eq_true hk
      refine ⟨_, rfl, q, _, rfl, .inr (SqT.of (s1 _ _ hq)), rfl, _, rfl, ?_⟩
      refine ite2 (fun h2 => ?_) (fun h2 => hu' _ _ ⟨rfl, fun z => h2 (by simp [z.2]), s1⟩)
      have hl : ps.length = 3 := by
        have := of_decide_eq_true h2
        injection this with this
        simp at this
        omega
      obtain ⟨x1, x2, x3, rfl⟩ : ∃ x1 x2 x3, ps = [x1, x2, x3] := by
        match ps, hl with
        | [a, b, c], _ => exact ⟨a, b, c, rfl⟩
      generalize upd H3 p (HO.lst [V.str "and", V.str "or", V.str "odd"]) = H2 at s1 ⊢
      refine ⟨_, rfl, _, rfl, _, rfl, _, rfl, q, _, rfl, SqT.of (s1 _ _ hq), (by show ¬ (HT.sIx 3 0 none = 0 ∧ HT.sIx 3 3 (some 2) = 3); decide), fun c1 n1 => ⟨(by show 3 ≤ sizeLine; decide), fun t1 m1 => ?_⟩⟩
      obtain ⟨s4, g1⟩ := gate_laid (nm := f1) (wd := wd) (ps := [x1, x2]) n1 m1 rfl
      generalize upd (upd H2 c1 _) t1 _ = H4 at s4 g1 ⊢
      replace s4 := s1.trans s4
      refine ⟨_, rfl, _, rfl, _, rfl, _, rfl, q, _, _, .str x3, rfl, rfl, SqT.of (s4 _ _ hq), rfl, (by show 2 ≤ sizeLine; decide), fun c2 n2 => ⟨(by show 3 ≤ sizeLine; decide), fun t2 m2 => ?_⟩⟩
      obtain ⟨s5, g2⟩ := gate_laid (nm := nm) (wd := wd) (ps := [f1, x3]) n2 m2 rfl
      generalize upd (upd H4 c2 _) t2 _ = H5 at s5 g2 ⊢
      replace g1 := g1.same s5
      replace s5 := s4.trans s5
      refine ⟨(by show 2 ≤ sizeLine; decide), fun l nl => ?_⟩
      have s8 := Same.new (o := HO.lst [V.ref t1, V.ref t2]) nl
      refine k l [t1, t2] _ (s5.free nl) upd_same ?_ (s5.trans s8)
      rw [show exG (nm, wd, [x1, x2, x3]) f1 f2 f3 f4 = [(f1, wd, [x1, x2]), (nm, wd, [f1, x3])] by
        unfold exG; rw [if_neg (fun z => absurd z.2 (show ¬ (3 = 2) by decide)), if_pos ⟨by unfold two3 at hk'; simpa using hk', rfl⟩]; rfl]
      exact .cons (g1.same s8) (.cons (g2.same s8) .nil)
    clear s3
    rintro σ H3 ⟨rfl, hB, s3⟩
    refine ex_cut (fun σ H3 => σ = [some (.ref ga), some (.ref fa), some (.str nm), some (.str wd), some (.ref q), some (.str f1), some (.str f2), some (.str f3), some (.str f4), none, none] ∧ wd ≠ "most" ∧ Same H H3) (fun u hu' => ?_) ?_
    · refine ⟨_, ps_if (pt_cmpR op_eq (pv 3) pe_str (nomark _))
        (pss_cons (ps_set (i := 10) scOthers.nd rfl (Or.inl rfl) (pe_lst (pa_c (pe_tup (pa_c (pv 5) (pa_c pe_str (pa_c (pe_slice sl_tup (pv 4) po_none (po_some pe_int)) pa_nil)))) (pa_c (pe_tup (pa_c (pv 6) (pa_c pe_str (pa_c (pe_slice sl_tup (pv 4) po_none (po_some pe_int)) pa_nil)))) (pa_c (pe_tup (pa_c (pv 7) (pa_c pe_str (pa_c (pe_tup (pa_c (pv 6) (pa_c (pe_ix ix_tup (pv 4) pe_int (fun _ _ => rfl)) pa_nil))) pa_nil)))) pa_nil)))))
        (pss_one (ps_ret (pe_op op_cat (pv 10) (pe_lst (pa_c (pe_tup (pa_c (pv 2) (pa_c pe_str (pa_c (pe_tup (pa_c (pv 5) (pa_c (pv 7) pa_nil))) pa_nil)))) pa_nil)))))) pss_nil, ?_⟩
      refine ⟨_, rfl, rfl, _, rfl, ?_⟩
      refine ite2 (fun hk => ?_) (fun hk => hu' _ _ ⟨rfl, fun z => hk (by rw [z]; exact decide_eq_true rfl), s3⟩)
      have hk' : wd = "most" := by
        have := of_decide_eq_true hk
        injection this
      subst hk'
      have hl : ps.length = 3 := by
        rcases ok.ok with ⟨z, _⟩ | ⟨_, z⟩ | ⟨z, _⟩ | ⟨z, _⟩ | ⟨z, _⟩
        · exact absurd z (by decide +kernel)
        · exact z
        all_goals exact absurd z (by decide +kernel)
      obtain ⟨x1, x2, x3, rfl⟩ : ∃ x1 x2 x3, ps = [x1, x2, x3] := by
        match ps, hl with
        | [a, b, c], _ => exact ⟨a, b, c, rfl⟩
      refine ⟨_, rfl, _, rfl, _, rfl, q, _, rfl, SqT.of (s3 _ _ hq), (by show ¬ (HT.sIx 3 0 none = 0 ∧ HT.sIx 3 3 (some 2) = 3); decide), fun c1 n1 => ⟨(by show 3 ≤ sizeLine; decide), fun t1 m1 => ?_⟩⟩
      obtain ⟨s4, g1⟩ := gate_laid (nm := f1) (wd := "and") (ps := [x1, x2]) n1 m1 rfl
      generalize upd (upd H3 c1 _) t1 _ = H4 at s4 g1 ⊢
      replace s4 := s3.trans s4
      refine ⟨_, rfl, _, rfl, _, rfl, q, _, rfl, SqT.of (s4 _ _ hq), (by show ¬ (HT.sIx 3 0 none = 0 ∧ HT.sIx 3 3 (some 2) = 3); decide), fun c2 n2 => ⟨(by show 3 ≤ sizeLine; decide), fun t2 m2 => ?_⟩⟩
      obtain ⟨s5, g2⟩ := gate_laid (nm := f2) (wd := "or") (ps := [x1, x2]) n2 m2 rfl
      generalize upd (upd H4 c2 _) t2 _ = H5 at s5 g2 ⊢
      replace g1 := g1.same s5
      replace s5 := s4.trans s5
      refine ⟨_, rfl, _, rfl, _, rfl, q, _, _, .str x3, rfl, rfl, SqT.of (s5 _ _ hq), rfl, (by show 2 ≤ sizeLine; decide), fun c3 n3 => ⟨(by show 3 ≤ sizeLine; decide), fun t3 m3 => ?_⟩⟩
      obtain ⟨s6, g3⟩ := gate_laid (nm := f3) (wd := "and") (ps := [f2, x3]) n3 m3 rfl
      generalize upd (upd H5 c3 _) t3 _ = H6 at s6 g3 ⊢
      replace g1 := g1.same s6
      replace g2 := g2.same s6
      replace s6 := s5.trans s6
      refine ⟨(by show 3 ≤ sizeLine; decide), fun sl nsl => ⟨_, rfl, _, rfl, _, rfl, _, rfl, (by show 2 ≤ sizeLine; decide), fun c4 n4 => ⟨(by show 3 ≤ sizeLine; decide), fun t4 m4 => ?_⟩⟩⟩
      have s7 := Same.new (o := HO.lst [V.ref t1, V.ref t2, V.ref t3]) nsl
      have h7 := upd_same (H := H6) (a := sl) (o := HO.lst [V.ref t1, V.ref t2, V.ref t3])
      obtain ⟨s8, g4⟩ := gate_laid (nm := nm) (wd := "or") (ps := [f1, f3]) n4 m4 rfl
      generalize upd H6 sl (HO.lst [V.ref t1, V.ref t2, V.ref t3]) = H7 at s7 h7 n4 m4 s8 g4 ⊢
      generalize upd (upd H7 c4 _) t4 _ = H8 at s8 g4 ⊢
      replace g1 := (g1.same s7).same s8
      replace g2 := (g2.same s7).same s8
      replace g3 := (g3.same s7).same s8
      have h8 := s8 _ _ h7
      replace s8 := (s6.trans s7).trans s8
      refine ⟨(by show 1 ≤ sizeLine; decide), fun l2 nl2 => ⟨sl, l2, _, _, rfl, rfl, Same.new nl2 _ _ h8, upd_same, (by show 3 + 1 ≤ sizeLine; decide), fun l nl => ?_⟩⟩
      have s9 := (Same.new (o := HO.lst [V.ref t4]) nl2).trans (Same.new (o := HO.lst [V.ref t1, V.ref t2, V.ref t3, V.ref t4]) nl)
      refine k l [t1, t2, t3, t4] _ ((s8.trans (Same.new nl2)).free nl) upd_same ?_ (s8.trans s9)
      rw [show exG (nm, "most", [x1, x2, x3]) f1 f2 f3 f4 = [(f1, Str.ofString "and", [x1, x2]), (f2, Str.ofString "or", [x1, x2]), (f3, Str.ofString "and", [f2, x3]), (nm, Str.ofString "or", [f1, f3])] by
        unfold exG; rw [if_neg (fun z => absurd z.2 (show ¬ (3 = 2) by decide)), if_neg (fun z => absurd z.1 (show ¬ (Str.ofString "most" = Str.ofString "and" ∨ Str.ofString "most" = Str.ofString "or" ∨ Str.ofString "most" = Str.ofString "odd") by decide +kernel)), if_pos rfl]; rfl]
      exact .cons (g1.same s9) (.cons (g2.same s9) (.cons (g3.same s9) (.cons (g4.same s9) .nil)))
    clear s3
    rintro σ H3 ⟨rfl, hC, s3⟩
    have fA : ¬ ((wd = "and" ∨ wd = "or") ∧ ps.length = 2) := fun z => hA ⟨by unfold ao; simpa using z.1, z.2⟩
    have fB : ¬ ((wd = "and" ∨ wd = "or" ∨ wd = "odd") ∧ ps.length = 3) := fun z => hB ⟨by unfold two3; simpa using z.1, z.2⟩
    refine ex_cut (fun σ H3 => σ = [some (.ref ga), some (.ref fa), some (.str nm), some (.str wd), some (.ref q), some (.str f1), some (.str f2), some (.str f3), some (.str f4), none, none] ∧ wd ≠ "nil" ∧ Same H H3) (fun u hu' => ?_) ?_
    · refine ⟨_, ps_if (pt_cmpR op_eq (pv 3) pe_str (nomark _))
        (pss_one (ps_ret (pe_lst (pa_c (pe_tup (pa_c (pv 5) (pa_c pe_str (pa_c (pe_tup pa_nil) pa_nil)))) (pa_c (pe_tup (pa_c (pv 2) (pa_c pe_str (pa_c (pe_tup (pa_c (pv 5) (pa_c (pv 5) pa_nil))) pa_nil)))) pa_nil))))) pss_nil, ?_⟩
      refine ⟨_, rfl, rfl, _, rfl, ?_⟩
      refine ite2 (fun hk => ?_) (fun hk => hu' _ _ ⟨rfl, fun z => hk (by rw [z]; exact decide_eq_true rfl), s3⟩)
      have hk' : wd = "nil" := by
        have := of_decide_eq_true hk
        injection this
      refine ⟨_, rfl, (by show 0 ≤ sizeLine; decide), fun c1 n1 => ⟨(by show 3 ≤ sizeLine; decide), fun t1 m1 => ?_⟩⟩
      obtain ⟨s4, g1⟩ := gate_laid (nm := f1) (wd := "one") (ps := []) n1 m1 rfl
      generalize upd (upd H3 c1 _) t1 _ = H4 at s4 g1 ⊢
      replace s4 := s3.trans s4
      refine ⟨_, rfl, _, rfl, _, rfl, (by show 2 ≤ sizeLine; decide), fun c2 n2 => ⟨(by show 3 ≤ sizeLine; decide), fun t2 m2 => ?_⟩⟩
      obtain ⟨s5, g2⟩ := gate_laid (nm := nm) (wd := "odd") (ps := [f1, f1]) n2 m2 rfl
      generalize upd (upd H4 c2 _) t2 _ = H5 at s5 g2 ⊢
      replace g1 := g1.same s5
      replace s5 := s4.trans s5
      refine ⟨(by show 2 ≤ sizeLine; decide), fun l nl => ?_⟩
      have s8 := Same.new (o := HO.lst [V.ref t1, V.ref t2]) nl
      refine k l [t1, t2] _ (s5.free nl) upd_same ?_ (s5.trans s8)
      rw [show exG (nm, wd, ps) f1 f2 f3 f4 = [(f1, Str.ofString "one", []), (nm, Str.ofString "odd", [f1, f1])] by
        unfold exG; rw [if_neg fA, if_neg fB, if_neg hC, if_pos hk']]
      exact .cons (g1.same s8) (.cons (g2.same s8) .nil)
    clear s3
    rintro σ H3 ⟨rfl, hD, s3⟩
    refine ⟨_, pss_one (ps_ret (pe_lst (pa_c (pv 0) (pa_c (pe_tup (pa_c (pv 8) (pa_c pe_str (pa_c (pe_tup (pa_c (pv 2) pa_nil)) pa_nil)))) pa_nil)))), ?_⟩
    refine ⟨_, rfl, _, rfl, _, rfl, (by show 1 ≤ sizeLine; decide), fun c1 n1 => ⟨(by show 3 ≤ sizeLine; decide), fun t1 m1 => ?_⟩⟩
    obtain ⟨s4, g1⟩ := gate_laid (nm := f4) (wd := "not") (ps := [nm]) n1 m1 rfl
    generalize upd (upd H3 c1 _) t1 _ = H4 at s4 g1 ⊢
    replace s4 := s3.trans s4
    refine ⟨(by show 2 ≤ sizeLine; decide), fun l nl => ?_⟩
    have s8 := Same.new (o := HO.lst [V.ref ga, V.ref t1]) nl
    refine k l [ga, t1] _ (s4.free nl) upd_same ?_ (s4.trans s8)
    rw [show exG (nm, wd, ps) f1 f2 f3 f4 = [(nm, wd, ps), (f4, Str.ofString "not", [nm])] by
      unfold exG; rw [if_neg fA, if_neg fB, if_neg hC, if_neg hD]]
    exact .cons ⟨q, (s4.trans s8) _ _ hg, (s4.trans s8) _ _ hq⟩ (.cons (g1.same s8) .nil)
end
end Lw
namespace Lw
open PySem L2
noncomputable def spOtherw : Sp := fun vs H Q _ => ∃ (ce : Addr) (C : Cel), vs = [.ref ce, .int 24] ∧ CellAt H ce C ∧ Good C ∧ C.gates.length ≤ 20 ∧ ∀ (c2 : Addr) (H' : Hp), H c2 = none → CellAt H' c2 (owC C) → Same H H' → Q (.ref c2) H'
noncomputable def let20 : Str := "abcdefghijklmnopqrst"
theorem let20_at {k : Nat} (h : k < 20) : atI let20.cps.toList (k : Int) = some (97 + k) := by
  have a : ∀ k : Fin 20, atI let20.cps.toList ((k : Nat) : Int) = some (97 + (k : Nat)) := by decide +kernel
  exact a ⟨k, h⟩
noncomputable def frV (k : Nat) : V → V
  | .str z => .str (Str.ofString "v" ++ (⟨#[97 + k]⟩ : Str) ++ z)
  | v => v
theorem v_app (k c : Nat) : (Str.ofString "v" ++ (⟨#[97 + k]⟩ : Str) ++ (⟨#[c]⟩ : Str)) = ⟨#[118, 97 + k, c]⟩ := by
  refine str_ext ?_
  rw [app_list, app_list]
  rfl
theorem fr_list (k : Nat) : (signsV (Str.ofString "wxyz")).map (frV k) = [.str (frN k 0), .str (frN k 1), .str (frN k 2), .str (frN k 3)] := by
  have e : signsV (Str.ofString "wxyz") = [.str ⟨#[119]⟩, .str ⟨#[120]⟩, .str ⟨#[121]⟩, .str ⟨#[122]⟩] := by decide +kernel
  rw [e]
  show [V.str _, V.str _, V.str _, V.str _] = _
  rw [v_app, v_app, v_app, v_app]; rfl
theorem paired_app {α β : Type} {F : α → β → Prop} : ∀ {l₁ m₁ : List α} {l₂ m₂ : List β}, Paired F l₁ l₂ → Paired F m₁ m₂ → Paired F (l₁ ++ m₁) (l₂ ++ m₂)
  | _, _, _, _, .nil, h => h
  | _, _, _, _, .cons x r, h => .cons x (paired_app r h)
section
variable {P : Program} {w : World} {K : PySem.W.Frag} {mg : Str → Option Value} {base : Heap}
theorem scOtherw : FnScope ["cell", "count", "gates", "k", "fresh"] ["cell", "count"] (defScope sOtherw) := ⟨rfl, rfl, rfl, by decide +kernel, rfl, by decide +kernel, by decide +kernel⟩
theorem ndSK : (["sign", "k"] : List Str).Nodup := by decide +kernel
set_option maxHeartbeats 4000000 in
theorem ok_otherw {f fO : Addr} {fd fdO : FuncData} (F : Fun K "_law_otherwise" "_law_otherwise" sOtherw f fd) (T : Txt mg) (gO : Gd K mg "_law_by_others" sOthers ["gate", "fresh"] fO fdO) (GO : FnOk P w K mg base CX0 1 fO fdO ["gate", "fresh"] spOthers) : FnOk P w K mg base CX0 2 f fd ["cell", "count"] spOtherw := by
  refine F.ok scOtherw (fun vs H Q E h => ?_) (fun cdv A outer s H vs Q E hr h => ?_)
  · obtain ⟨ce, C, rfl, _⟩ := h
    rfl
  · obtain ⟨ce, C, rfl, hC, G, l20, k⟩ := h
    have hr1 : Room 1 _ := hr.mono (by decide)
    obtain ⟨ia, ga, oa, as, c1, c2, c3, c4, c5⟩ := hC.ex
    have la : as.length = C.gates.length := c5.length
    refine ex_next _ (ps_set (i := 2) scOtherw.nd rfl (Or.inl rfl) (pe_lst pa_nil)) ?_
    refine ⟨(by show 0 ≤ sizeLine; decide), fun l0 nl0 => ?_⟩
    refine ex_cut (fun σ H2 => ∃ (l : Addr) (ts : List Addr) (v3 v4 : Option V), σ = [some (.ref ce), some (.int 24), some (.ref l), v3, v4] ∧ H2 l = some (.lst (ts.map V.ref)) ∧ GatesAt H2 ts (owC C).gates ∧ Same H H2) (fun u hu' => ?_) ?_
    · refine ⟨_, ps_for PassesOwn.never rfl (pi_range1 rfl T.range (pa_c (pe_callB call_len_seq (by rfl) T.len PySem.boot_len (pa_c (pe_ix ix_tup (pv 0) pe_int (fun _ _ => rfl)) pa_nil)) pa_nil)) (pg_name (i := 3) scOtherw.nd rfl (Or.inr rfl))
        (pss_cons (ps_setLC (i := 4) ["sign"] ["k"] [3] scOtherw.nd rfl (Or.inl rfl) rfl (pi_str pe_str) rfl rfl (fun s₀ H₀ C cl fp => pg_name (i := 0) ndSK rfl (Or.inl rfl)) (fun s₀ H₀ C cl fp => pifs_nil) (fun s₀ H₀ C cl fp => pe_op op_add_str (pe_op op_add_str pe_str (pe_ix ix_str pe_str (pv 1) (fun _ _ => rfl))) (pv 0)))
        (pss_one (ps_if (pt_cmpR op_le (pe_op op_add (pe_op op_add (pe_op op_sub (pe_callB call_len_seq (by rfl) T.len PySem.boot_len (pa_c (pe_ix ix_tup (pv 0) pe_int (fun _ _ => rfl)) pa_nil)) (pv 3)) (pe_callB call_len_seq (by rfl) T.len PySem.boot_len (pa_c (pv 2) pa_nil))) pe_int) (pv 1) (nomark _))
          (pss_one (ps_set (i := 2) scOtherw.nd rfl (Or.inl rfl) (pe_op op_cat (pv 2) (pe_call GO hr1 rfl gO.m gO.k gO.b .nil pass0 (pa_c (pe_ix ix_tup (pe_ix ix_tup (pv 0) pe_int (fun _ _ => rfl)) (pv 3) (fun _ _ => rfl)) (pa_c (pv 4) pa_nil))))))
          (pss_one (ps_expr (pe_bm PySem.F.plainAttrs_list PySem.F.slot_list_append PySem.F.type_list_append mt_append (pv 2) (pa_c (pe_ix ix_tup (pe_ix ix_tup (pv 0) pe_int (fun _ _ => rfl)) (pv 3) (fun _ _ => rfl)) pa_nil))))))), ?_⟩
      have s0 : Same H (upd H l0 (.lst [])) := Same.new nl0
      refine ⟨_, rfl, ce, _, _, .ref ga, rfl, rfl, SqT.of (s0 _ _ c1), rfl, ga, _, rfl, .inr (SqT.of (s0 _ _ c3)), _, rfl, by omega, by rw [List.length_map]; omega, ?_⟩
      rw [List.length_map, Int.toNat_natCast]
      refine for_range (lo := 0) (n := as.length) (fun i σ H2 => ∃ (l : Addr) (ts : List Addr) (acc : List Gt) (v3 v4 : Option V), σ = [some (.ref ce), some (.int 24), some (.ref l), v3, v4] ∧ H2 l = some (.lst (ts.map V.ref)) ∧ H l = none ∧ GatesAt H2 ts acc ∧ owG 24 i (C.gates.drop i) acc = (owC C).gates ∧ acc.length ≤ 4 * i ∧ Same H H2)
        ⟨l0, [], [], none, none, rfl, upd_same, nl0, .nil, by rw [List.drop_zero]; rfl, by simp, s0⟩ ?_ ?_
      · rintro i σ H2 hi ⟨l, ts, acc, v3, v4, rfl, hl, hHl, hg, how, hacc, s2⟩
        have hlt : i < C.gates.length := by omega
        have hgi : C.gates[i]? = some C.gates[i] := List.getElem?_eq_getElem hlt
        have hai : as[i]? = some as[i] := List.getElem?_eq_getElem hi
        obtain ⟨g, hg', q, g1, g2⟩ := paired_get c5 hai
        rw [hgi] at hg'
        cases hg'
        have lts : ts.length = acc.length := hg.length
        have ei : (0 : Int) + (i : Int) = (i : Int) := by omega
        have dr : C.gates.drop i = C.gates[i] :: C.gates.drop (i + 1) := List.drop_eq_getElem_cons hlt
        rw [dr] at how
        unfold owG at how
        refine ⟨Str.ofString "wxyz", rfl, by decide +kernel, fun D0 nD0 => ?_⟩
        refine lcMap yields_str (frV i) nD0 (fun _ _ => True.intro) (by rw [show (signsV (Str.ofString "wxyz")).length = 4 by decide +kernel]; decide) ?_ ?_
        · intro j x H6 kk hx s6 hk
          obtain ⟨y, rfl⟩ : ∃ c : Nat, x = .str ⟨#[c]⟩ := by
            have hm := List.mem_of_getElem? hx
            unfold signsV at hm
            obtain ⟨c, _, rfl⟩ := List.mem_map.mp hm
            exact ⟨c, rfl⟩
          refine ⟨_, rfl, let20, _, 97 + i, rfl, rfl, (by decide +kernel), by rw [ei]; exact let20_at (by omega), _, _, rfl, rfl, (by show (Str.ofString "v").length + 1 ≤ sizeLine; decide +kernel), _, rfl, _, _, rfl, rfl, ?_, hk⟩
          show (Str.ofString "v" ++ (⟨#[97 + i]⟩ : Str)).length + 1 ≤ sizeLine
          rw [strLen_append]
          show (Str.ofString "v").length + 1 + 1 ≤ sizeLine
          decide +kernel
        rw [fr_list]
        have s3 := Same.new (o := HO.lst [.str (frN i 0), .str (frN i 1), .str (frN i 2), .str (frN i 3)]) nD0
        have hD3 := upd_same (H := H2) (a := D0) (o := HO.lst [.str (frN i 0), .str (frN i 1), .str (frN i 2), .str (frN i 3)])
        generalize upd H2 D0 (HO.lst [.str (frN i 0), .str (frN i 1), .str (frN i 2), .str (frN i 3)]) = H3 at s3 hD3 ⊢
        have hl3 := s3 _ _ hl
        have hg3 := hg.mono (Tups.of_same s3)
        have s23 := s2.trans s3
        have dl : (C.gates.drop (i + 1)).length = C.gates.length - (i + 1) := List.length_drop
        obtain ⟨hok, hps⟩ := G.gt.at hgi
        have hat : atI (as.map V.ref) ((0 : Int) + (i : Int)) = some (V.ref as[i]) := by rw [ei]; exact atI_nat (by rw [List.getElem?_map, hai]; rfl)
        refine ⟨_, rfl, ce, _, _, .ref ga, rfl, rfl, SqT.of (s23 _ _ c1), rfl, ga, _, rfl, .inr (SqT.of (s23 _ _ c3)), _, rfl, _, _, rfl, rfl, _, rfl, l, _, rfl, .inl (SqL.of hl3), _, _, rfl, rfl, _, _, rfl, rfl, _, rfl, _, _, rfl, rfl, _, rfl, ?_⟩
        refine ite2 (fun hc => ?_) (fun hc => ?_)
        · have hc' : (C.gates.drop (i + 1)).length + 1 + acc.length + 3 ≤ 24 := by
            have := of_decide_eq_true hc
            rw [List.length_map, List.length_map] at this
            omega
          rw [decide_eq_true hc'] at how
          refine ⟨_, rfl, _, rfl, ce, _, _, .ref ga, rfl, rfl, SqT.of (s23 _ _ c1), rfl, _, rfl, ga, _, _, .ref as[i], rfl, rfl, SqT.of (s23 _ _ c3), hat, _, rfl, as[i], D0, C.gates[i], frN i 0, frN i 1, frN i 2, frN i 3, rfl, ⟨q, s23 _ _ g1, s23 _ _ g2⟩, hD3, hok, fun l2 ts2 H4 nl2 hl2 hg2 s4 => ?_⟩
          have l4 : ts2.length ≤ 4 := by
            have := hg2.length
            have := (exG_names (g := C.gates[i]) (f1 := frN i 0) (f2 := frN i 1) (f3 := frN i 2) (f4 := frN i 3)).2.2
            omega
          refine ⟨l, l2, _, _, rfl, rfl, s4 _ _ hl3, hl2, small_size (by rw [List.length_map, List.length_map]; omega), fun l3 nl3 => ?_⟩
          refine ⟨l3, ts ++ ts2, acc ++ exG C.gates[i] (frN i 0) (frN i 1) (frN i 2) (frN i 3), _, _, rfl, by rw [upd_same, List.map_append], (s23.trans s4).free nl3, ?_, how, ?_, (s23.trans s4).trans (Same.new nl3)⟩
          · exact paired_app ((hg3.mono (Tups.of_same s4)).mono (Tups.new nl3)) (hg2.mono (Tups.new nl3))
          · rw [List.length_append]
            have := (exG_names (g := C.gates[i]) (f1 := frN i 0) (f2 := frN i 1) (f3 := frN i 2) (f4 := frN i 3)).2.2
            omega
        · have hc' : ¬ ((C.gates.drop (i + 1)).length + 1 + acc.length + 3 ≤ 24) := fun z => hc (decide_eq_true (by rw [List.length_map, List.length_map]; omega))
          rw [decide_eq_false hc'] at how
          refine ⟨_, rfl, .inl ⟨rfl, _, SqL.of hl3⟩, _, rfl, ce, _, _, .ref ga, rfl, rfl, SqT.of (s23 _ _ c1), rfl, _, rfl, ga, _, _, .ref as[i], rfl, rfl, SqT.of (s23 _ _ c3), hat, l, _, _, rfl, rfl, hl3, ?_, ?_⟩
          · rw [List.length_map]; exact Nat.lt_of_le_of_lt (show ts.length ≤ 1000 by omega) (by decide)
          have tp : Tups H3 (upd H3 l (.lst (ts.map V.ref ++ [V.ref as[i]]))) := Tups.lst hl3
          refine ⟨l, ts ++ [as[i]], acc ++ [C.gates[i]], _, _, rfl, by rw [upd_same, List.map_append]; rfl, hHl, ?_, how, ?_, fun c o e => by rw [upd_ne (ne_of_none e hHl)]; exact s23 c o e⟩
          · exact paired_snoc (hg3.mono tp) ⟨q, tp _ _ (s23 _ _ g1), tp _ _ (s23 _ _ g2)⟩
          · rw [List.length_append, List.length_singleton]; omega
      · rintro σ H2 ⟨l, ts, acc, v3, v4, rfl, hl, hHl, hg, how, hacc, s2⟩
        rw [la, List.drop_length] at how
        have how' : acc = (owC C).gates := how
        exact hu' _ _ ⟨l, ts, v3, v4, rfl, hl, how' ▸ hg, s2⟩
    rintro σ H2 ⟨l, ts, v3, v4, rfl, hl, hg, s2⟩
    refine ⟨_, pss_one (ps_ret (pe_tup (pa_c (pe_ix ix_tup (pv 0) pe_int (fun _ _ => rfl)) (pa_c (pe_callTy call_tuple_of (by rfl) T.tuple PyProof.Rows.boot_tuple (pa_c (pv 2) pa_nil)) (pa_c (pe_ix ix_tup (pv 0) pe_int (fun _ _ => rfl)) pa_nil))))), ?_⟩
    refine ⟨_, rfl, ce, _, _, .ref ia, rfl, rfl, SqT.of (s2 _ _ c1), rfl, _, rfl, l, _, rfl, .inl ⟨SqL.of hl, fun gt ngt => ?_⟩⟩
    have s3 := s2.trans (Same.new (o := HO.tup (ts.map V.ref)) ngt)
    refine ⟨_, rfl, ce, _, _, .ref oa, rfl, rfl, SqT.of (s3 _ _ c1), rfl, (by show 3 ≤ sizeLine; decide), fun c2' nc2 => ?_⟩
    have s4 := s3.trans (Same.new (o := HO.tup [V.ref ia, V.ref gt, V.ref oa]) nc2)
    exact k c2' _ (s3.free nc2) ⟨ia, gt, oa, ts, upd_same, s4 _ _ c2, Same.new nc2 _ _ upd_same, s4 _ _ c4, (hg.mono (Tups.new ngt)).mono (Tups.new nc2)⟩ s4
end
end Lw
namespace Lw
open PySem L2 PySem.PyData
theorem strOk_ls {n m : Nat} {x : Str} (h : LS n m x) : strOk x = true := by
  unfold strOk
  rw [Array.all_eq_true']
  intro c hc
  have := h.az c (by simpa using hc)
  exact decide_eq_true (by omega)
noncomputable def sD (xs : List Str) : PyData := .tuple (xs.map .str)
noncomputable def gD (g : Gt) : PyData := .tuple [.str g.1, .str g.2.1, sD g.2.2]
noncomputable def cD (C : Cel) : PyData := .tuple [sD C.ins, .tuple (C.gates.map gD), sD C.outs]
theorem dat_strs {K : PySem.W.Frag} {H : Hp} : ∀ xs : List Str, DatVs K H (xs.map V.str) (xs.map PyData.str)
  | [] => .nil
  | x :: xs => .cons (.str x) (dat_strs xs)
theorem dat_gates {K : PySem.W.Frag} {H : Hp} {as : List Addr} {gs : List Gt} (h : GatesAt H as gs) : DatVs K H (as.map V.ref) (gs.map gD) := by
  unfold GatesAt at h
  induction h with
  | nil => exact .nil
  | cons h r ih =>
    obtain ⟨q, h1, h2⟩ := h
    exact .cons (.tup (SqT.of h1) (.cons (.str _) (.cons (.str _) (.cons (.tup (SqT.of h2) (dat_strs _)) .nil)))) ih
theorem dat_cell {K : PySem.W.Frag} {H : Hp} {a : Addr} {C : Cel} (h : CellAt H a C) : DatV K H (.ref a) (cD C) := by
  obtain ⟨i, g, o, as, c1, c2, c3, c4, c5⟩ := h.ex
  exact .tup (SqT.of c1) (.cons (.tup (SqT.of c2) (dat_strs _)) (.cons (.tup (SqT.of c3) (dat_gates c5)) (.cons (.tup (SqT.of c4) (dat_strs _)) .nil)))
theorem lay_all : ∀ {xs : List PyData}, (∀ x ∈ xs, x.canLay0 = true) → PyData.canLayAll0 xs = true
  | [], _ => rfl
  | x :: xs, h => by
    show (x.canLay0 && PyData.canLayAll0 xs) = true
    rw [h x List.mem_cons_self, lay_all fun y hy => h y (List.mem_cons_of_mem _ hy)]; rfl
theorem depth_all {n : Nat} : ∀ {xs : List PyData}, (∀ x ∈ xs, x.depth ≤ n) → PyData.depthAll xs ≤ n
  | [], _ => Nat.zero_le _
  | x :: xs, h => Nat.max_le.mpr ⟨h x List.mem_cons_self, depth_all fun y hy => h y (List.mem_cons_of_mem _ hy)⟩
theorem lay_strs {xs : List Str} (h : ∀ x ∈ xs, strOk x = true) : (sD xs).canLay0 = true := by
  show PyData.canLayAll0 (xs.map PyData.str) = true
  refine lay_all fun y hy => ?_
  obtain ⟨x, hx, rfl⟩ := List.mem_map.mp hy
  exact h x hx
theorem depth_strs (xs : List Str) : (sD xs).depth ≤ 1 := by
  show PyData.depthAll (xs.map PyData.str) + 1 ≤ 1
  have : PyData.depthAll (xs.map PyData.str) ≤ 0 := depth_all fun y hy => by
    obtain ⟨x, _, rfl⟩ := List.mem_map.mp hy
    exact Nat.le_refl _
  omega
theorem cell_lays {C : Cel} (G : Good C) : (cD C).canLay0 = true := by
  have nm : ∀ x ∈ C.names, strOk x = true := fun x hx => strOk_ls (G.nm x hx).ls
  refine lay_all (xs := [sD C.ins, .tuple (C.gates.map gD), sD C.outs]) fun y hy => ?_
  simp only [List.mem_cons, List.not_mem_nil, or_false] at hy
  rcases hy with rfl | rfl | rfl
  · exact lay_strs fun x hx => nm x (List.mem_append_left _ hx)
  · refine lay_all (xs := C.gates.map gD) fun z hz => ?_
    obtain ⟨g, hg, rfl⟩ := List.mem_map.mp hz
    obtain ⟨i, hi⟩ := List.getElem?_of_mem hg
    obtain ⟨hok, hps⟩ := G.gt.at hi
    refine lay_all (xs := [.str g.1, .str g.2.1, sD g.2.2]) fun v hv => ?_
    simp only [List.mem_cons, List.not_mem_nil, or_false] at hv
    rcases hv with rfl | rfl | rfl
    · exact nm g.1 (List.mem_append_right _ (List.mem_map.mpr ⟨g, hg, rfl⟩))
    · refine strOk_ls (kept_ls ?_)
      rcases hok.ok with ⟨q, _⟩ | ⟨q, _⟩ | ⟨q, _⟩ | ⟨q, _⟩ | ⟨q, _⟩
      · unfold two3 at q
        simp only [List.mem_cons, List.not_mem_nil, or_false] at q
        rcases q with q | q | q <;> (rw [q]; decide +kernel)
      all_goals (rw [q]; decide +kernel)
    · refine lay_strs fun x hx => ?_
      rcases List.mem_append.mp (hps x hx) with q | q
      · exact nm x (List.mem_append_left _ q)
      · obtain ⟨g', hg', e⟩ := List.mem_map.mp q
        exact nm x (List.mem_append_right _ (List.mem_map.mpr ⟨g', List.mem_of_mem_take hg', e⟩))
  · exact lay_strs fun x hx => nm x (G.os x hx)
theorem cell_depth (C : Cel) : (cD C).depth ≤ 60 := by
  have : PyData.depthAll [sD C.ins, .tuple (C.gates.map gD), sD C.outs] ≤ 10 := depth_all fun y hy => by
    simp only [List.mem_cons, List.not_mem_nil, or_false] at hy
    rcases hy with rfl | rfl | rfl
    · exact Nat.le_trans (depth_strs _) (by decide)
    · have : PyData.depthAll (C.gates.map gD) ≤ 5 := depth_all fun z hz => by
        obtain ⟨g, _, rfl⟩ := List.mem_map.mp hz
        have : PyData.depthAll [.str g.1, .str g.2.1, sD g.2.2] ≤ 1 := depth_all fun v hv => by
          simp only [List.mem_cons, List.not_mem_nil, or_false] at hv
          rcases hv with rfl | rfl | rfl
          · exact Nat.zero_le _
          · exact Nat.zero_le _
          · exact depth_strs _
        show PyData.depthAll [.str g.1, .str g.2.1, sD g.2.2] + 1 ≤ 5
        omega
      show PyData.depthAll (C.gates.map gD) + 1 ≤ 10
      omega
    · exact Nat.le_trans (depth_strs _) (by decide)
  show PyData.depthAll [sD C.ins, .tuple (C.gates.map gD), sD C.outs] + 1 ≤ 60
  omega
theorem cell_eqD {K : PySem.W.Frag} {H : Hp} {a b : Addr} {C : Cel} {Q : VK} {neg : Bool} (G : Good C) (ha : CellAt H a C) (hb : CellAt H b C) (h : Q (.bl (!neg)) H) : rEqD K neg (.ref a) (.ref b) H Q := by
  refine ⟨_, _, dat_cell ha, dat_cell hb, cell_lays G, cell_lays G, Nat.le_trans (Nat.min_le_left _ _) (cell_depth C), ?_⟩
  rw [SeqAt.eqv_refl _ (cell_lays G)]
  cases neg <;> exact h
end Lw
namespace Lw
open PySem L2 PySem.PyData
theorem datv_ints {K : PySem.W.Frag} {H : Hp} : ∀ ns : List Int, DatVs K H (ns.map V.int) (ns.map PyData.int)
  | [] => .nil
  | n :: r => .cons (.int n) (datv_ints r)
theorem ints_lay (ns : List Int) : PyData.canLayAll0 (ns.map PyData.int) = true := by
  refine lay_all fun y hy => ?_
  obtain ⟨x, _, rfl⟩ := List.mem_map.mp hy
  rfl
theorem ints_depth (ns : List Int) : PyData.depthAll (ns.map PyData.int) ≤ 0 := by
  refine depth_all fun y hy => ?_
  obtain ⟨x, _, rfl⟩ := List.mem_map.mp hy
  exact Nat.le_refl _
theorem same_eqD {K : PySem.W.Frag} {H : Hp} {a b : V} {d : PyData} {Q : VK} {neg : Bool} (ha : DatV K H a d) (hb : DatV K H b d) (l : d.canLay0 = true) (dp : d.depth ≤ 60) (h : Q (.bl (!neg)) H) : rEqD K neg a b H Q := by
  refine ⟨_, _, ha, hb, l, l, Nat.le_trans (Nat.min_le_left _ _) dp, ?_⟩
  rw [SeqAt.eqv_refl _ l]
  cases neg <;> exact h
theorem tup_eqD {K : PySem.W.Frag} {H : Hp} {a b : Addr} {ns : List Int} {Q : VK} {neg : Bool} (ha : H a = some (.tup (ns.map V.int))) (hb : H b = some (.tup (ns.map V.int))) (h : Q (.bl (!neg)) H) : rEqD K neg (.ref a) (.ref b) H Q := by
  refine same_eqD (d := .tuple (ns.map PyData.int)) (.tup (SqT.of ha) (datv_ints ns)) (.tup (SqT.of hb) (datv_ints ns)) (ints_lay ns) ?_ h
  show PyData.depthAll (ns.map PyData.int) + 1 ≤ 60
  have := ints_depth ns
  omega
theorem lst_eqD {K : PySem.W.Frag} {H : Hp} {a b : Addr} {ns : List Int} {Q : VK} {neg : Bool} (ha : H a = some (.lst (ns.map V.int))) (hb : H b = some (.lst (ns.map V.int))) (h : Q (.bl (!neg)) H) : rEqD K neg (.ref a) (.ref b) H Q := by
  refine same_eqD (d := .list (ns.map PyData.int)) (.lst (SqL.of ha) (datv_ints ns)) (.lst (SqL.of hb) (datv_ints ns)) (ints_lay ns) ?_ h
  show PyData.depthAll (ns.map PyData.int) + 1 ≤ 60
  have := ints_depth ns
  omega
structure AsC (C : Cel) (kvs : List (Key × V)) (ρ : Str → Int) (C' : Cel) : Prop where
  good : Good C'
  has : Has kvs C'.ins ρ
  outs : ∀ x ∈ C.outs, x ∈ C'.outs
  ev : C.outs.map (evalC C' ρ) = C.outs.map (evalC C ρ)
theorem asC_turn {C : Cel} (G : Good C) {is os : List Str} (hi : is.Perm C.ins) (ho : os.Perm C.outs) (z : Int) : AsC C (bitsL C.ins z) (bitOf C.ins z) ⟨is, C.gates, os⟩ where
  good := G.turn hi ho
  has := fun x hx => bitsL_has C.ins z x (hi.mem_iff.mp hx)
  outs := fun x hx => ho.mem_iff.mpr hx
  ev := rfl
theorem asC_ow {C : Cel} (G : Good C) (fr : NoFr C) (l20 : C.gates.length ≤ 20) (z : Int) : AsC C (bitsL C.ins z) (bitOf C.ins z) (owC C) where
  good := owC_good G fr l20
  has := bitsL_has C.ins z
  outs := fun x hx => hx
  ev := List.map_congr_left fun x hx => owC_eval G fr (fun _ _ => bit_two _) x (G.os x hx)
theorem ren_due {C : Cel} (G : Good C) {r : Str → Str} (inj : InjOn r C.names) (z : Int) : C.outs.map (evalC C (bitOf C.ins z)) = (renC r C).outs.map (evalC (renC r C) (bitOf (renC r C).ins z)) := by
  show _ = (C.outs.map r).map (evalC (renC r C) (bitOf (C.ins.map r) z))
  rw [List.map_map]
  refine List.map_congr_left fun x hx => ?_
  have ii : InjOn r C.ins := fun x hx y hy h => inj x (List.mem_append_left _ hx) y (List.mem_append_left _ hy) h
  exact (evalC_ren G inj (ρ := bitOf C.ins z) (ρ' := bitOf (C.ins.map r) z) (fun x hx => bitOf_map z ii hx) x (G.os x hx)).symm
theorem DeckAt.same {H H' : Hp} {d c : Addr} (D : DeckAt H d c) (s : Same H H') : DeckAt H' d c := by
  obtain ⟨ns, p, e1, e2, e3⟩ := D.ex
  exact ⟨ns, p, s _ _ e1, s _ _ e2, e3⟩
theorem CellAt.same {H H' : Hp} {a : Addr} {C : Cel} (h : CellAt H a C) (s : Same H H') : CellAt H' a C := h.mono (Tups.of_same s)
theorem turns_at {i : Nat} (h : i < 2) : ∃ m : Nat, m ≤ 64 ∧ atI [V.int 64, V.int 16] ((0 : Int) + (i : Int)) = some (V.int (m : Int)) := by
  match i, h with
  | 0, _ => exact ⟨64, Nat.le_refl _, rfl⟩
  | 1, _ => exact ⟨16, by decide, rfl⟩
end Lw
namespace Lw
open PySem L2
noncomputable def spLaw (K : PySem.W.Frag) : Sp := fun vs H Q _ => ∃ (a : Addr) (ns : List Int), vs = [.ref a] ∧ SqL K H a (ns.map V.int) ∧ ns.length ≤ 63 ∧ ∀ H', Q (.bl true) H'
section
variable {P : Program} {w : World} {K : PySem.W.Frag} {mg : Str → Option Value} {base : Heap}
theorem scLaw : FnScope ["script", "deck", "turn", "named", "cell", "text", "others", "number", "bits", "due", "other"] ["script"] (defScope sLaw) := ⟨rfl, rfl, rfl, by decide +kernel, rfl, by decide +kernel, by decide +kernel⟩
set_option maxHeartbeats 8000000 in
theorem ok_law {f fD fC fCl fS fX fR fTu fOw fB fO fTL : Addr} {fd fdD fdC fdCl fdS fdX fdR fdTu fdOw fdB fdO fdTL : FuncData} (F : Fun K "law" "law" sLaw f fd) (T : Txt mg) (Ti : mg "isinstance" = none) (Ts : mg "str" = none)
    (gD : Gd K mg "_law_deck" sDeck ["script"] fD fdD) (gC : Gd K mg "_law_cell" sCell ["deck", "inputs", "gates"] fC fdC) (gCl : Gd K mg "_law_called" sCalled ["cell"] fCl fdCl) (gS : Gd K mg "cell_shown" sShown ["cell"] fS fdS) (gX : Gd K mg "_law_text" sText ["cell"] fX fdX)
    (gR : Gd K mg "read_cell" sRead ["text"] fR fdR) (gTu : Gd K mg "_law_turned" sTurned ["deck", "names"] fTu fdTu) (gOw : Gd K mg "_law_otherwise" sOtherw ["cell", "count"] fOw fdOw) (gB : Gd K mg "_law_bits" sBits ["names", "number"] fB fdB) (gO : Gd K mg "told_by" sToldBy ["cell", "bits"] fO fdO)
    (gTL : Gd K mg "_law_told" sTold ["cell", "bits", "outputs"] fTL fdTL)
    (GD : FnOk P w K mg base CX0 1 fD fdD ["script"] (spDeck K)) (GC : FnOk P w K mg base CX0 4 fC fdC ["deck", "inputs", "gates"] spCell9) (GCl : FnOk P w K mg base CX0 1 fCl fdCl ["cell"] spCalled) (GS : FnOk P w K mg base CX0 1 fS fdS ["cell"] spText) (GX : FnOk P w K mg base CX0 1 fX fdX ["cell"] spText)
    (GR : FnOk P w K mg base CX0 3 fR fdR ["text"] (spRead K)) (GTu : FnOk P w K mg base CX0 2 fTu fdTu ["deck", "names"] spTurned) (GOw : FnOk P w K mg base CX0 2 fOw fdOw ["cell", "count"] spOtherw) (GB : FnOk P w K mg base CX0 1 fB fdB ["names", "number"] spBitsN) (GO : FnOk P w K mg base CX0 2 fO fdO ["cell", "bits"] spTold)
    (GTL : FnOk P w K mg base CX0 3 fTL fdTL ["cell", "bits", "outputs"] spToldL) : FnOk P w K mg base CX0 5 f fd ["script"] (spLaw K) := by
  refine F.ok scLaw (fun vs H Q E h => ?_) (fun cdv A outer s H vs Q E hr h => ?_)
  · obtain ⟨a, ns, rfl, _⟩ := h
    rfl
  · obtain ⟨a, ns, rfl, hS, hlen, k⟩ := h
    have hr1 : Room 1 _ := hr.mono (by decide)
    have hr2 : Room 2 _ := hr.mono (by decide)
    have hr3 : Room 3 _ := hr.mono (by decide)
    have hu64 := hr.units
    have hu0 := hr.units0
    refine ex_next _ (ps_set (i := 1) scLaw.nd rfl (Or.inl rfl) (pe_call GD hr1 rfl gD.m gD.k gD.b .nil pass0 (pa_c (pv 0) pa_nil))) ?_
    refine ⟨_, rfl, a, ns, rfl, hS, hlen, fun d c H1 D1 _ _ _ => ?_⟩
    refine ex_cut (fun σ H2 => ∃ v2 v3 v4 v5 v6 v7 v8 v9 v10, σ = [some (.ref a), some (.ref d), v2, v3, v4, v5, v6, v7, v8, v9, v10]) (fun u hu' => ?_) ?_
    · refine ⟨_, ps_for PassesOwn.never rfl (pi_range1 rfl T.range (pa_c pe_int pa_nil)) (pg_name (i := 2) scLaw.nd rfl (Or.inl rfl))
        (pss_cons (ps_set (i := 3) scLaw.nd rfl (Or.inl rfl) (pe_call GC hr rfl gC.m gC.k gC.b .nil pass0 (pa_c (pv 1) (pa_c pe_int (pa_c pe_int pa_nil)))))
        (pss_cons (ps_set (i := 4) scLaw.nd rfl (Or.inl rfl) (pe_call GCl hr1 rfl gCl.m gCl.k gCl.b .nil pass0 (pa_c (pv 3) pa_nil)))
        (pss_cons (ps_set (i := 5) scLaw.nd rfl (Or.inl rfl) (pe_call GS hr1 rfl gS.m gS.k gS.b .nil pass0 (pa_c (pv 4) pa_nil)))
        (pss_cons (ps_if (PW.pt (pw_or (pt_not (pt_val (pe_callB call_isi (by rfl) Ti PyProof.Rows.boot_isinstance (pa_c (pv 5) (pa_c (pe_bltn (v := .ty "str") (by rfl) Ts PyProof.Rows.boot_str rfl) pa_nil)))))
          (pw_or (pt_cmpR op_ne (pv 5) (pe_call GX hr1 rfl gX.m gX.k gX.b .nil pass0 (pa_c (pv 4) pa_nil)) (nomark _))
          (pw_or1 (pt_cmpR (op_neD hu64) (pe_call GR hr3 rfl gR.m gR.k gR.b .nil pass0 (pa_c (pv 5) pa_nil)) (pv 4) (nomark _)))))) (pss_one (ps_ret pe_bl)) pss_nil)
        (pss_cons (ps_set (i := 6) scLaw.nd rfl (Or.inl rfl) (pe_lst (pa_c (pe_tup (pa_c (pe_call GTu hr2 rfl gTu.m gTu.k gTu.b .nil pass0 (pa_c (pv 1) (pa_c (pe_ix ix_tup (pv 4) pe_int (fun _ _ => rfl)) pa_nil))) (pa_c (pe_ix ix_tup (pv 4) pe_int (fun _ _ => rfl))
            (pa_c (pe_call GTu hr2 rfl gTu.m gTu.k gTu.b .nil pass0 (pa_c (pv 1) (pa_c (pe_ix ix_tup (pv 4) pe_int (fun _ _ => rfl)) pa_nil))) pa_nil)))) (pa_c (pe_call GOw hr2 rfl gOw.m gOw.k gOw.b .nil pass0 (pa_c (pv 4) (pa_c pe_int pa_nil))) pa_nil))))
        (pss_cons (ps_for PassesOwn.never rfl (pi_range1 rfl T.range (pa_c (pe_ix ix_list (pe_lst (pa_c pe_int (pa_c pe_int pa_nil))) (pv 2) (fun _ _ => rfl)) pa_nil)) (pg_name (i := 7) scLaw.nd rfl (Or.inl rfl))
          (pss_cons (ps_set (i := 8) scLaw.nd rfl (Or.inl rfl) (pe_call GB hr1 rfl gB.m gB.k gB.b .nil pass0 (pa_c (pe_ix ix_tup (pv 4) pe_int (fun _ _ => rfl)) (pa_c (pv 7) pa_nil))))
          (pss_cons (ps_set (i := 9) scLaw.nd rfl (Or.inl rfl) (pe_call GO hr2 rfl gO.m gO.k gO.b .nil pass0 (pa_c (pv 4) (pa_c (pv 8) pa_nil))))
          (pss_cons (ps_for PassesOwn.never rfl (pi_list (pv 6)) (pg_name (i := 10) scLaw.nd rfl (Or.inl rfl))
            (pss_one (ps_if (pt_cmpR (op_neD hu64) (pe_call GTL hr3 rfl gTL.m gTL.k gTL.b .nil pass0 (pa_c (pv 10) (pa_c (pv 8) (pa_c (pe_ix ix_tup (pv 4) pe_int (fun _ _ => rfl)) pa_nil)))) (pe_callTy call_list_of (by rfl) T.list PyProof.Rows.boot_list (pa_c (pv 9) pa_nil)) (nomark _)) (pss_one (ps_ret pe_bl)) pss_nil)))
          (pss_one (ps_if (PW.pt (pw_or (pt_cmpR (op_neD hu64) (pe_call GO hr2 rfl gO.m gO.k gO.b .nil pass0 (pa_c (pv 3) (pa_c (pe_call GB hr1 rfl gB.m gB.k gB.b .nil pass0 (pa_c (pe_ix ix_tup (pv 3) pe_int (fun _ _ => rfl)) (pa_c (pv 7) pa_nil))) pa_nil))) (pv 9) (nomark _))
            (pw_or1 (pt_cmpR (op_neDict hu0) (pv 8) (pe_call GB hr1 rfl gB.m gB.k gB.b .nil pass0 (pa_c (pe_ix ix_tup (pv 4) pe_int (fun _ _ => rfl)) (pa_c (pv 7) pa_nil))) (nomark _))))) (pss_one (ps_ret pe_bl)) pss_nil))))))
        (pss_one (ps_if (PW.pt (pw_or (pt_cmpR (op_neD hu64) (pe_call GR hr3 rfl gR.m gR.k gR.b .nil pass0 (pa_c (pe_call GS hr1 rfl gS.m gS.k gS.b .nil pass0 (pa_c (pe_ix ix_list (pv 6) pe_int (fun _ _ => rfl)) pa_nil)) pa_nil)) (pe_ix ix_list (pv 6) pe_int (fun _ _ => rfl)) (nomark _))
          (pw_or1 (pt_cmpR (op_neD hu64) (pe_call GR hr3 rfl gR.m gR.k gR.b .nil pass0 (pa_c (pe_call GS hr1 rfl gS.m gS.k gS.b .nil pass0 (pa_c (pv 3) pa_nil)) pa_nil)) (pv 3) (nomark _))))) (pss_one (ps_ret pe_bl)) pss_nil)))))))), ?_⟩
      refine ⟨2, rfl, by decide, by decide, ?_⟩
      refine for_range (lo := 0) (n := 2) (fun i σ H2 => ∃ v2 v3 v4 v5 v6 v7 v8 v9 v10, σ = [some (.ref a), some (.ref d), v2, v3, v4, v5, v6, v7, v8, v9, v10] ∧ DeckAt H2 d c) ⟨none, none, none, none, none, none, none, none, none, rfl, D1⟩ ?_ ?_
      · rintro i σ H2 hi ⟨v2, v3, v4, v5, v6, v7, v8, v9, v10, rfl, D2⟩
        clear hS
        obtain ⟨m, hm, hat⟩ := turns_at hi
        refine ⟨_, rfl, d, c, 6, 9, rfl, D2, by decide, by decide, fun ce0 C0 H3 nce0 hC0 G0 lg9 D3 k3 => ?_⟩
        have l15 : C0.names.length ≤ 26 := by
          have := G0.li
          unfold Cel.names
          rw [List.length_append, List.length_map]
          omega
        refine ⟨_, rfl, ce0, C0, rfl, hC0, G0, l15, fun ce H4 nce hC s4 => ?_⟩
        have inj := rn_inj C0.names
        have G : Good (renC (rn C0.names) C0) := G0.ren inj (rn_good l15)
        have fr := ren_nofr C0 C0.names
        have due0 := ren_due G0 inj
        have l20 : (renC (rn C0.names) C0).gates.length ≤ 20 := by
          show (C0.gates.map _).length ≤ 20
          rw [List.length_map]; omega
        generalize renC (rn C0.names) C0 = C at hC G fr due0 l20
        have D4 := D3.same s4
        replace hC0 := hC0.same s4
        refine ⟨_, rfl, ce, C, rfl, hC, G, fun H5 s5 => ?_⟩
        have D5 := D4.same s5
        replace hC0 := hC0.same s5
        replace hC := hC.same s5
        refine ⟨_, rfl, _, .ty "str", .type "str", .type "str", true, rfl, rfl, .str _, kit_same K "str", _, rfl, iteF ?_⟩
        refine ⟨_, rfl, _, rfl, ce, C, rfl, hC, G, fun H6 s6 => ⟨rfl, _, rfl, ?_⟩⟩
        rw [decide_eq_true rfl]
        refine iteF ?_
        refine ⟨_, rfl, C, rfl, G, fun cr H7 ncr hCr s7 => ⟨_, rfl, cell_eqD G hCr ((hC.same s6).same s7) ⟨_, rfl, iteF ?_⟩⟩⟩
        have D7 := (D5.same s6).same s7
        replace hC0 := (hC0.same s6).same s7
        replace hC := (hC.same s6).same s7
        have li := G.li
        have lo := G.lo
        have ind : C.ins.Nodup := G.nd.sublist (List.sublist_append_left _ _)
        obtain ⟨ia, ga, oa, as, c1, c2, c3, c4, c5⟩ := hC.ex
        refine ⟨_, rfl, _, rfl, ce, _, _, .ref ia, rfl, rfl, SqT.of c1, rfl, d, c, ia, C.ins, rfl, D7, c2, by omega, fun t1 ys1 H8 nt1 ht1 p1 D8 k8 => ?_⟩
        have tp8 := Tups.of_keep D7 k8
        refine ⟨_, rfl, ce, _, _, .ref ga, rfl, rfl, SqT.of (tp8 _ _ c1), rfl, _, rfl, _, rfl, ce, _, _, .ref oa, rfl, rfl, SqT.of (tp8 _ _ c1), rfl, d, c, oa, C.outs, rfl, D8, tp8 _ _ c4, by omega, fun t2 ys2 H9 nt2 ht2 p2 D9 k9 => ?_⟩
        have tp9 := Tups.of_keep D8 k9
        refine ⟨(by show 3 ≤ sizeLine; decide), fun tt ntt => ?_⟩
        have s10 := Same.new (o := HO.tup [V.ref t1, V.ref ga, V.ref t2]) ntt
        have htt := upd_same (H := H9) (a := tt) (o := HO.tup [V.ref t1, V.ref ga, V.ref t2])
        generalize upd H9 tt (HO.tup [V.ref t1, V.ref ga, V.ref t2]) = H10 at s10 htt ⊢
        have tp10 := (tp8.trans tp9).trans (Tups.of_same s10)
        have hT : CellAt H10 tt ⟨ys1, C.gates, ys2⟩ := ⟨t1, ga, t2, as, htt, s10 _ _ (tp9 _ _ ht1), tp10 _ _ c3, s10 _ _ ht2, c5.mono tp10⟩
        refine ⟨_, rfl, ce, C, rfl, hC.mono tp10, G, l20, fun co H11 nco hCo s11 => ⟨(by show 2 ≤ sizeLine; decide), fun ol nol => ?_⟩⟩
        have s12 := Same.new (o := HO.lst [V.ref tt, V.ref co]) nol
        have hol := upd_same (H := H11) (a := ol) (o := HO.lst [V.ref tt, V.ref co])
        generalize upd H11 ol (HO.lst [V.ref tt, V.ref co]) = H12 at s12 hol ⊢
        have s1012 := s11.trans s12
        replace hT := hT.same s1012
        replace hCo := hCo.same s12
        have tp12 := tp10.trans (Tups.of_same s1012)
        replace hC0 := hC0.mono tp12
        replace hC := hC.mono tp12
        have D12 := (D9.same s10).same s1012
        have a1 := tp12 _ _ c1
        have a2 := tp12 _ _ c2
        have a4 := tp12 _ _ c4
        clear c1 c2 c3 c4 c5
        refine ⟨(by show 2 ≤ sizeLine; decide), fun nl nnl => ⟨_, rfl, nl, _, _, V.int m, rfl, rfl, SqL.of upd_same, hat, m, rfl, by omega, by omega, ?_⟩⟩
        rw [Int.toNat_natCast]
        have s13 := Same.new (o := HO.lst [V.int 64, V.int 16]) nnl
        generalize upd H12 nl (HO.lst [V.int 64, V.int 16]) = H13 at s13 ⊢
        refine for_range (lo := 0) (n := m) (fun j σ H14 => ∃ v7 v8 v9 v10, σ = [some (.ref a), some (.ref d), some (.int (0 + (i : Int))), some (.ref ce0), some (.ref ce), some (.str (textOf C)), some (.ref ol), v7, v8, v9, v10] ∧ Same H12 H14) ⟨v7, v8, v9, v10, rfl, s13⟩ ?_ ?_
        · rintro j σ H14 hj ⟨v7, v8, v9, v10, rfl, s14⟩
          generalize hz : (0 : Int) + (j : Int) = z
          refine ⟨_, rfl, ce, _, _, .ref ia, rfl, rfl, SqT.of (s14 _ _ a1), rfl, _, rfl, ia, C.ins, z, rfl, s14 _ _ a2, ind, by omega, fun b H15 nb hb s15 => ?_⟩
          replace s15 := s14.trans s15
          refine ⟨_, rfl, _, rfl, ce, b, C, _, bitOf C.ins z, rfl, hC.same s15, G, hb, bitsL_has _ _, fun dt H16 ndt hdt s16 => ?_⟩
          replace hb := s16 _ _ hb
          replace s16 := s15.trans s16
          refine ⟨_, rfl, ol, rfl, ⟨_, SqL.of (s16 _ _ hol)⟩, ?_⟩
          refine for_list (K := K) (a := ol) (xs := [V.ref tt, V.ref co]) (fun q σ H17 => ∃ v10, σ = [some (.ref a), some (.ref d), some (.int (0 + (i : Int))), some (.ref ce0), some (.ref ce), some (.str (textOf C)), some (.ref ol), some (.int z), some (.ref b), some (.ref dt), v10] ∧ Same H16 H17) ⟨v10, rfl, Same.refl _⟩ (fun q σ H17 _ ⟨_, _, s⟩ => SqL.of (s _ _ (s16 _ _ hol))) ?_ ?_
          · rintro q x σ H17 hx ⟨w10, rfl, s17⟩
            obtain ⟨oc, Co, rfl, hoc, A1⟩ : ∃ (oc : Addr) (Co : Cel), x = .ref oc ∧ CellAt H12 oc Co ∧ AsC C (bitsL C.ins z) (bitOf C.ins z) Co := by
              have hm := List.mem_of_getElem? hx
              simp only [List.mem_cons, List.not_mem_nil, or_false] at hm
              rcases hm with e | e
              · exact ⟨tt, _, e, hT, asC_turn G p1 p2 z⟩
              · exact ⟨co, _, e, hCo, asC_ow G fr l20 z⟩
            have s1217 := s16.trans s17
            refine ⟨_, rfl, _, rfl, _, rfl, ce, _, _, .ref oa, rfl, rfl, SqT.of (s1217 _ _ a1), rfl, oc, b, oa, Co, _, bitOf C.ins z, C.outs, rfl, hoc.same s1217, A1.good, s17 _ _ hb, A1.has, s1217 _ _ a4, A1.outs, by omega, fun l H18 nl hl s18 => ?_⟩
            rw [A1.ev] at hl
            refine ⟨_, rfl, dt, _, rfl, .inr (SqT.of (s18 _ _ (s17 _ _ hdt))), fun l2 nl2 => lst_eqD (Same.new nl2 _ _ hl) upd_same ⟨_, rfl, iteF ?_⟩⟩
            exact ⟨_, rfl, (s17.trans s18).trans (Same.new nl2)⟩
          · rintro σ H17 ⟨w10, rfl, s17⟩
            have s1217 := s16.trans s17
            obtain ⟨ia0, ga0, oa0, as0, b1, b2, b3, b4, b5⟩ := hC0.ex
            have li0 := G0.li
            have ind0 : C0.ins.Nodup := G0.nd.sublist (List.sublist_append_left _ _)
            refine ⟨_, rfl, _, rfl, ce0, _, _, .ref ia0, rfl, rfl, SqT.of (s1217 _ _ b1), rfl, _, rfl, ia0, C0.ins, z, rfl, s1217 _ _ b2, ind0, by omega, fun b0 H18 nb0 hb0 s18 => ?_⟩
            have s1218 := s1217.trans s18
            refine ⟨ce0, b0, C0, _, bitOf C0.ins z, rfl, hC0.same s1218, G0, hb0, bitsL_has _ _, fun t0 H19 nt0 ht0 s19 => ?_⟩
            rw [due0 z] at ht0
            have s1719 := s18.trans s19
            have s1219 := s1217.trans s1719
            refine ⟨_, rfl, tup_eqD ht0 (s1719 _ _ (s17 _ _ hdt)) ⟨_, rfl, iteF ?_⟩⟩
            refine ⟨_, rfl, _, rfl, ce, _, _, .ref ia, rfl, rfl, SqT.of (s1219 _ _ a1), rfl, _, rfl, ia, C.ins, z, rfl, s1219 _ _ a2, ind, by omega, fun b2' H20 nb2 hb2 s20 => ?_⟩
            refine ⟨b, b2', _, rfl, rfl, s20 _ _ (s1719 _ _ (s17 _ _ hb)), hb2, (bitsL_D C.ins z).nodup ind, (bitsL_D C.ins z).flat, _, rfl, iteF ?_⟩
            exact ⟨_, _, _, _, rfl, s1219.trans s20⟩
        · rintro σ H14 ⟨v7, v8, v9, v10, rfl, s14⟩
          have Gw := owC_good G fr l20
          refine ⟨_, rfl, ol, _, _, .ref co, rfl, rfl, SqL.of (s14 _ _ hol), rfl, co, owC C, rfl, hCo.same s14, Gw, fun H15 s15 => ⟨owC C, rfl, Gw, fun cw H16 ncw hcw s16 => ?_⟩⟩
          have s1216 := (s14.trans s15).trans s16
          refine ⟨_, rfl, ol, _, _, .ref co, rfl, rfl, SqL.of (s1216 _ _ hol), rfl, cell_eqD Gw hcw (hCo.same s1216) ⟨_, rfl, iteF ?_⟩⟩
          refine ⟨_, rfl, ce0, C0, rfl, hC0.same s1216, G0, fun H17 s17 => ⟨C0, rfl, G0, fun cn H18 ncn hcn s18 => ?_⟩⟩
          have s1218 := (s1216.trans s17).trans s18
          refine ⟨_, rfl, cell_eqD G0 hcn (hC0.same s1218) ⟨_, rfl, iteF ?_⟩⟩
          exact ⟨_, _, _, _, _, _, _, _, _, rfl, D12.same s1218⟩
      · rintro σ H2 ⟨v2, v3, v4, v5, v6, v7, v8, v9, v10, rfl, _⟩
        exact hu' _ _ ⟨v2, v3, v4, v5, v6, v7, v8, v9, v10, rfl⟩
    rintro σ H2 ⟨v2, v3, v4, v5, v6, v7, v8, v9, v10, rfl⟩
    exact ⟨_, pss_one (ps_ret pe_bl), k H2⟩
end
end Lw
namespace Lw
open PySem L2 PySem.Spec PyProof.Rows
theorem sqt_frag {K : PySem.W.Frag} {t : Addr} {d : Option Addr} {its : Array Value} {n : Nat} {sl : Array (Option Value)} {xs : List V} (h : K.lookup t = some ⟨.type "tuple", d, .seq its n, sl⟩) (hz : its.size ≤ sizeLine) (hv : Vals xs its.toList) : ∀ H, SqT K H t xs :=
  fun H => .inr ⟨_, its, n, h, rfl, rfl, hz, hv⟩
section
variable {K : PySem.W.Frag} {w : World} {mg : Str → Option Value} {tL t8 tS1 tS2 tk1 tk2 tk3 tk4 tk5 tk6 tk7 ti1 ti2 ti3 ti4 ti5 ti6 ti7 ti8 ti9 ti10 : Tok} {aS aN r1 r2 r3 r4 r5 r6 r7 : Addr} {dS d1 d2 d3 d4 d5 d6 d7 : Option Addr} {nS ep n1 n2 n3 n4 n5 n6 n7 : Nat} {s1 s2 s3 s4 s5 s6 s7 sS : Array (Option Value)} {h1 h2 h3 h4 h5 h6 h7 : Int} {zL zS1 zS2 z1 z2 z3 z4 z5 z6 z7 : Str} {i8 j1 j2 j3 j4 j5 j6 j7 j8 j9 j10 : Int}
set_option maxHeartbeats 1000000 in
theorem tops_mk (eL : mg "LETTERS" = some (.str zL tL)) (e8 : mg "LONGEST_NAME" = some (.int i8 t8)) (eS : mg "SIDE_WORDS" = some (.ref aS)) (eN : mg "NAME_COUNTS" = some (.ref aN)) (eA : mg "all" = none)
    (lS : K.lookup aS = some ⟨.type "tuple", dS, .seq #[.str zS1 tS1, .str zS2 tS2] nS, sS⟩)
    (lN : K.lookup aN = some ⟨.type "dict", none, .dict #[⟨h1, .str z1 tk1, .ref r1⟩, ⟨h2, .str z2 tk2, .ref r2⟩, ⟨h3, .str z3 tk3, .ref r3⟩, ⟨h4, .str z4 tk4, .ref r4⟩, ⟨h5, .str z5 tk5, .ref r5⟩, ⟨h6, .str z6 tk6, .ref r6⟩, ⟨h7, .str z7 tk7, .ref r7⟩] ep, #[]⟩)
    (zN : (aN == sysModules) = false)
    (q1 : h1 = hashStr w "and") (q2 : h2 = hashStr w "or") (q3 : h3 = hashStr w "odd") (q4 : h4 = hashStr w "most") (q5 : h5 = hashStr w "not") (q6 : h6 = hashStr w "one") (q7 : h7 = hashStr w "nil")
    (l1 : K.lookup r1 = some ⟨.type "tuple", d1, .seq #[.int j1 ti1, .int j2 ti2] n1, s1⟩)
    (l2 : K.lookup r2 = some ⟨.type "tuple", d2, .seq #[.int j3 ti3, .int j4 ti4] n2, s2⟩)
    (l3 : K.lookup r3 = some ⟨.type "tuple", d3, .seq #[.int j5 ti5, .int j6 ti6] n3, s3⟩)
    (l4 : K.lookup r4 = some ⟨.type "tuple", d4, .seq #[.int j7 ti7] n4, s4⟩)
    (l5 : K.lookup r5 = some ⟨.type "tuple", d5, .seq #[.int j8 ti8] n5, s5⟩)
    (l6 : K.lookup r6 = some ⟨.type "tuple", d6, .seq #[.int j9 ti9] n6, s6⟩)
    (l7 : K.lookup r7 = some ⟨.type "tuple", d7, .seq #[.int j10 ti10] n7, s7⟩)
    (vL : zL = lettersS) (v8 : i8 = 8) (vS1 : zS1 = "in") (vS2 : zS2 = "out") (v11 : z1 = "and") (v12 : z2 = "or") (v13 : z3 = "odd") (v14 : z4 = "most") (v15 : z5 = "not") (v16 : z6 = "one") (v17 : z7 = "nil") (vj1 : j1 = 2) (vj2 : j2 = 3) (vj3 : j3 = 2) (vj4 : j4 = 3) (vj5 : j5 = 2) (vj6 : j6 = 3) (vj7 : j7 = 3) (vj8 : j8 = 1) (vj9 : j9 = 0) (vj10 : j10 = 0) : Tops K w mg := by
  subst vL v8 vS1 vS2 v11 v12 v13 v14 v15 v16 v17 vj1 vj2 vj3 vj4 vj5 vj6 vj7 vj8 vj9 vj10
  refine ⟨⟨_, eL⟩, ⟨_, e8⟩, ⟨aS, eS, sqt_frag lS (by show 2 ≤ sizeLine; decide) (.cons ⟨_, rfl⟩ (.cons ⟨_, rfl⟩ .nil))⟩, ⟨aN, _, eN, kdct_of (D := [("and", .ref r1, .ref r1), ("or", .ref r2, .ref r2), ("odd", .ref r3, .ref r3), ("most", .ref r4, .ref r4), ("not", .ref r5, .ref r5), ("one", .ref r6, .ref r6), ("nil", .ref r7, .ref r7)]) ?_ ?_ ?_ ?_, fun z => ?_⟩, eA⟩
  · intro p hp
    simp only [List.mem_cons, List.not_mem_nil, or_false] at hp
    rcases hp with rfl | rfl | rfl | rfl | rfl | rfl | rfl <;> rfl
  · unfold KTD.tabLook
    simp only [lN, zN]
    simp [KTD.rowsLook]
  · show (["and", "or", "odd", "most", "not", "one", "nil"] : List Str).Nodup
    decide +kernel
  · unfold KTD.hashesOf
    simp only [lN, q1, q2, q3, q4, q5, q6, q7]
    rfl
  · simp only [List.map_cons, List.map_nil]
    have ne : ∀ {x : Str}, ¬ z = x → ¬ (Sum.inr x : Key) = Sum.inr z := fun h e => h (Sum.inr.inj e).symm
    by_cases c1 : z = "and"
    · subst c1
      exact .inr ⟨r1, [2, 3], valV_pos rfl, rfl, sqt_frag l1 (by show 2 ≤ sizeLine; decide) (.cons ⟨_, rfl⟩ (.cons ⟨_, rfl⟩ .nil))⟩
    rw [valV_neg (ne c1)]
    by_cases c2 : z = "or"
    · subst c2
      exact .inr ⟨r2, [2, 3], valV_pos rfl, rfl, sqt_frag l2 (by show 2 ≤ sizeLine; decide) (.cons ⟨_, rfl⟩ (.cons ⟨_, rfl⟩ .nil))⟩
    rw [valV_neg (ne c2)]
    by_cases c3 : z = "odd"
    · subst c3
      exact .inr ⟨r3, [2, 3], valV_pos rfl, rfl, sqt_frag l3 (by show 2 ≤ sizeLine; decide) (.cons ⟨_, rfl⟩ (.cons ⟨_, rfl⟩ .nil))⟩
    rw [valV_neg (ne c3)]
    by_cases c4 : z = "most"
    · subst c4
      exact .inr ⟨r4, [3], valV_pos rfl, rfl, sqt_frag l4 (by show 1 ≤ sizeLine; decide) (.cons ⟨_, rfl⟩ .nil)⟩
    rw [valV_neg (ne c4)]
    by_cases c5 : z = "not"
    · subst c5
      exact .inr ⟨r5, [1], valV_pos rfl, rfl, sqt_frag l5 (by show 1 ≤ sizeLine; decide) (.cons ⟨_, rfl⟩ .nil)⟩
    rw [valV_neg (ne c5)]
    by_cases c6 : z = "one"
    · subst c6
      exact .inr ⟨r6, [0], valV_pos rfl, rfl, sqt_frag l6 (by show 1 ≤ sizeLine; decide) (.cons ⟨_, rfl⟩ .nil)⟩
    rw [valV_neg (ne c6)]
    by_cases c7 : z = "nil"
    · subst c7
      exact .inr ⟨r7, [0], valV_pos rfl, rfl, sqt_frag l7 (by show 1 ≤ sizeLine; decide) (.cons ⟨_, rfl⟩ .nil)⟩
    rw [valV_neg (ne c7)]
    refine .inl ⟨rfl, ?_⟩
    unfold countsOf
    rw [if_neg (by rintro (e | e | e) <;> contradiction), if_neg c4, if_neg c5, if_neg (by rintro (e | e) <;> contradiction)]
end
end Lw
namespace Lw
open PySem L2
set_option maxHeartbeats 4000000 in
theorem all_mk {l : PySem.W.OpenLaw} {w : World} {K : PySem.W.Frag} {h : Heap} {mg : Str → Option Value} {fa f1 f2 f3 f4 f5 f6 f7 f8 f9 f10 f11 f12 f13 f14 f15 f16 f17 f18 f19 f20 f21 f22 f23 f24 f25 f26 f27 : Addr} (X : K.In h) (G : h.Ns mainGlobals mg) (hfa : mg "law" = some (.ref fa))
    {od1 an1 od2 an2 od3 an3 od4 an4 od5 an5 od6 an6 od7 an7 od8 an8 od9 an9 od10 an10 od11 an11 od12 an12 od13 an13 od14 an14 od15 an15 od16 an16 od17 an17 od18 an18 od19 an19 od20 an20 od21 an21 od22 an22 od23 an23 od24 an24 od25 an25 od26 an26 od27 an27 : Option Addr} {sl1 sl2 sl3 sl4 sl5 sl6 sl7 sl8 sl9 sl10 sl11 sl12 sl13 sl14 sl15 sl16 sl17 sl18 sl19 sl20 sl21 sl22 sl23 sl24 sl25 sl26 sl27 : Array (Option Value)} {oc1 kV1 dc1 pm1 cd1 ct1 oc2 kV2 dc2 pm2 cd2 ct2 oc3 kV3 dc3 pm3 cd3 ct3 oc4 kV4 dc4 pm4 cd4 ct4 oc5 kV5 dc5 pm5 cd5 ct5 oc6 kV6 dc6 pm6 cd6 ct6 oc7 kV7 dc7 pm7 cd7 ct7 oc8 kV8 dc8 pm8 cd8 ct8 oc9 kV9 dc9 pm9 cd9 ct9 oc10 kV10 dc10 pm10 cd10 ct10 oc11 kV11 dc11 pm11 cd11 ct11 oc12 kV12 dc12 pm12 cd12 ct12 oc13 kV13 dc13 pm13 cd13 ct13 oc14 kV14 dc14 pm14 cd14 ct14 oc15 kV15 dc15 pm15 cd15 ct15 oc16 kV16 dc16 pm16 cd16 ct16 oc17 kV17 dc17 pm17 cd17 ct17 oc18 kV18 dc18 pm18 cd18 ct18 oc19 kV19 dc19 pm19 cd19 ct19 oc20 kV20 dc20 pm20 cd20 ct20 oc21 kV21 dc21 pm21 cd21 ct21 oc22 kV22 dc22 pm22 cd22 ct22 oc23 kV23 dc23 pm23 cd23 ct23 oc24 kV24 dc24 pm24 cd24 ct24 oc25 kV25 dc25 pm25 cd25 ct25 oc26 kV26 dc26 pm26 cd26 ct26 oc27 kV27 dc27 pm27 cd27 ct27 : Value}
    {tL t8 tS1 tS2 tk1 tk2 tk3 tk4 tk5 tk6 tk7 ti1 ti2 ti3 ti4 ti5 ti6 ti7 ti8 ti9 ti10 : Tok} {aS aN r1 r2 r3 r4 r5 r6 r7 : Addr} {dS d1 d2 d3 d4 d5 d6 d7 : Option Addr} {nS ep n1 n2 n3 n4 n5 n6 n7 : Nat} {s1 s2 s3 s4 s5 s6 s7 sS : Array (Option Value)} {h1 h2 h3 h4 h5 h6 h7 : Int} {zL zS1 zS2 yk1 yk2 yk3 yk4 yk5 yk6 yk7 : Str} {i8 j1 j2 j3 j4 j5 j6 j7 j8 j9 j10 : Int}
    (a1 : PySem.W.nsIn K mainGlobals "is_name" = some (some (.ref f1))) (l1 : K.lookup f1 = some ⟨oc1, od1, .func (PySem.W.fnOf "is_name" "is_name" (defArgs sIsName) (defBody sIsName) (defScope sIsName) .none kV1 dc1 pm1 an1 cd1 ct1), sl1⟩) (c1 : PySem.W.codeIn K cd1 "is_name" = true) (k1 : PySem.W.keepIn K (.ref f1) = true)
    (a2 : PySem.W.nsIn K mainGlobals "word_takes" = some (some (.ref f2))) (l2 : K.lookup f2 = some ⟨oc2, od2, .func (PySem.W.fnOf "word_takes" "word_takes" (defArgs sTakes) (defBody sTakes) (defScope sTakes) .none kV2 dc2 pm2 an2 cd2 ct2), sl2⟩) (c2 : PySem.W.codeIn K cd2 "word_takes" = true) (k2 : PySem.W.keepIn K (.ref f2) = true)
    (a3 : PySem.W.nsIn K mainGlobals "read_cell" = some (some (.ref f3))) (l3 : K.lookup f3 = some ⟨oc3, od3, .func (PySem.W.fnOf "read_cell" "read_cell" (defArgs sRead) (defBody sRead) (defScope sRead) .none kV3 dc3 pm3 an3 cd3 ct3), sl3⟩) (c3 : PySem.W.codeIn K cd3 "read_cell" = true) (k3 : PySem.W.keepIn K (.ref f3) = true)
    (a4 : PySem.W.nsIn K mainGlobals "are_inputs" = some (some (.ref f4))) (l4 : K.lookup f4 = some ⟨oc4, od4, .func (PySem.W.fnOf "are_inputs" "are_inputs" (defArgs sAreIn) (defBody sAreIn) (defScope sAreIn) .none kV4 dc4 pm4 an4 cd4 ct4), sl4⟩) (c4 : PySem.W.codeIn K cd4 "are_inputs" = true) (k4 : PySem.W.keepIn K (.ref f4) = true)
    (a5 : PySem.W.nsIn K mainGlobals "is_gate" = some (some (.ref f5))) (l5 : K.lookup f5 = some ⟨oc5, od5, .func (PySem.W.fnOf "is_gate" "is_gate" (defArgs sIsGate) (defBody sIsGate) (defScope sIsGate) .none kV5 dc5 pm5 an5 cd5 ct5), sl5⟩) (c5 : PySem.W.codeIn K cd5 "is_gate" = true) (k5 : PySem.W.keepIn K (.ref f5) = true)
    (a6 : PySem.W.nsIn K mainGlobals "check_end" = some (some (.ref f6))) (l6 : K.lookup f6 = some ⟨oc6, od6, .func (PySem.W.fnOf "check_end" "check_end" (defArgs sCheckEnd) (defBody sCheckEnd) (defScope sCheckEnd) .none kV6 dc6 pm6 an6 cd6 ct6), sl6⟩) (c6 : PySem.W.codeIn K cd6 "check_end" = true) (k6 : PySem.W.keepIn K (.ref f6) = true)
    (a7 : PySem.W.nsIn K mainGlobals "are_known" = some (some (.ref f7))) (l7 : K.lookup f7 = some ⟨oc7, od7, .func (PySem.W.fnOf "are_known" "are_known" (defArgs sKnown) (defBody sKnown) (defScope sKnown) .none kV7 dc7 pm7 an7 cd7 ct7), sl7⟩) (c7 : PySem.W.codeIn K cd7 "are_known" = true) (k7 : PySem.W.keepIn K (.ref f7) = true)
    (a8 : PySem.W.nsIn K mainGlobals "is_each_once" = some (some (.ref f8))) (l8 : K.lookup f8 = some ⟨oc8, od8, .func (PySem.W.fnOf "is_each_once" "is_each_once" (defArgs sOnce) (defBody sOnce) (defScope sOnce) .none kV8 dc8 pm8 an8 cd8 ct8), sl8⟩) (c8 : PySem.W.codeIn K cd8 "is_each_once" = true) (k8 : PySem.W.keepIn K (.ref f8) = true)
    (a9 : PySem.W.nsIn K mainGlobals "_law_deck" = some (some (.ref f9))) (l9 : K.lookup f9 = some ⟨oc9, od9, .func (PySem.W.fnOf "_law_deck" "_law_deck" (defArgs sDeck) (defBody sDeck) (defScope sDeck) .none kV9 dc9 pm9 an9 cd9 ct9), sl9⟩) (c9 : PySem.W.codeIn K cd9 "_law_deck" = true) (k9 : PySem.W.keepIn K (.ref f9) = true)
    (a10 : PySem.W.nsIn K mainGlobals "_law_take" = some (some (.ref f10))) (l10 : K.lookup f10 = some ⟨oc10, od10, .func (PySem.W.fnOf "_law_take" "_law_take" (defArgs sTake) (defBody sTake) (defScope sTake) .none kV10 dc10 pm10 an10 cd10 ct10), sl10⟩) (c10 : PySem.W.codeIn K cd10 "_law_take" = true) (k10 : PySem.W.keepIn K (.ref f10) = true)
    (a11 : PySem.W.nsIn K mainGlobals "_law_kept" = some (some (.ref f11))) (l11 : K.lookup f11 = some ⟨oc11, od11, .func (PySem.W.fnOf "_law_kept" "_law_kept" (defArgs sKept) (defBody sKept) (defScope sKept) .none kV11 dc11 pm11 an11 cd11 ct11), sl11⟩) (c11 : PySem.W.codeIn K cd11 "_law_kept" = true) (k11 : PySem.W.keepIn K (.ref f11) = true)
    (a12 : PySem.W.nsIn K mainGlobals "_law_made_names" = some (some (.ref f12))) (l12 : K.lookup f12 = some ⟨oc12, od12, .func (PySem.W.fnOf "_law_made_names" "_law_made_names" (defArgs sMade) (defBody sMade) (defScope sMade) .none kV12 dc12 pm12 an12 cd12 ct12), sl12⟩) (c12 : PySem.W.codeIn K cd12 "_law_made_names" = true) (k12 : PySem.W.keepIn K (.ref f12) = true)
    (a13 : PySem.W.nsIn K mainGlobals "_law_names" = some (some (.ref f13))) (l13 : K.lookup f13 = some ⟨oc13, od13, .func (PySem.W.fnOf "_law_names" "_law_names" (defArgs sNames) (defBody sNames) (defScope sNames) .none kV13 dc13 pm13 an13 cd13 ct13), sl13⟩) (c13 : PySem.W.codeIn K cd13 "_law_names" = true) (k13 : PySem.W.keepIn K (.ref f13) = true)
    (a14 : PySem.W.nsIn K mainGlobals "_law_gate" = some (some (.ref f14))) (l14 : K.lookup f14 = some ⟨oc14, od14, .func (PySem.W.fnOf "_law_gate" "_law_gate" (defArgs sGate) (defBody sGate) (defScope sGate) .none kV14 dc14 pm14 an14 cd14 ct14), sl14⟩) (c14 : PySem.W.codeIn K cd14 "_law_gate" = true) (k14 : PySem.W.keepIn K (.ref f14) = true)
    (a15 : PySem.W.nsIn K mainGlobals "_law_cell" = some (some (.ref f15))) (l15 : K.lookup f15 = some ⟨oc15, od15, .func (PySem.W.fnOf "_law_cell" "_law_cell" (defArgs sCell) (defBody sCell) (defScope sCell) .none kV15 dc15 pm15 an15 cd15 ct15), sl15⟩) (c15 : PySem.W.codeIn K cd15 "_law_cell" = true) (k15 : PySem.W.keepIn K (.ref f15) = true)
    (a16 : PySem.W.nsIn K mainGlobals "_law_text" = some (some (.ref f16))) (l16 : K.lookup f16 = some ⟨oc16, od16, .func (PySem.W.fnOf "_law_text" "_law_text" (defArgs sText) (defBody sText) (defScope sText) .none kV16 dc16 pm16 an16 cd16 ct16), sl16⟩) (c16 : PySem.W.codeIn K cd16 "_law_text" = true) (k16 : PySem.W.keepIn K (.ref f16) = true)
    (a17 : PySem.W.nsIn K mainGlobals "check_there" = some (some (.ref f17))) (l17 : K.lookup f17 = some ⟨oc17, od17, .func (PySem.W.fnOf "check_there" "check_there" (defArgs sThere) (defBody sThere) (defScope sThere) .none kV17 dc17 pm17 an17 cd17 ct17), sl17⟩) (c17 : PySem.W.codeIn K cd17 "check_there" = true) (k17 : PySem.W.keepIn K (.ref f17) = true)
    (a18 : PySem.W.nsIn K mainGlobals "told_by" = some (some (.ref f18))) (l18 : K.lookup f18 = some ⟨oc18, od18, .func (PySem.W.fnOf "told_by" "told_by" (defArgs sToldBy) (defBody sToldBy) (defScope sToldBy) .none kV18 dc18 pm18 an18 cd18 ct18), sl18⟩) (c18 : PySem.W.codeIn K cd18 "told_by" = true) (k18 : PySem.W.keepIn K (.ref f18) = true)
    (a19 : PySem.W.nsIn K mainGlobals "gate_bit" = some (some (.ref f19))) (l19 : K.lookup f19 = some ⟨oc19, od19, .func (PySem.W.fnOf "gate_bit" "gate_bit" (defArgs sGateBit) (defBody sGateBit) (defScope sGateBit) .none kV19 dc19 pm19 an19 cd19 ct19), sl19⟩) (c19 : PySem.W.codeIn K cd19 "gate_bit" = true) (k19 : PySem.W.keepIn K (.ref f19) = true)
    (a20 : PySem.W.nsIn K mainGlobals "_law_bits" = some (some (.ref f20))) (l20 : K.lookup f20 = some ⟨oc20, od20, .func (PySem.W.fnOf "_law_bits" "_law_bits" (defArgs sBits) (defBody sBits) (defScope sBits) .none kV20 dc20 pm20 an20 cd20 ct20), sl20⟩) (c20 : PySem.W.codeIn K cd20 "_law_bits" = true) (k20 : PySem.W.keepIn K (.ref f20) = true)
    (a21 : PySem.W.nsIn K mainGlobals "cell_shown" = some (some (.ref f21))) (l21 : K.lookup f21 = some ⟨oc21, od21, .func (PySem.W.fnOf "cell_shown" "cell_shown" (defArgs sShown) (defBody sShown) (defScope sShown) .none kV21 dc21 pm21 an21 cd21 ct21), sl21⟩) (c21 : PySem.W.codeIn K cd21 "cell_shown" = true) (k21 : PySem.W.keepIn K (.ref f21) = true)
    (a22 : PySem.W.nsIn K mainGlobals "_law_called" = some (some (.ref f22))) (l22 : K.lookup f22 = some ⟨oc22, od22, .func (PySem.W.fnOf "_law_called" "_law_called" (defArgs sCalled) (defBody sCalled) (defScope sCalled) .none kV22 dc22 pm22 an22 cd22 ct22), sl22⟩) (c22 : PySem.W.codeIn K cd22 "_law_called" = true) (k22 : PySem.W.keepIn K (.ref f22) = true)
    (a23 : PySem.W.nsIn K mainGlobals "_law_by_others" = some (some (.ref f23))) (l23 : K.lookup f23 = some ⟨oc23, od23, .func (PySem.W.fnOf "_law_by_others" "_law_by_others" (defArgs sOthers) (defBody sOthers) (defScope sOthers) .none kV23 dc23 pm23 an23 cd23 ct23), sl23⟩) (c23 : PySem.W.codeIn K cd23 "_law_by_others" = true) (k23 : PySem.W.keepIn K (.ref f23) = true)
    (a24 : PySem.W.nsIn K mainGlobals "_law_otherwise" = some (some (.ref f24))) (l24 : K.lookup f24 = some ⟨oc24, od24, .func (PySem.W.fnOf "_law_otherwise" "_law_otherwise" (defArgs sOtherw) (defBody sOtherw) (defScope sOtherw) .none kV24 dc24 pm24 an24 cd24 ct24), sl24⟩) (c24 : PySem.W.codeIn K cd24 "_law_otherwise" = true) (k24 : PySem.W.keepIn K (.ref f24) = true)
    (a25 : PySem.W.nsIn K mainGlobals "_law_turned" = some (some (.ref f25))) (l25 : K.lookup f25 = some ⟨oc25, od25, .func (PySem.W.fnOf "_law_turned" "_law_turned" (defArgs sTurned) (defBody sTurned) (defScope sTurned) .none kV25 dc25 pm25 an25 cd25 ct25), sl25⟩) (c25 : PySem.W.codeIn K cd25 "_law_turned" = true) (k25 : PySem.W.keepIn K (.ref f25) = true)
    (a26 : PySem.W.nsIn K mainGlobals "_law_told" = some (some (.ref f26))) (l26 : K.lookup f26 = some ⟨oc26, od26, .func (PySem.W.fnOf "_law_told" "_law_told" (defArgs sTold) (defBody sTold) (defScope sTold) .none kV26 dc26 pm26 an26 cd26 ct26), sl26⟩) (c26 : PySem.W.codeIn K cd26 "_law_told" = true) (k26 : PySem.W.keepIn K (.ref f26) = true)
    (a27 : PySem.W.nsIn K mainGlobals "law" = some (some (.ref f27))) (l27 : K.lookup f27 = some ⟨oc27, od27, .func (PySem.W.fnOf "law" "law" (defArgs sLaw) (defBody sLaw) (defScope sLaw) .none kV27 dc27 pm27 an27 cd27 ct27), sl27⟩) (c27 : PySem.W.codeIn K cd27 "law" = true) (k27 : PySem.W.keepIn K (.ref f27) = true)
    (z1 : PySem.W.nsIn K mainGlobals "len" = some none)
    (z2 : PySem.W.nsIn K mainGlobals "range" = some none)
    (z3 : PySem.W.nsIn K mainGlobals "sum" = some none)
    (z4 : PySem.W.nsIn K mainGlobals "min" = some none)
    (z5 : PySem.W.nsIn K mainGlobals "max" = some none)
    (z6 : PySem.W.nsIn K mainGlobals "tuple" = some none)
    (z7 : PySem.W.nsIn K mainGlobals "list" = some none)
    (z8 : PySem.W.nsIn K mainGlobals "set" = some none)
    (z9 : PySem.W.nsIn K mainGlobals "dict" = some none)
    (z10 : PySem.W.nsIn K mainGlobals "int" = some none)
    (z11 : PySem.W.nsIn K mainGlobals "isinstance" = some none)
    (z12 : PySem.W.nsIn K mainGlobals "str" = some none)
    (z13 : PySem.W.nsIn K mainGlobals "all" = some none)
    (z14 : PySem.W.nsIn K mainGlobals "zip" = some none)
    (xL : PySem.W.nsIn K mainGlobals "LETTERS" = some (some (.str zL tL)))
    (x8 : PySem.W.nsIn K mainGlobals "LONGEST_NAME" = some (some (.int i8 t8)))
    (xS : PySem.W.nsIn K mainGlobals "SIDE_WORDS" = some (some (.ref aS)))
    (xN : PySem.W.nsIn K mainGlobals "NAME_COUNTS" = some (some (.ref aN)))
    (lS : K.lookup aS = some ⟨.type "tuple", dS, .seq #[.str zS1 tS1, .str zS2 tS2] nS, sS⟩)
    (lN : K.lookup aN = some ⟨.type "dict", none, .dict #[⟨h1, .str yk1 tk1, .ref r1⟩, ⟨h2, .str yk2 tk2, .ref r2⟩, ⟨h3, .str yk3 tk3, .ref r3⟩, ⟨h4, .str yk4 tk4, .ref r4⟩, ⟨h5, .str yk5 tk5, .ref r5⟩, ⟨h6, .str yk6 tk6, .ref r6⟩, ⟨h7, .str yk7 tk7, .ref r7⟩] ep, #[]⟩)
    (zN : (aN == sysModules) = false)
    (l_1 : K.lookup r1 = some ⟨.type "tuple", d1, .seq #[.int j1 ti1, .int j2 ti2] n1, s1⟩)
    (l_2 : K.lookup r2 = some ⟨.type "tuple", d2, .seq #[.int j3 ti3, .int j4 ti4] n2, s2⟩)
    (l_3 : K.lookup r3 = some ⟨.type "tuple", d3, .seq #[.int j5 ti5, .int j6 ti6] n3, s3⟩)
    (l_4 : K.lookup r4 = some ⟨.type "tuple", d4, .seq #[.int j7 ti7] n4, s4⟩)
    (l_5 : K.lookup r5 = some ⟨.type "tuple", d5, .seq #[.int j8 ti8] n5, s5⟩)
    (l_6 : K.lookup r6 = some ⟨.type "tuple", d6, .seq #[.int j9 ti9] n6, s6⟩)
    (l_7 : K.lookup r7 = some ⟨.type "tuple", d7, .seq #[.int j10 ti10] n7, s7⟩)
    (vz1 : yk1 = "and")
    (vz2 : yk2 = "or")
    (vz3 : yk3 = "odd")
    (vz4 : yk4 = "most")
    (vz5 : yk5 = "not")
    (vz6 : yk6 = "one")
    (vz7 : yk7 = "nil")
    (vL : zL = Lw.lettersS)
    (v8 : i8 = 8)
    (vS1 : zS1 = "in")
    (vS2 : zS2 = "out")
    (vj1 : j1 = 2)
    (vj2 : j2 = 3)
    (vj3 : j3 = 2)
    (vj4 : j4 = 3)
    (vj5 : j5 = 2)
    (vj6 : j6 = 3)
    (vj7 : j7 = 3)
    (vj8 : j8 = 1)
    (vj9 : j9 = 0)
    (vj10 : j10 = 0)
    (q1 : h1 = hashStr w "and")
    (q2 : h2 = hashStr w "or")
    (q3 : h3 = hashStr w "odd")
    (q4 : h4 = hashStr w "most")
    (q5 : h5 = hashStr w "not")
    (q6 : h6 = hashStr w "one")
    (q7 : h7 = hashStr w "nil")
    : ∃ fd : FuncData, (∀ (s : Shared) (v : Value), BindsTo s fd ⟨[v], []⟩ [("script", v)]) ∧ ∀ base : Heap, K.In base → base.Ns mainGlobals mg → FnOk l.prog w K mg base CX0 5 fa fd ["script"] (spLaw K) := by
  have e := hfa.symm.trans (PySem.W.mg_of X G a27)
  cases e
  have n_len := PySem.W.mg_none_of X G z1
  have n_range := PySem.W.mg_none_of X G z2
  have n_sum := PySem.W.mg_none_of X G z3
  have n_min := PySem.W.mg_none_of X G z4
  have n_max := PySem.W.mg_none_of X G z5
  have n_tuple := PySem.W.mg_none_of X G z6
  have n_list := PySem.W.mg_none_of X G z7
  have n_set := PySem.W.mg_none_of X G z8
  have n_dict := PySem.W.mg_none_of X G z9
  have n_int := PySem.W.mg_none_of X G z10
  have n_isinstance := PySem.W.mg_none_of X G z11
  have n_str := PySem.W.mg_none_of X G z12
  have n_all := PySem.W.mg_none_of X G z13
  have n_zip := PySem.W.mg_none_of X G z14
  have F1 := fun_mk (st := sIsName) l1 c1 k1
  have b1 := F1.binds (ps := ["text"]) fun _ _ _ _ _ _ us hl => match us, hl with | [_], _ => rfl
  have gNm : Gd K mg "is_name" sIsName ["text"] f1 _ := ⟨F1, PySem.W.mg_of X G a1, k1, b1⟩
  have F2 := fun_mk (st := sTakes) l2 c2 k2
  have b2 := F2.binds (ps := ["word", "count"]) fun _ _ _ _ _ _ us hl => match us, hl with | [_, _], _ => rfl
  have gTk : Gd K mg "word_takes" sTakes ["word", "count"] f2 _ := ⟨F2, PySem.W.mg_of X G a2, k2, b2⟩
  have F3 := fun_mk (st := sRead) l3 c3 k3
  have b3 := F3.binds (ps := ["text"]) fun _ _ _ _ _ _ us hl => match us, hl with | [_], _ => rfl
  have gRd : Gd K mg "read_cell" sRead ["text"] f3 _ := ⟨F3, PySem.W.mg_of X G a3, k3, b3⟩
  have F4 := fun_mk (st := sAreIn) l4 c4 k4
  have b4 := F4.binds (ps := ["words"]) fun _ _ _ _ _ _ us hl => match us, hl with | [_], _ => rfl
  have gIn : Gd K mg "are_inputs" sAreIn ["words"] f4 _ := ⟨F4, PySem.W.mg_of X G a4, k4, b4⟩
  have F5 := fun_mk (st := sIsGate) l5 c5 k5
  have b5 := F5.binds (ps := ["words", "known"]) fun _ _ _ _ _ _ us hl => match us, hl with | [_, _], _ => rfl
  have gIg : Gd K mg "is_gate" sIsGate ["words", "known"] f5 _ := ⟨F5, PySem.W.mg_of X G a5, k5, b5⟩
  have F6 := fun_mk (st := sCheckEnd) l6 c6 k6
  have b6 := F6.binds (ps := ["rows", "at", "known"]) fun _ _ _ _ _ _ us hl => match us, hl with | [_, _, _], _ => rfl
  have gCe : Gd K mg "check_end" sCheckEnd ["rows", "at", "known"] f6 _ := ⟨F6, PySem.W.mg_of X G a6, k6, b6⟩
  have F7 := fun_mk (st := sKnown) l7 c7 k7
  have b7 := F7.binds (ps := ["names", "known"]) fun _ _ _ _ _ _ us hl => match us, hl with | [_, _], _ => rfl
  have gKn : Gd K mg "are_known" sKnown ["names", "known"] f7 _ := ⟨F7, PySem.W.mg_of X G a7, k7, b7⟩
  have F8 := fun_mk (st := sOnce) l8 c8 k8
  have b8 := F8.binds (ps := ["names"]) fun _ _ _ _ _ _ us hl => match us, hl with | [_], _ => rfl
  have gOn : Gd K mg "is_each_once" sOnce ["names"] f8 _ := ⟨F8, PySem.W.mg_of X G a8, k8, b8⟩
  have F9 := fun_mk (st := sDeck) l9 c9 k9
  have b9 := F9.binds (ps := ["script"]) fun _ _ _ _ _ _ us hl => match us, hl with | [_], _ => rfl
  have gD : Gd K mg "_law_deck" sDeck ["script"] f9 _ := ⟨F9, PySem.W.mg_of X G a9, k9, b9⟩
  have F10 := fun_mk (st := sTake) l10 c10 k10
  have b10 := F10.binds (ps := ["deck", "many"]) fun _ _ _ _ _ _ us hl => match us, hl with | [_, _], _ => rfl
  have gT : Gd K mg "_law_take" sTake ["deck", "many"] f10 _ := ⟨F10, PySem.W.mg_of X G a10, k10, b10⟩
  have F11 := fun_mk (st := sKept) l11 c11 k11
  have b11 := F11.binds (ps := []) fun _ _ _ _ _ _ us hl => match us, hl with | [], _ => rfl
  have gK : Gd K mg "_law_kept" sKept [] f11 _ := ⟨F11, PySem.W.mg_of X G a11, k11, b11⟩
  have F12 := fun_mk (st := sMade) l12 c12 k12
  have b12 := F12.binds (ps := ["deck", "many"]) fun _ _ _ _ _ _ us hl => match us, hl with | [_, _], _ => rfl
  have gM : Gd K mg "_law_made_names" sMade ["deck", "many"] f12 _ := ⟨F12, PySem.W.mg_of X G a12, k12, b12⟩
  have F13 := fun_mk (st := sNames) l13 c13 k13
  have b13 := F13.binds (ps := ["deck", "many"]) fun _ _ _ _ _ _ us hl => match us, hl with | [_, _], _ => rfl
  have gN : Gd K mg "_law_names" sNames ["deck", "many"] f13 _ := ⟨F13, PySem.W.mg_of X G a13, k13, b13⟩
  have F14 := fun_mk (st := sGate) l14 c14 k14
  have b14 := F14.binds (ps := ["deck", "known"]) fun _ _ _ _ _ _ us hl => match us, hl with | [_, _], _ => rfl
  have gG : Gd K mg "_law_gate" sGate ["deck", "known"] f14 _ := ⟨F14, PySem.W.mg_of X G a14, k14, b14⟩
  have F15 := fun_mk (st := sCell) l15 c15 k15
  have b15 := F15.binds (ps := ["deck", "inputs", "gates"]) fun _ _ _ _ _ _ us hl => match us, hl with | [_, _, _], _ => rfl
  have gC : Gd K mg "_law_cell" sCell ["deck", "inputs", "gates"] f15 _ := ⟨F15, PySem.W.mg_of X G a15, k15, b15⟩
  have F16 := fun_mk (st := sText) l16 c16 k16
  have b16 := F16.binds (ps := ["cell"]) fun _ _ _ _ _ _ us hl => match us, hl with | [_], _ => rfl
  have gX : Gd K mg "_law_text" sText ["cell"] f16 _ := ⟨F16, PySem.W.mg_of X G a16, k16, b16⟩
  have F17 := fun_mk (st := sThere) l17 c17 k17
  have b17 := F17.binds (ps := ["names", "given"]) fun _ _ _ _ _ _ us hl => match us, hl with | [_, _], _ => rfl
  have gTh : Gd K mg "check_there" sThere ["names", "given"] f17 _ := ⟨F17, PySem.W.mg_of X G a17, k17, b17⟩
  have F18 := fun_mk (st := sToldBy) l18 c18 k18
  have b18 := F18.binds (ps := ["cell", "bits"]) fun _ _ _ _ _ _ us hl => match us, hl with | [_, _], _ => rfl
  have gO : Gd K mg "told_by" sToldBy ["cell", "bits"] f18 _ := ⟨F18, PySem.W.mg_of X G a18, k18, b18⟩
  have F19 := fun_mk (st := sGateBit) l19 c19 k19
  have b19 := F19.binds (ps := ["word", "bits"]) fun _ _ _ _ _ _ us hl => match us, hl with | [_, _], _ => rfl
  have gGB : Gd K mg "gate_bit" sGateBit ["word", "bits"] f19 _ := ⟨F19, PySem.W.mg_of X G a19, k19, b19⟩
  have F20 := fun_mk (st := sBits) l20 c20 k20
  have b20 := F20.binds (ps := ["names", "number"]) fun _ _ _ _ _ _ us hl => match us, hl with | [_, _], _ => rfl
  have gB : Gd K mg "_law_bits" sBits ["names", "number"] f20 _ := ⟨F20, PySem.W.mg_of X G a20, k20, b20⟩
  have F21 := fun_mk (st := sShown) l21 c21 k21
  have b21 := F21.binds (ps := ["cell"]) fun _ _ _ _ _ _ us hl => match us, hl with | [_], _ => rfl
  have gSh : Gd K mg "cell_shown" sShown ["cell"] f21 _ := ⟨F21, PySem.W.mg_of X G a21, k21, b21⟩
  have F22 := fun_mk (st := sCalled) l22 c22 k22
  have b22 := F22.binds (ps := ["cell"]) fun _ _ _ _ _ _ us hl => match us, hl with | [_], _ => rfl
  have gCl : Gd K mg "_law_called" sCalled ["cell"] f22 _ := ⟨F22, PySem.W.mg_of X G a22, k22, b22⟩
  have F23 := fun_mk (st := sOthers) l23 c23 k23
  have b23 := F23.binds (ps := ["gate", "fresh"]) fun _ _ _ _ _ _ us hl => match us, hl with | [_, _], _ => rfl
  have gBo : Gd K mg "_law_by_others" sOthers ["gate", "fresh"] f23 _ := ⟨F23, PySem.W.mg_of X G a23, k23, b23⟩
  have F24 := fun_mk (st := sOtherw) l24 c24 k24
  have b24 := F24.binds (ps := ["cell", "count"]) fun _ _ _ _ _ _ us hl => match us, hl with | [_, _], _ => rfl
  have gOw : Gd K mg "_law_otherwise" sOtherw ["cell", "count"] f24 _ := ⟨F24, PySem.W.mg_of X G a24, k24, b24⟩
  have F25 := fun_mk (st := sTurned) l25 c25 k25
  have b25 := F25.binds (ps := ["deck", "names"]) fun _ _ _ _ _ _ us hl => match us, hl with | [_, _], _ => rfl
  have gTu : Gd K mg "_law_turned" sTurned ["deck", "names"] f25 _ := ⟨F25, PySem.W.mg_of X G a25, k25, b25⟩
  have F26 := fun_mk (st := sTold) l26 c26 k26
  have b26 := F26.binds (ps := ["cell", "bits", "outputs"]) fun _ _ _ _ _ _ us hl => match us, hl with | [_, _, _], _ => rfl
  have gTL : Gd K mg "_law_told" sTold ["cell", "bits", "outputs"] f26 _ := ⟨F26, PySem.W.mg_of X G a26, k26, b26⟩
  have F27 := fun_mk (st := sLaw) l27 c27 k27
  refine ⟨PySem.W.fnOf "law" "law" (defArgs sLaw) (defBody sLaw) (defScope sLaw) .none kV27 dc27 pm27 an27 cd27 ct27, fun s v => .of_eq rfl, fun base _ _ => ?_⟩
  have T : Txt mg := ⟨n_len, n_range, n_sum, n_min, n_max, n_tuple, n_list, n_set, n_dict, n_int⟩
  have O : Tops K w mg := tops_mk (PySem.W.mg_of X G xL) (PySem.W.mg_of X G x8) (PySem.W.mg_of X G xS) (PySem.W.mg_of X G xN) n_all lS lN zN q1 q2 q3 q4 q5 q6 q7 l_1 l_2 l_3 l_4 l_5 l_6 l_7 vL v8 vS1 vS2 vz1 vz2 vz3 vz4 vz5 vz6 vz7 vj1 vj2 vj3 vj4 vj5 vj6 vj7 vj8 vj9 vj10
  have GT := ok_take (P := l.prog) (w := w) (base := base) gT.F T
  have GN := ok_names (P := l.prog) (w := w) (base := base) gN.F T gT gK gM
  have GG := ok_gate (P := l.prog) (w := w) (base := base) gG.F T gT
  have GI := ok_areIn (P := l.prog) (base := base) gIn.F T O gNm gOn
  have GIg := ok_isGate (P := l.prog) (base := base) gIg.F T O gNm gTk gKn
  have GCe := ok_check (P := l.prog) (base := base) gCe.F T O gOn gKn
  have GR := ok_read (P := l.prog) (base := base) gRd.F T gIn gIg gCe GI GIg GCe
  have GX := ok_text (P := l.prog) (w := w) (base := base) gX.F n_zip
  have GC := ok_cell9 (P := l.prog) (w := w) (base := base) gC.F T gT gN gG GT GN GG
  have GO := ok_told (P := l.prog) (w := w) (base := base) gO.F T gGB gTh
  have GB := ok_bitsN (P := l.prog) (w := w) (base := base) (mg := mg) gB.F
  have GTu := ok_turned (P := l.prog) (w := w) (base := base) gTu.F T gT GT
  have GTL := ok_toldL (P := l.prog) (w := w) (base := base) gTL.F gO GO
  have GBo := ok_others (P := l.prog) (w := w) (base := base) gBo.F T
  have GOw := ok_otherw (P := l.prog) (w := w) (base := base) gOw.F T gBo GBo
  have GSh := ok_shown (P := l.prog) (w := w) (base := base) (mg := mg) gSh.F
  have GCl := ok_called (P := l.prog) (w := w) (base := base) gCl.F T
  exact ok_law F27 T n_isinstance n_str gD gC gCl gSh gX gRd gTu gOw gB gO gTL (ok_deck gD.F T) GC GCl GSh GX GR GTu GOw GB GO GTL
theorem walk {l : PySem.W.OpenLaw} {q : Program} {loose : List Str} {XP : (Str → Option Value) → Heap → Prop} {YP : World → Heap → Prop} {d : DefRec} {K : Params → PySem.W.Frag} (hn : l.most = some 63) (hdf : d.params.defaults = [])
    (hY : ∀ (w : World) (h : Heap), YP w h → (K w.params).In h)
    (F : ∀ (w : World) (mg : Str → Option Value) (fa : Addr) (h : Heap), (K w.params).In h → h.Ns mainGlobals mg → mg d.name = some (.ref fa) →
      ∃ fd : FuncData, (∀ (s : Shared) (u : Value), BindsTo s fd ⟨[u], []⟩ [("script", u)]) ∧ ∀ base : Heap, (K w.params).In base → base.Ns mainGlobals mg → FnOk l.prog w (K w.params) mg base CX0 5 fa fd ["script"] (spLaw (K w.params))) :
    PySem.W.WalkO q loose XP YP l.row.toRowW d [] (fun f vs => PySem.call f vs) :=
  L2.walk_of (n := 63) (k := 5) (x := "script") (CX := fun _ => CX0) (sp := fun w => spLaw (K w.params)) hn (by decide) hdf ⟨rfl, by decide, by decide⟩ hY F (fun _ _ a ns hl _ hS => ⟨a, ns, rfl, hS, hl, fun _ => rfl⟩) fun _ _ _ _ _ z => z
end Lw
/-- stands where a second copy of the heap, which nothing reads, would be kept -/
noncomputable def PySem.W.Fast.tw9583874621783698831 : Unit := ()
open PySem PySem.W PyProof.Rows
set_option maxRecDepth 100000 in
set_option maxHeartbeats 0 in
theorem PySem.Challenge.cw_laidcells_k05_whole_cells_written_otherw_holds : PySem.Challenge.rw_laidcells_k05_whole_cells_written_otherw.Holds := by
  w_on; o_law; k_head; (case hw => w_witness2)
  k_fill
  refine Lw.walk (l := PySem.Challenge.rw_laidcells_k05_whole_cells_written_otherw) rfl rfl (fun w h Y => PySem.W.kIn_of Y) ?F
  case F =>
    intro w mg fa h KX G hmg
    refine' Lw.all_mk KX G hmg ?a1 ?l1 ?c1 ?k1 ?a2 ?l2 ?c2 ?k2 ?a3 ?l3 ?c3 ?k3 ?a4 ?l4 ?c4 ?k4 ?a5 ?l5 ?c5 ?k5 ?a6 ?l6 ?c6 ?k6 ?a7 ?l7 ?c7 ?k7 ?a8 ?l8 ?c8 ?k8 ?a9 ?l9 ?c9 ?k9 ?a10 ?l10 ?c10 ?k10 ?a11 ?l11 ?c11 ?k11 ?a12 ?l12 ?c12 ?k12 ?a13 ?l13 ?c13 ?k13 ?a14 ?l14 ?c14 ?k14 ?a15 ?l15 ?c15 ?k15 ?a16 ?l16 ?c16 ?k16 ?a17 ?l17 ?c17 ?k17 ?a18 ?l18 ?c18 ?k18 ?a19 ?l19 ?c19 ?k19 ?a20 ?l20 ?c20 ?k20 ?a21 ?l21 ?c21 ?k21 ?a22 ?l22 ?c22 ?k22 ?a23 ?l23 ?c23 ?k23 ?a24 ?l24 ?c24 ?k24 ?a25 ?l25 ?c25 ?k25 ?a26 ?l26 ?c26 ?k26 ?a27 ?l27 ?c27 ?k27 ?z1 ?z2 ?z3 ?z4 ?z5 ?z6 ?z7 ?z8 ?z9 ?z10 ?z11 ?z12 ?z13 ?z14 ?xL ?x8 ?xS ?xN ?lS ?lN ?zN ?l_1 ?l_2 ?l_3 ?l_4 ?l_5 ?l_6 ?l_7 ?vz1 ?vz2 ?vz3 ?vz4 ?vz5 ?vz6 ?vz7 ?vL ?v8 ?vS1 ?vS2 ?vj1 ?vj2 ?vj3 ?vj4 ?vj5 ?vj6 ?vj7 ?vj8 ?vj9 ?vj10 ?q1 ?q2 ?q3 ?q4 ?q5 ?q6 ?q7
    (case a1 => k_is)
    (case l1 => k_is)
    (case c1 => k_is)
    (case k1 => k_is)
    (case a2 => k_is)
    (case l2 => k_is)
    (case c2 => k_is)
    (case k2 => k_is)
    (case a3 => k_is)
    (case l3 => k_is)
    (case c3 => k_is)
    (case k3 => k_is)
    (case a4 => k_is)
    (case l4 => k_is)
    (case c4 => k_is)
    (case k4 => k_is)
    (case a5 => k_is)
    (case l5 => k_is)
    (case c5 => k_is)
    (case k5 => k_is)
    (case a6 => k_is)
    (case l6 => k_is)
    (case c6 => k_is)
    (case k6 => k_is)
    (case a7 => k_is)
    (case l7 => k_is)
    (case c7 => k_is)
    (case k7 => k_is)
    (case a8 => k_is)
    (case l8 => k_is)
    (case c8 => k_is)
    (case k8 => k_is)
    (case a9 => k_is)
    (case l9 => k_is)
    (case c9 => k_is)
    (case k9 => k_is)
    (case a10 => k_is)
    (case l10 => k_is)
    (case c10 => k_is)
    (case k10 => k_is)
    (case a11 => k_is)
    (case l11 => k_is)
    (case c11 => k_is)
    (case k11 => k_is)
    (case a12 => k_is)
    (case l12 => k_is)
    (case c12 => k_is)
    (case k12 => k_is)
    (case a13 => k_is)
    (case l13 => k_is)
    (case c13 => k_is)
    (case k13 => k_is)
    (case a14 => k_is)
    (case l14 => k_is)
    (case c14 => k_is)
    (case k14 => k_is)
    (case a15 => k_is)
    (case l15 => k_is)
    (case c15 => k_is)
    (case k15 => k_is)
    (case a16 => k_is)
    (case l16 => k_is)
    (case c16 => k_is)
    (case k16 => k_is)
    (case a17 => k_is)
    (case l17 => k_is)
    (case c17 => k_is)
    (case k17 => k_is)
    (case a18 => k_is)
    (case l18 => k_is)
    (case c18 => k_is)
    (case k18 => k_is)
    (case a19 => k_is)
    (case l19 => k_is)
    (case c19 => k_is)
    (case k19 => k_is)
    (case a20 => k_is)
    (case l20 => k_is)
    (case c20 => k_is)
    (case k20 => k_is)
    (case a21 => k_is)
    (case l21 => k_is)
    (case c21 => k_is)
    (case k21 => k_is)
    (case a22 => k_is)
    (case l22 => k_is)
    (case c22 => k_is)
    (case k22 => k_is)
    (case a23 => k_is)
    (case l23 => k_is)
    (case c23 => k_is)
    (case k23 => k_is)
    (case a24 => k_is)
    (case l24 => k_is)
    (case c24 => k_is)
    (case k24 => k_is)
    (case a25 => k_is)
    (case l25 => k_is)
    (case c25 => k_is)
    (case k25 => k_is)
    (case a26 => k_is)
    (case l26 => k_is)
    (case c26 => k_is)
    (case k26 => k_is)
    (case a27 => k_is)
    (case l27 => k_is)
    (case c27 => k_is)
    (case k27 => k_is)
    (case z1 => k_is)
    (case z2 => k_is)
    (case z3 => k_is)
    (case z4 => k_is)
    (case z5 => k_is)
    (case z6 => k_is)
    (case z7 => k_is)
    (case z8 => k_is)
    (case z9 => k_is)
    (case z10 => k_is)
    (case z11 => k_is)
    (case z12 => k_is)
    (case z13 => k_is)
    (case z14 => k_is)
    (case xL => k_is)
    (case x8 => k_is)
    (case xS => k_is)
    (case xN => k_is)
    (case lS => k_is)
    (case lN => k_is)
    (case zN => decide)
    (case l_1 => k_is)
    (case l_2 => k_is)
    (case l_3 => k_is)
    (case l_4 => k_is)
    (case l_5 => k_is)
    (case l_6 => k_is)
    (case l_7 => k_is)
    (case vz1 => decide +kernel)
    (case vz2 => decide +kernel)
    (case vz3 => decide +kernel)
    (case vz4 => decide +kernel)
    (case vz5 => decide +kernel)
    (case vz6 => decide +kernel)
    (case vz7 => decide +kernel)
    (case vL => decide +kernel)
    (case v8 => rfl)
    (case vS1 => decide +kernel)
    (case vS2 => decide +kernel)
    (case vj1 => rfl)
    (case vj2 => rfl)
    (case vj3 => rfl)
    (case vj4 => rfl)
    (case vj5 => rfl)
    (case vj6 => rfl)
    (case vj7 => rfl)
    (case vj8 => rfl)
    (case vj9 => rfl)
    (case vj10 => rfl)
    (case q1 => rfl)
    (case q2 => rfl)
    (case q3 => rfl)
    (case q4 => rfl)
    (case q5 => rfl)
    (case q6 => rfl)
    (case q7 => rfl)
