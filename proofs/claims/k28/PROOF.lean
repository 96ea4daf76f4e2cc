import PyProof.Rows.All
import Wide.All
import OpenK.AllK
import Wide.FinOn
import Lean
import PyProof.EqAt
import PyProof.EqKinds
import PyProof.TupleCall
import PyProof.StationsW
import PyProof.Commute
import PyProof.ExcClass3
import PyProof.ExcInit
import OpenK.KCls
import OpenK.KMake
import PyProof.ExcArgsOwn
import PyProof.InstStoreFacts
import PyProof.MaxThree
import KE.KMinKey
import KE.KIntText
import PySem.Challenge.RW_laidcells_k28_latest
set_option Elab.async false
set_option linter.all false
set_option maxRecDepth 100000
namespace L2
open PySem PySem.Spec PyProof.Rows
noncomputable abbrev Key := Sum Int Str
noncomputable def keyIs : Key → Value → Bool
  | .inl k, v => Value.isInt k v
  | .inr x, v => Value.isStrOf x v
noncomputable def keyH (w : World) : Key → Int
  | .inl k => hashInt k
  | .inr x => hashStr w x
theorem keyIs_shape : ∀ {k : Key} {v : Value}, keyIs k v = true → (∃ i t, k = Sum.inl i ∧ v = Value.int i t) ∨ (∃ x t, k = Sum.inr x ∧ v = Value.str x t)
  | .inl i, v, h => by
    obtain ⟨t, e⟩ := Value.isInt_shape (k := i) (v := v) h
    exact .inl ⟨i, t, rfl, e⟩
  | .inr x, v, h => by
    obtain ⟨t, e⟩ := Value.isStrOf_shape (x := x) (v := v) h
    exact .inr ⟨x, t, rfl, e⟩
theorem keyIs_int (i : Int) (t : Tok) : keyIs (.inl i) (.int i t) = true := by simp [keyIs, Value.isInt]
theorem keyIs_str (x : Str) (t : Tok) : keyIs (.inr x) (.str x t) = true := by simp [keyIs, Value.isStrOf]
theorem key_ll (a b : Int) : decide ((Sum.inl a : Key) = Sum.inl b) = (a == b) := by
  by_cases e : a = b
  · subst e; simp
  · have h : ¬ (Sum.inl a : Key) = Sum.inl b := fun q => e (Sum.inl.inj q)
    rw [decide_eq_false h]
    exact (beq_eq_false_iff_ne.mpr e).symm
theorem key_rr (a b : Str) : decide ((Sum.inr a : Key) = Sum.inr b) = decide (a = b) := by
  by_cases e : a = b
  · subst e; simp
  · have h : ¬ (Sum.inr a : Key) = Sum.inr b := fun q => e (Sum.inr.inj q)
    rw [decide_eq_false h, decide_eq_false e]
theorem key_lr (a : Int) (b : Str) : decide ((Sum.inl a : Key) = Sum.inr b) = false := decide_eq_false (fun q => nomatch q)
theorem key_rl (a : Str) (b : Int) : decide ((Sum.inr a : Key) = Sum.inl b) = false := decide_eq_false (fun q => nomatch q)
noncomputable def mixKind (prog : Program) (w : World) : PySem.KeyKind prog w Key where
  is := keyIs
  hash := keyH w
  inj := fun v a b ha hb => by
    rcases keyIs_shape ha with ⟨i, t, rfl, rfl⟩ | ⟨x, t, rfl, rfl⟩
    · rcases keyIs_shape hb with ⟨j, u, rfl, e⟩ | ⟨y, u, rfl, e⟩
      · injection e with e1 _; rw [e1]
      · exact nomatch e
    · rcases keyIs_shape hb with ⟨j, u, rfl, e⟩ | ⟨y, u, rfl, e⟩
      · exact nomatch e
      · injection e with e1 _; rw [e1]
  byValue := fun k v h => by
    rcases keyIs_shape h with ⟨i, t, rfl, rfl⟩ | ⟨x, t, rfl, rfl⟩ <;> rfl
  pyHash := fun hv h => by
    rcases keyIs_shape hv with ⟨i, t, rfl, rfl⟩ | ⟨x, t, rfl, rfl⟩
    · exact wpAny_pyHash_int h
    · exact wpAny_pyHash_str h
  eqBool := fun hu hv h => by
    rcases keyIs_shape hu with ⟨i, t, rfl, rfl⟩ | ⟨x, t, rfl, rfl⟩
    · rcases keyIs_shape hv with ⟨j, u, rfl, rfl⟩ | ⟨y, u, rfl, rfl⟩
      · rw [key_ll] at h; exact wpAny_eqBool_int h
      · rw [key_lr] at h; exact SeqAt.EqAt.int_str i t y u _ _ _ _ h
    · rcases keyIs_shape hv with ⟨j, u, rfl, rfl⟩ | ⟨y, u, rfl, rfl⟩
      · rw [key_rl] at h; exact SeqAt.EqAt.str_int x t j u _ _ _ _ h
      · rw [key_rr] at h; exact wpAny_eqBool_str h
  «strs» := fun k x t v h => by
    rcases keyIs_shape h with ⟨i, u, rfl, e⟩ | ⟨y, u, rfl, e⟩
    · exact nomatch e
    · injection e with e1 _
      subst e1
      cases v <;> rfl
theorem mixKind_int (prog : Program) (w : World) (i : Int) (t : Tok) : (mixKind prog w).is (.inl i) (.int i t) = true := keyIs_int i t
theorem mixKind_str (prog : Program) (w : World) (x : Str) (t : Tok) : (mixKind prog w).is (.inr x) (.str x t) = true := keyIs_str x t
end L2
namespace L2
open PySem PySem.Spec PyProof.Rows
inductive V where
  | non | bl (b : Bool) | int (i : Int) | str (x : Str) | byt (b : Array UInt8) | flt (b : UInt64) | ref (a : Addr) | ty (n : String)
  deriving DecidableEq
noncomputable def RelV : V → Value → Prop
  | .non, u => u = Value.none
  | .bl b, u => u = Value.bool b
  | .int i, u => ∃ t, u = Value.int i t
  | .str x, u => ∃ t, u = Value.str x t
  | .byt b, u => ∃ t, u = Value.bytes b t
  | .flt b, u => ∃ t, u = Value.float b t
  | .ref a, u => u = Value.ref a
  | .ty n, u => u = Value.type n
noncomputable abbrev Vals : List V → List Value → Prop := Paired RelV
theorem Vals.length {xs : List V} {us : List Value} (r : Vals xs us) : xs.length = us.length := Paired.length r
theorem Vals.get : ∀ {xs : List V} {us : List Value} {i : Nat} {x : V}, Vals xs us → xs[i]? = some x → ∃ u, us[i]? = some u ∧ RelV x u
  | _, _, _, _, .nil, e => by simp at e
  | _, _, 0, _, .cons r _, e => by simp at e; subst e; exact ⟨_, rfl, r⟩
  | _, _, i + 1, x, .cons _ t, e => by
    obtain ⟨u, h1, h2⟩ := Vals.get (i := i) (x := x) t (by simpa using e)
    exact ⟨u, by simpa using h1, h2⟩
theorem Vals.set {x : V} {u : Value} (r : RelV x u) : ∀ {xs : List V} {us : List Value} (i : Nat), Vals xs us → Vals (xs.set i x) (us.set i u)
  | _, _, _, .nil => .nil
  | _, _, 0, .cons _ t => .cons r t
  | _, _, i + 1, .cons q t => .cons q (Vals.set r i t)
theorem Vals.append : ∀ {xs ys : List V} {us ws : List Value}, Vals xs us → Vals ys ws → Vals (xs ++ ys) (us ++ ws)
  | _, _, _, _, .nil, s => s
  | _, _, _, _, .cons r t, s => .cons r (Vals.append t s)
theorem Vals.take : ∀ {xs : List V} {us : List Value} (n : Nat), Vals xs us → Vals (xs.take n) (us.take n)
  | _, _, 0, _ => .nil
  | _, _, _ + 1, .nil => .nil
  | _, _, n + 1, .cons r t => .cons r (Vals.take n t)
theorem Vals.drop : ∀ {xs : List V} {us : List Value} (n : Nat), Vals xs us → Vals (xs.drop n) (us.drop n)
  | _, _, 0, r => r
  | _, _, _ + 1, .nil => .nil
  | _, _, n + 1, .cons _ t => Vals.drop n t
noncomputable def RelO : Option V → Option Value → Prop
  | some v, some u => RelV v u
  | none, none => True
  | _, _ => False
noncomputable def KV {κ : Type} : List (κ × V) → List (κ × Value) → Prop := Paired fun (p : κ × V) (q : κ × Value) => p.1 = q.1 ∧ RelV p.2 q.2
noncomputable def kV : Key → V
  | .inl i => .int i
  | .inr x => .str x
inductive HO where
  | lst (xs : List V)
  | tup (xs : List V)
  | dK (kvs : List (Key × V)) | dT (kvs : List (List Key × V))
  | set (S : Int → Bool) (n : Nat)
  | ins (C dx : Addr) (fs : List (Str × V))
  | own (x : Addr)
  | xd (fs : List (Str × V))
  | met (f x : Addr)
  | rng (lo hi : Int)
  | frz (o : Obj) (u : HO)
  | tbl (ps : Array Value)
  | ext (φ : Heap → Prop)
noncomputable abbrev Hp := Addr → Option HO
noncomputable def upd (H : Hp) (a : Addr) (o : HO) : Hp := fun b => if b = a then some o else H b
theorem upd_same {H : Hp} {a : Addr} {o : HO} : upd H a o a = some o := by unfold upd; rw [if_pos rfl]
theorem upd_ne {H : Hp} {a b : Addr} {o : HO} (h : b ≠ a) : upd H a o b = H b := by unfold upd; rw [if_neg h]
theorem upd_upd {H : Hp} {a : Addr} {o u : HO} : upd (upd H a o) a u = upd H a u := by
  funext b; unfold upd; split <;> rfl
theorem ne_of {H : Hp} {a b : Addr} {o u : HO} (h : H a = some o) (h' : H b = some u) (d : o ≠ u) : a ≠ b := by
  intro e; subst e; rw [h] at h'; exact d (Option.some.inj h')
theorem ne_of_none {H : Hp} {a b : Addr} {o : HO} (h : H a = some o) (h' : H b = none) : a ≠ b := by
  intro e; subst e; rw [h] at h'; cases h'
section
variable (P : Program) (w : World)
noncomputable def ObjOk (H : Hp) (h : Heap) (a : Addr) : HO → Prop
  | .lst xs => xs.length ≤ sizeLine ∧ ∃ (its : List Value) (n : Nat), Vals xs its ∧ h.get? a = some { cls := .type "list", data := .seq its.toArray n }
  | .tup xs => xs.length ≤ sizeLine ∧ ∃ its : List Value, Vals xs its ∧ IsTup h a its.toArray
  | .dK kvs => kvs.length ≤ sizeLine ∧ (a == sysModules) = false ∧ ∃ vs, KV kvs vs ∧ h.DictOf (mixKind P w) a vs
  | .dT kvs => kvs.length ≤ sizeLine ∧ (a == sysModules) = false ∧ ∃ xs : List (List Key × Addr × Value),
      Paired (fun (p : List Key × V) (q : List Key × Addr × Value) => p.1 = q.1 ∧ H q.2.1 = some (.tup (p.1.map kV)) ∧ RelV p.2 q.2.2) kvs xs ∧
      ∃ o es ep, h.get? a = some o ∧ o.ExactDict ∧ o.data = .dict es ep ∧ es.toList = xs.map (entryOfKey (tupleKind (mixKind P w))) ∧ (xs.map (·.1)).Nodup
  | .set S n => h.SetOf (intKind P w) a S n
  | .ins C dx fs => H dx = some (.own a) ∧ fs.length ≤ 1000 ∧ dx ≠ a ∧ h.get? a = some (PySem.W.instObj C dx) ∧
      ∃ mA, h.Ns1 dx mA ∧ (∀ f, RelO (fs.lookup f) (mA f)) ∧ PySem.Within mA (fs.map (·.1))
  | .own _ => ∃ o, h.get? a = some o
  | .xd fs => ∃ mA, h.Ns1 a mA ∧ ∀ f, RelO (fs.lookup f) (mA f)
  | .rng lo hi => ∃ t u v, h.get? a = some { cls := .type "range", data := .fields #[.int lo t, .int hi u, .int 1 v] }
  | .frz o u => h.get? a = some o ∧ ObjOk H h a u
  | .tbl ps => h.get? a = some { cls := .none, data := .fields ps }
  | .met f x => h.get? a = some (PySem.W.methodObj (.ref f) (.ref x))
  | .ext φ => φ h ∧ (∃ o, h.get? a = some o) ∧ ∀ h1 h2 : Heap, φ h1 → (∀ o, h1.get? a = some o → h2.get? a = some o) → φ h2
noncomputable def HOk (H : Hp) (h : Heap) : Prop := ∀ a o, H a = some o → ObjOk P w H h a o
end
section
variable {P : Program} {w : World} {H H' : Hp} {h h' : Heap} {a : Addr} {o : HO}
theorem ObjOk.lt (x : ObjOk P w H h a o) : a < h.objs.size := by
  cases o with
  | lst xs => obtain ⟨_, _, _, _, e⟩ := x; exact Heap.lt_size e
  | tup xs => obtain ⟨_, _, _, p⟩ := x; exact p.lt
  | dK kvs => obtain ⟨_, _, _, _, o, _, _, e, _⟩ := x; exact Heap.lt_size e
  | dT kvs => obtain ⟨_, _, _, _, o, _, _, e, _⟩ := x; exact Heap.lt_size e
  | set S n => obtain ⟨o, _, _, _, e, _⟩ := x; exact Heap.lt_size e
  | ins C dx fs => obtain ⟨_, _, _, e, _⟩ := x; exact Heap.lt_size e
  | own y => obtain ⟨_, e⟩ := x; exact Heap.lt_size e
  | xd fs => obtain ⟨_, ⟨_, _, _, e, _⟩, _⟩ := x; exact Heap.lt_size e
  | rng lo hi => obtain ⟨_, _, _, e⟩ := x; exact Heap.lt_size e
  | frz ob u => obtain ⟨e, _⟩ := x; exact Heap.lt_size e
  | tbl ps => exact Heap.lt_size (show h.get? a = some _ from x)
  | met f y => exact Heap.lt_size (show h.get? a = some _ from x)
  | ext φ => obtain ⟨_, ⟨_, e⟩, _⟩ := x; exact Heap.lt_size e
theorem Paired.mapP {α β : Type} {F G : α → β → Prop} : ∀ {l₁ : List α} {l₂ : List β}, Paired F l₁ l₂ → (∀ a b, F a b → G a b) → Paired G l₁ l₂
  | _, _, .nil, _ => .nil
  | _, _, .cons r t, f => .cons (f _ _ r) (Paired.mapP t f)
theorem ObjOk.stay (x : ObjOk P w H h a o) (k : ∀ b u, (b = a ∨ H b = some (.own a)) → h.get? b = some u → h'.get? b = some u)
    (ho : ∀ b, H b = some (.own a) → H' b = some (.own a)) (ht : ∀ b xs, H b = some (.tup xs) → H' b = some (.tup xs)) : ObjOk P w H' h' a o := by
  induction o with
  | lst xs => obtain ⟨z, its, n, r, e⟩ := x; exact ⟨z, its, n, r, k _ _ (.inl rfl) e⟩
  | tup xs => obtain ⟨z, its, r, ob, e, c⟩ := x; exact ⟨z, its, r, ob, k _ _ (.inl rfl) e, c⟩
  | dK kvs => obtain ⟨z, y, vs, r, ob, es, ep, e, c⟩ := x; exact ⟨z, y, vs, r, ob, es, ep, k _ _ (.inl rfl) e, c⟩
  | dT kvs =>
    obtain ⟨z, y, xs, r, ob, es, ep, e, c⟩ := x
    exact ⟨z, y, xs, Paired.mapP r fun p q z => ⟨z.1, ht _ _ z.2.1, z.2.2⟩, ob, es, ep, k _ _ (.inl rfl) e, c⟩
  | set S n => obtain ⟨ob, es, ep, t, e, c⟩ := x; exact ⟨ob, es, ep, t, k _ _ (.inl rfl) e, c⟩
  | ins C dx fs =>
    obtain ⟨d, z, ne, e, mA, ⟨od, es, ep, e2, c⟩, r⟩ := x
    exact ⟨ho _ d, z, ne, k _ _ (.inl rfl) e, mA, ⟨od, es, ep, k _ _ (.inr d) e2, c⟩, r⟩
  | own y => obtain ⟨ob, e⟩ := x; exact ⟨ob, k _ _ (.inl rfl) e⟩
  | xd fs => obtain ⟨mA, ⟨od, es, ep, e, c⟩, r⟩ := x; exact ⟨mA, ⟨od, es, ep, k _ _ (.inl rfl) e, c⟩, r⟩
  | rng lo hi => obtain ⟨t, u, v, e⟩ := x; exact ⟨t, u, v, k _ _ (.inl rfl) e⟩
  | frz ob u ih => obtain ⟨e, q⟩ := x; exact ⟨k _ _ (.inl rfl) e, ih q⟩
  | tbl ps =>
    have e : h.get? a = some { cls := .none, data := .fields ps } := x
    show h'.get? a = some { cls := .none, data := .fields ps }
    exact k a _ (.inl rfl) e
  | met f y =>
    have e : h.get? a = some (PySem.W.methodObj (.ref f) (.ref y)) := x
    show h'.get? a = some (PySem.W.methodObj (.ref f) (.ref y))
    exact k a _ (.inl rfl) e
  | ext φ => obtain ⟨p, ⟨o, e⟩, st⟩ := x; exact ⟨st _ _ p fun o q => k _ _ (.inl rfl) q, ⟨o, k _ _ (.inl rfl) e⟩, st⟩
theorem HOk.lt (x : HOk P w H h) (e : H a = some o) : a < h.objs.size := (x a o e).lt
theorem HOk.fresh (x : HOk P w H h) (e : h.objs.size ≤ a) : H a = none := by
  cases q : H a with
  | none => rfl
  | some u => exact absurd (Nat.lt_of_lt_of_le (x.lt q) e) (Nat.lt_irrefl _)
theorem HOk.kept (x : HOk P w H h) (k : ∀ b u, h.get? b = some u → h'.get? b = some u) : HOk P w H h' := fun a o e =>
  (x a o e).stay (fun b u _ q => k b u q) (fun _ q => q) fun _ _ q => q
theorem HOk.laid (x : HOk P w H h) (k : ∀ b u, h.get? b = some u → h'.get? b = some u) (hp : h.objs.size ≤ a) (new : ObjOk P w (upd H a o) h' a o) : HOk P w (upd H a o) h' := fun b u e => by
  have hn := x.fresh hp
  by_cases hb : b = a
  · subst hb; rw [upd_same] at e; cases e; exact new
  · rw [upd_ne hb] at e
    exact (x b u e).stay (fun c v _ q => k c v q) (fun c q => by rw [upd_ne (ne_of_none q hn)]; exact q) fun c xs q => by rw [upd_ne (ne_of_none q hn)]; exact q
end
noncomputable def Rd (H : Hp) (a : Addr) (u : HO) : Prop := H a = some u ∨ ∃ o, H a = some (.frz o u)
theorem Rd.ok {P : Program} {w : World} {H : Hp} {h : Heap} {a : Addr} {u : HO} (r : Rd H a u) (x : HOk P w H h) : ObjOk P w H h a u := by
  rcases r with r | ⟨o, r⟩
  · exact x a u r
  · obtain ⟨_, q⟩ := x a _ r
    exact q
noncomputable def Mut : Option HO → Prop
  | some (.lst _) => True
  | some (.dK _) => True
  | some (.dT _) => True
  | some (.set _ _) => True
  | some (.ins _ _ _) => True
  | some (.ext _) => True
  | _ => False
section
variable {P : Program} {w : World} {H : Hp} {h h' : Heap} {x e : Addr} {o' : HO}
theorem HOk.write (ok : HOk P w H h) (mu : Mut (H x)) (he : e = x ∨ H e = some (.own x)) (k : ∀ b u, b ≠ e → h.get? b = some u → h'.get? b = some u) (heo : ∃ u, h'.get? e = some u)
    (new : ObjOk P w (upd H x o') h' x o') : HOk P w (upd H x o') h' := fun b u q => by
  have nown : ∀ c y, H c = some (.own y) → c ≠ x := fun c y r z => by subst z; rw [r] at mu; exact mu
  have ntup : ∀ c xs, H c = some (.tup xs) → c ≠ x := fun c xs r z => by subst z; rw [r] at mu; exact mu
  by_cases hb : b = x
  · subst hb; rw [upd_same] at q; cases q; exact new
  · rw [upd_ne hb] at q
    by_cases hbe : b = e
    · have q' : H b = some (.own x) := by
        rcases he with z | z
        · exact absurd (hbe.trans z) hb
        · rw [hbe]; exact z
      rw [q] at q'; cases q'
      obtain ⟨v, hv⟩ := heo
      exact ⟨v, by rw [hbe]; exact hv⟩
    · refine (ok b u q).stay (fun c v hc r => k c v ?_ r) (fun c r => by rw [upd_ne (nown c b r)]; exact r) fun c xs r => by rw [upd_ne (ntup c xs r)]; exact r
      rcases hc with rfl | hc
      · exact hbe
      · rintro rfl
        rcases he with z | z
        · exact nown c b hc z
        · rw [hc] at z; cases z; exact hb rfl
end
structure Un (fs ex : List Addr) (H H' : Hp) (h h' : Heap) : Prop where
  keep : ∀ b o, h.get? b = some o → H b = none → b ∉ fs → b ∉ ex → h'.get? b = some o
  slot : ∀ b o, h.get? b = some o → H b = none → b ∈ fs → b ∉ ex → ∃ sl, h'.get? b = some { o with slots := sl }
  free : ∀ b o, h.get? b = some o → H b = none → b ∉ ex → H' b = none
  there : ∀ b o, h.get? b = some o → b ∉ ex → ∃ o', h'.get? b = some o'
  tups : ∀ b xs, H b = some (.tup xs) → H' b = some (.tup xs)
  frzs : ∀ b o u, H b = some (.frz o u) → H' b = some (.frz o u)
  tbls : ∀ b ps, H b = some (.tbl ps) → ∃ more, H' b = some (.tbl (ps ++ more))
section
variable {fs fs' ex ex' : List Addr} {H H1 H2 : Hp} {h h1 h2 h' : Heap} {a x e : Addr} {o : HO}
theorem Un.any (u : Un fs ex H H1 h h1) {b : Addr} {ob : Obj} (q : h.get? b = some ob) (n : H b = none) (hx : b ∉ ex) : ∃ sl, h1.get? b = some { ob with slots := sl } := by
  by_cases hb : b ∈ fs
  · exact u.slot b ob q n hb hx
  · exact ⟨ob.slots, u.keep b ob q n hb hx⟩
theorem Un.kept (k : ∀ b u, h.get? b = some u → h'.get? b = some u) : Un fs ex H H h h' :=
  ⟨fun b ob q _ _ _ => k b ob q, fun b ob q _ _ _ => ⟨ob.slots, k b ob q⟩, fun _ _ _ n _ => n, fun b ob q _ => ⟨ob, k b ob q⟩, fun _ _ q => q, fun _ _ _ q => q, fun _ ps q => ⟨#[], by rw [q]; simp⟩⟩
theorem Un.refl : Un fs ex H H h h := Un.kept fun _ _ q => q
theorem Un.laid (k : ∀ b u, h.get? b = some u → h'.get? b = some u) (hp : h.objs.size ≤ a) (hn : H a = none) : Un fs ex H (upd H a o) h h' where
  keep := fun b u q _ _ _ => k b u q
  slot := fun b u q _ _ _ => ⟨u.slots, k b u q⟩
  free := fun b u q n _ => by rw [upd_ne (Nat.ne_of_lt (Nat.lt_of_lt_of_le (Heap.lt_size q) hp))]; exact n
  there := fun b u q _ => ⟨u, k b u q⟩
  tups := fun b xs q => by rw [upd_ne (ne_of_none q hn)]; exact q
  frzs := fun b u xs q => by rw [upd_ne (ne_of_none q hn)]; exact q
  tbls := fun b ps q => ⟨#[], by rw [upd_ne (ne_of_none q hn), q]; simp⟩
theorem Un.write (mu : Mut (H x)) (he : e = x ∨ H e = some (.own x)) (k : ∀ b u, b ≠ e → h.get? b = some u → h'.get? b = some u) (heo : ∃ u, h'.get? e = some u) : Un fs ex H (upd H x o) h h' := by
  have hx : ∀ b, H b = none → b ≠ x := fun b n z => by subst z; rw [n] at mu; exact mu
  have hb : ∀ b, H b = none → b ≠ e := fun b n z => by
    subst z
    rcases he with r | r
    · exact hx b n r
    · rw [n] at r; cases r
  have hm : ∀ b u, H b = some u → ¬ Mut (some u) → b ≠ x := fun b u q nm z => by subst z; rw [q] at mu; exact nm mu
  refine ⟨fun b u q n _ _ => k b u (hb b n) q, fun b u q n _ _ => ⟨u.slots, k b u (hb b n) q⟩, fun b u q n _ => by rw [upd_ne (hx b n)]; exact n, fun b u q _ => ?_,
    fun b xs q => by rw [upd_ne (hm b _ q fun z => z)]; exact q, fun b u xs q => by rw [upd_ne (hm b _ q fun z => z)]; exact q, fun b ps q => ⟨#[], by rw [upd_ne (hm b _ q fun z => z), q]; simp⟩⟩
  by_cases hbe : b = e
  · subst hbe; exact heo
  · exact ⟨u, k b u hbe q⟩
end
noncomputable def trk (h : Heap) (H : Hp) : List Addr := (List.range h.objs.size).filter fun a => (H a).isSome
noncomputable def hidT (h : Heap) (H : Hp) : Heap := PySem.W.hideAll h (trk h H)
theorem hidT_size (h : Heap) (H : Hp) : (hidT h H).objs.size = h.objs.size := PySem.W.hideAll_size _ _
theorem hidT_get {h : Heap} {H : Hp} {b : Addr} {o : Obj} (e : h.get? b = some o) (n : H b = none) : (hidT h H).get? b = some o :=
  PySem.W.hideAll_get _ e fun hm => by
    have q : (H b).isSome = true := (List.mem_filter.mp hm).2
    rw [n] at q; simp at q
theorem of_hidT {h : Heap} {H : Hp} {b : Addr} {o : Obj} (e : (hidT h H).get? b = some o) : h.get? b = some o ∧ H b = none := by
  have e' : h.get? b = some o := PySem.W.of_hideAll (trk h H) e
  refine ⟨e', ?_⟩
  cases q : H b with
  | none => rfl
  | some x =>
    have hm : b ∈ trk h H := List.mem_filter.mpr ⟨List.mem_range.mpr (Heap.lt_size e'), by simp [q]⟩
    have z : (hidT h H).get? b = none := PySem.W.hideAll_none (trk h H) hm
    rw [z] at e; cases e
end L2
namespace L2
open PySem PySem.Spec PyProof.Rows
structure Mod (K : PySem.W.Frag) (mg : Str → Option Value) (base : Heap) : Prop where
  kin : K.In base
  glob : base.Ns mainGlobals mg
  blt : ∃ mb, base.Ns builtinsNs mb ∧ ∀ x : Str, x ≠ "__name__" → mb x = bootBuiltins x
  nolimit : base.NoLimit
/-- the context: a def's body (or a comprehension's block) running. base: fixed through the whole law; s₀, H₀: the entry; outer: the frames whose slots others may change (a def's callers); stack: all frames that run;
   ex: iterators that were made ahead of the entry and are walked here (a comprehension's); fn: the names whose cells were made at the entry (a def: all; a comprehension's block: its own); calm: not within an except suite; pn: pins that every state bears; xe: what is wanted of an exception that leaves the code -/
structure Cx where
  prog : Program
  w : World
  K : PySem.W.Frag
  mg : Str → Option Value
  base : Heap
  A : Around
  N : List Str
  s₀ : Shared
  H₀ : Hp
  env : Env
  outer : List Env
  stack : List Env
  ex : List Addr
  fn : Str → Bool
  calm : Bool
  pn : List (Addr × Obj)
  xe : Value → Shared → Prop
noncomputable def frs (l : List Env) : List Addr := l.filterMap (·.frame)
noncomputable abbrev Cx.fs (X : Cx) : List Addr := frs X.outer
noncomputable def Vis (sc : Scope) (x : Str) : Prop := sc.names.lookup x = some .local ∨ sc.names.lookup x = some .cell ∨ sc.names.lookup x = some .free
noncomputable def Loc (sc : Scope) (x : Str) : Prop := sc.names.lookup x = some .local ∨ sc.names.lookup x = some .cell
noncomputable def Look (env : Env) (h : Heap) (m : Str → Option Value) (x : Str) (u : Value) : Prop :=
  (env.kindOf x = some .local ∧ m x = some u) ∨ ((env.kindOf x = some .cell ∨ env.kindOf x = some .free) ∧ ∃ c, env.cells.lookup x = some c ∧ h.IsCell c (some u))
structure Cx.Ok (X : Cx) : Prop where
  mod : Mod X.K X.mg X.base
  kind : X.env.scope.kind = .function
  glob : X.env.globals = mainGlobals
  blt : X.env.builtins = builtinsNs
  above : X.s₀.heap.objs.size ≤ X.env.locals
  inj : ∀ x y c, X.env.cells.lookup x = some c → X.env.cells.lookup y = some c → x = y
  has : ∀ x, (X.env.kindOf x = some .cell ∨ X.env.kindOf x = some .free) → ∃ c, X.env.cells.lookup x = some c
  cab : ∀ x c, X.fn x = true → X.env.cells.lookup x = some c → X.s₀.heap.objs.size ≤ c
  hd : X.calm = true → X.A.handled = none
  frames : X.A.frames = some X.stack
  stk : X.stack = X.outer ∨ (X.stack = X.env :: X.outer ∧ X.env.frame = some X.env.locals)
  exf : ∀ b ∈ X.ex, b ≠ X.env.locals ∧ ∀ x c, X.env.cells.lookup x = some c → c ≠ b
  bs : ∀ b o, X.base.get? b = some o → X.s₀.heap.get? b = some o ∧ X.H₀ b = none
  bsz : X.base.objs.size ≤ X.s₀.heap.objs.size
  noex : ∀ b o, X.base.get? b = some o → b ∉ X.ex
  exfs : ∀ b ∈ X.ex, b ∉ X.fs
  funs : X.s₀.heap.FunFrames X.base X.outer
  frf : ∀ b ∈ X.fs, X.H₀ b = none
structure Inv (X : Cx) (pins : List (Addr × Obj)) (σ : List (Option V)) (H : Hp) (s : Shared) : Prop where
  ok : X.Ok
  os : s.os = X.s₀.os
  bare : AllBare s.gens
  base : Un X.fs X.ex X.H₀ H X.s₀.heap s.heap
  loc : ∃ m, s.heap.Ns X.env.locals m ∧ ∀ (i : Nat) (x : Str) (v : V), X.N[i]? = some x → σ[i]? = some (some v) → Vis X.env.scope x → ∃ u, RelV v u ∧ Look X.env s.heap m x u
  cell : ∀ x c, X.env.cells.lookup x = some c → ∃ v, s.heap.IsCell c v
  free : H X.env.locals = none
  freeC : ∀ x c, X.env.cells.lookup x = some c → H c = none
  pin : ∀ p ∈ X.pn ++ pins, s.heap.get? p.1 = some p.2 ∧ H p.1 = none ∧ p.1 ≠ X.env.locals ∧ p.1 ∉ X.fs ∧ ∀ v, p.2.data ≠ .cell v
  hok : HOk X.prog X.w H s.heap
  len : σ.length = X.N.length
section
variable {X : Cx} {pins : List (Addr × Obj)} {σ : List (Option V)} {H H' : Hp} {s : Shared} {h' : Heap}
theorem Cx.Ok.nofr (ok : X.Ok) {b : Addr} {o : Obj} (e : X.base.get? b = some o) : b ∉ X.fs := fun hb => by
  have := (ok.funs.mem hb).1
  rw [e] at this; cases this
theorem Inv.bs (I : Inv X pins σ H s) : ∀ b o, X.base.get? b = some o → s.heap.get? b = some o ∧ H b = none := fun b o e =>
  ⟨I.base.keep b o (I.ok.bs b o e).1 (I.ok.bs b o e).2 (I.ok.nofr e) (I.ok.noex b o e), I.base.free b o (I.ok.bs b o e).1 (I.ok.bs b o e).2 (I.ok.noex b o e)⟩
theorem Inv.bk (I : Inv X pins σ H s) : ∀ b o, X.base.get? b = some o → s.heap.get? b = some o := fun b o e => (I.bs b o e).1
theorem Inv.mod (I : Inv X pins σ H s) : Mod X.K X.mg X.base := I.ok.mod
theorem Inv.kIn (I : Inv X pins σ H s) : X.K.In s.heap := I.ok.mod.kin.keeps I.bk
theorem Inv.lt (I : Inv X pins σ H s) : X.env.locals < s.heap.objs.size := let ⟨_, hn, _⟩ := I.loc; hn.lt
theorem Inv.sz (I : Inv X pins σ H s) : X.s₀.heap.objs.size ≤ s.heap.objs.size := Nat.le_trans I.ok.above (Nat.le_of_lt I.lt)
theorem Inv.nofs (I : Inv X pins σ H s) {a : Addr} (h : s.heap.objs.size ≤ a) : a ∉ X.fs := fun hb => by
  obtain ⟨_, o, ho, _⟩ := I.ok.funs.mem hb
  exact absurd (Nat.lt_of_lt_of_le (Heap.lt_size ho) (Nat.le_trans I.sz h)) (Nat.lt_irrefl _)
theorem Inv.cne (I : Inv X pins σ H s) : ∀ x c, X.env.cells.lookup x = some c → c ≠ X.env.locals := fun x c e z => by
  obtain ⟨v, o, ho, hd⟩ := I.cell x c e
  obtain ⟨m, ⟨o', es, ep, ho', hd', _⟩, _⟩ := I.loc
  rw [z, ho'] at ho; cases ho; rw [hd'] at hd; cases hd
theorem Inv.funs (I : Inv X pins σ H s) : s.heap.FunFrames X.base X.outer := by
  have all : ∀ (l : List Env), (∀ b ∈ frs l, b ∈ X.fs) → X.s₀.heap.FunFrames X.base l → s.heap.FunFrames X.base l := by
    intro l
    induction l with
    | nil => intro _ _; trivial
    | cons env r ih =>
      intro hs hl
      obtain ⟨hk, ⟨L, o, hf, hn, ho, hd⟩, hr⟩ := hl
      have hL : L ∈ X.fs := hs L (by unfold frs; rw [List.filterMap_cons, hf]; exact List.mem_cons_self)
      obtain ⟨sl, e⟩ := I.base.slot L o ho (I.ok.frf L hL) hL fun z => I.ok.exfs L z hL
      exact ⟨hk, ⟨L, _, hf, hn, e, hd⟩, ih (fun b hb => hs b (by unfold frs; rw [List.filterMap_cons, hf]; exact List.mem_cons_of_mem _ hb)) hr⟩
  exact all X.outer (fun _ hb => hb) I.ok.funs
theorem Inv.stack (I : Inv X pins σ H s) : s.heap.FunFrames X.base X.stack := by
  rcases I.ok.stk with e | ⟨e, hf⟩
  · rw [e]; exact I.funs
  · rw [e]
    obtain ⟨m, hn, _⟩ := I.loc
    refine .cons (by rw [I.ok.kind]; decide) hf hn ?_ I.funs
    exact Heap.get?_none_of_le (Nat.le_trans I.ok.bsz I.ok.above)
theorem Inv.stkSub (I : Inv X pins σ H s) : ∀ b ∈ frs X.stack, b ∈ X.env.locals :: X.fs := fun b hb => by
  rcases I.ok.stk with e | ⟨e, hf⟩
  · rw [e] at hb; exact List.mem_cons_of_mem _ hb
  · rw [e] at hb
    unfold frs at hb
    rw [List.filterMap_cons, hf] at hb
    exact hb
theorem Inv.stkFree (I : Inv X pins σ H s) : ∀ b ∈ frs X.stack, H b = none := fun b hb => by
  rcases List.mem_cons.mp (I.stkSub b hb) with e | hb
  · rw [e]; exact I.free
  · obtain ⟨_, o, ho, _⟩ := I.ok.funs.mem hb
    exact I.base.free b o ho (I.ok.frf b hb) fun z => I.ok.exfs b z hb
theorem Inv.step {g' : Array GenState} {t' : Nat} {d' : Drawn} {ch : List Addr} (I : Inv X pins σ H s)
    (hch : ∀ b ∈ ch, (b ∈ X.ex ∨ X.s₀.heap.objs.size ≤ b) ∧ b ≠ X.env.locals ∧ (∀ x c, X.env.cells.lookup x = some c → c ≠ b) ∧ ∀ p ∈ X.pn ++ pins, p.1 ≠ b)
    (keep : ∀ b o, b ≠ X.env.locals → b ∉ X.fs → b ∉ ch → s.heap.get? b = some o → H b = none → h'.get? b = some o)
    (slot : ∀ b o, b ≠ X.env.locals → b ∈ X.fs → b ∉ ch → s.heap.get? b = some o → H b = none → ∃ sl, h'.get? b = some { o with slots := sl }) (free : ∀ b o, b ∉ ch → s.heap.get? b = some o → H b = none → H' b = none)
    (there : ∀ b o, b ∉ ch → s.heap.get? b = some o → ∃ o', h'.get? b = some o')
    (tups : ∀ b xs, H b = some (.tup xs) → H' b = some (.tup xs)) (frzs : ∀ b o u, H b = some (.frz o u) → H' b = some (.frz o u)) (tbls : ∀ b ps, H b = some (.tbl ps) → ∃ more, H' b = some (.tbl (ps ++ more)))
    (ns : ∀ m, s.heap.Ns X.env.locals m → h'.Ns X.env.locals m) (hok : HOk X.prog X.w H' h') (hg : AllBare g') :
    Inv X pins σ H' { s with heap := h', gens := g', drawn := d', toks := t' } := by
  have neL : ∀ b o, X.s₀.heap.get? b = some o → b ≠ X.env.locals := fun b o e => Nat.ne_of_lt (Nat.lt_of_lt_of_le (Heap.lt_size e) I.ok.above)
  have neC : ∀ b o, X.s₀.heap.get? b = some o → b ∉ X.ex → b ∉ ch := fun b o e hx hb => by
    rcases (hch b hb).1 with z | z
    · exact hx z
    · exact absurd (Nat.lt_of_lt_of_le (Heap.lt_size e) z) (Nat.lt_irrefl _)
  have cellK : ∀ x c, X.env.cells.lookup x = some c → ∀ v, s.heap.IsCell c v → h'.IsCell c v := fun x c e v ⟨o, ho, hd⟩ => by
    have nch : c ∉ ch := fun z => (hch c z).2.2.1 x c e rfl
    by_cases hc : c ∈ X.fs
    · obtain ⟨sl, q⟩ := slot c o (I.cne x c e) hc nch ho (I.freeC x c e)
      exact ⟨_, q, hd⟩
    · exact ⟨o, keep c o (I.cne x c e) hc nch ho (I.freeC x c e), hd⟩
  refine ⟨I.ok, I.os, hg, ⟨fun b o e n hb hx => ?_, fun b o e n hb hx => ?_, fun b o e n hx => ?_, fun b o e hx => ?_, fun b xs e => tups b xs (I.base.tups b xs e), fun b o xs e => frzs b o xs (I.base.frzs b o xs e), fun b ps e => ?_⟩, ?_, fun x c e => ?_, ?_, fun x c e => ?_, fun p hp => ?_, hok, I.len⟩
  · exact keep b o (neL b o e) hb (neC b o e hx) (I.base.keep b o e n hb hx) (I.base.free b o e n hx)
  · obtain ⟨sl, e1⟩ := I.base.slot b o e n hb hx
    obtain ⟨sl', e2⟩ := slot b _ (neL b o e) hb (neC b o e hx) e1 (I.base.free b o e n hx)
    exact ⟨sl', e2⟩
  · obtain ⟨o', e1⟩ := I.base.there b o e hx
    exact free b o' (neC b o e hx) e1 (I.base.free b o e n hx)
  · obtain ⟨o', e1⟩ := I.base.there b o e hx
    exact there b o' (neC b o e hx) e1
  · obtain ⟨m1, e1⟩ := I.base.tbls b ps e
    obtain ⟨m2, e2⟩ := tbls b _ e1
    exact ⟨m1 ++ m2, by rw [e2, Array.append_assoc]⟩
  · obtain ⟨m, hn, hl⟩ := I.loc
    refine ⟨m, ns m hn, fun i x v e1 e2 e3 => ?_⟩
    obtain ⟨u, r, l⟩ := hl i x v e1 e2 e3
    refine ⟨u, r, ?_⟩
    rcases l with l | ⟨k, c, e, z⟩
    · exact .inl l
    · exact .inr ⟨k, c, e, cellK x c e _ z⟩
  · obtain ⟨v, z⟩ := I.cell x c e
    exact ⟨v, cellK x c e v z⟩
  · obtain ⟨m, ⟨o, _, _, ho, _⟩, _⟩ := I.loc
    exact free _ o (fun z => (hch _ z).2.1 rfl) ho I.free
  · obtain ⟨v, o, ho, hd⟩ := I.cell x c e
    exact free c o (fun z => (hch c z).2.2.1 x c e rfl) ho (I.freeC x c e)
  · obtain ⟨e, n, ne, nf, d⟩ := I.pin p hp
    have nch : p.1 ∉ ch := fun z => (hch p.1 z).2.2.2 p hp rfl
    exact ⟨keep p.1 p.2 ne nf nch e n, free p.1 p.2 nch e n, ne, nf, d⟩
theorem Inv.un {t' : Nat} (I : Inv X pins σ H s) (u : Un X.fs [] H H' s.heap h') (hok : HOk X.prog X.w H' h') : Inv X pins σ H' { s with heap := h', toks := t' } := by
  obtain ⟨m, ⟨o, es, ep, ho, r⟩, _⟩ := id I.loc
  obtain ⟨sl, hL⟩ := u.any ho I.free (by simp)
  exact I.step (g' := s.gens) (d' := s.drawn) (ch := []) (fun _ z => nomatch z) (fun b o _ hb _ e n => u.keep b o e n hb (by simp)) (fun b o _ hb _ e n => u.slot b o e n hb (by simp)) (fun b o _ e n => u.free b o e n (by simp)) (fun b o _ e => u.there b o e (by simp)) u.tups u.frzs u.tbls (fun m' hm => by
    obtain ⟨o', es', ep', ho', r'⟩ := hm
    rw [ho] at ho'; cases ho'
    exact ⟨_, es', ep', hL, r'⟩) hok I.bare
theorem Inv.call {g' : Array GenState} {t' : Nat} {d' : Drawn} {ch : List Addr} (I : Inv X pins σ H s) (u : Un (frs X.stack) ch H H' s.heap h') (hok : HOk X.prog X.w H' h') (hg : AllBare g')
    (hch : ∀ b ∈ ch, (b ∈ X.ex ∨ X.s₀.heap.objs.size ≤ b) ∧ b ≠ X.env.locals ∧ (∀ x c, X.env.cells.lookup x = some c → c ≠ b) ∧ ∀ p ∈ X.pn ++ pins, p.1 ≠ b) :
    Inv X pins σ H' { s with heap := h', gens := g', drawn := d', toks := t' } := by
  obtain ⟨m, ⟨o, es, ep, ho, r⟩, _⟩ := id I.loc
  obtain ⟨sl, hL⟩ := u.any ho I.free fun z => (hch _ z).2.1 rfl
  exact I.step (ch := ch) hch (fun b o hL hb hc e n => u.keep b o e n (fun z => (List.mem_cons.mp (I.stkSub b z)).elim hL hb) hc) (fun b o _ _ hc e n => u.any e n hc) (fun b o hc e n => u.free b o e n hc) (fun b o hc e => u.there b o e hc) u.tups u.frzs u.tbls (fun m' hm => by
    obtain ⟨o', es', ep', ho', r'⟩ := hm
    rw [ho] at ho'; cases ho'
    exact ⟨_, es', ep', hL, r'⟩) hok hg
theorem Inv.turned {t' : Nat} {it : Addr} (I : Inv X pins σ H s) (k : ∀ b o, b ≠ it → s.heap.get? b = some o → h'.get? b = some o) (hn : H it = none) (hL : it ≠ X.env.locals)
    (h1 : it ∈ X.ex ∨ X.s₀.heap.objs.size ≤ it) (h2 : ∀ x c, X.env.cells.lookup x = some c → c ≠ it) (h3 : ∀ p ∈ X.pn ++ pins, p.1 ≠ it) : Inv X pins σ H { s with heap := h', toks := t' } := by
  have nit : ∀ b u, H b = some u → b ≠ it := fun b u e z => by rw [z, hn] at e; cases e
  refine I.step (g' := s.gens) (d' := s.drawn) (ch := [it]) (fun b hb => ?_) (fun b o _ _ hc e _ => k b o (fun z => hc (by simp [z])) e) (fun b o _ _ hc e _ => ⟨o.slots, k b o (fun z => hc (by simp [z])) e⟩) (fun _ _ _ _ n => n)
    (fun b o hc e => ⟨o, k b o (fun z => hc (by simp [z])) e⟩) (fun _ _ e => e) (fun _ _ _ e => e) (fun b ps e => ⟨#[], by rw [e]; simp⟩) (fun m hm => ?_) (fun b u e => ?_) I.bare
  · have e : b = it := by simpa using hb
    subst e
    exact ⟨h1, hL, h2, h3⟩
  · obtain ⟨o, es, ep, ho, r⟩ := hm
    exact ⟨o, es, ep, k _ o (Ne.symm hL) ho, r⟩
  · refine (I.hok b u e).stay (fun c v hc q => k c v ?_ q) (fun _ q => q) fun _ _ q => q
    rcases hc with z | z
    · rw [z]; exact nit b u e
    · exact nit c _ z
theorem Inv.tok (I : Inv X pins σ H s) (t : Nat) : Inv X pins σ H { s with toks := t } := I.un (h' := s.heap) (t' := t) Un.refl I.hok
theorem Inv.kept {t' : Nat} (I : Inv X pins σ H s) (k : ∀ b u, s.heap.get? b = some u → h'.get? b = some u) : Inv X pins σ H { s with heap := h', toks := t' } := I.un (Un.kept k) (I.hok.kept k)
theorem Inv.laid {a : Addr} {o : HO} {t' : Nat} (I : Inv X pins σ H s) (k : ∀ b u, s.heap.get? b = some u → h'.get? b = some u) (hp : s.heap.objs.size ≤ a) (new : ObjOk X.prog X.w (upd H a o) h' a o) :
    Inv X pins σ (upd H a o) { s with heap := h', toks := t' } := I.un (Un.laid k hp (I.hok.fresh hp)) (I.hok.laid k hp new)
theorem Inv.write {x e : Addr} {o : HO} {t' : Nat} (I : Inv X pins σ H s) (mu : Mut (H x)) (he : e = x ∨ H e = some (.own x)) (k : ∀ b u, b ≠ e → s.heap.get? b = some u → h'.get? b = some u) (heo : ∃ u, h'.get? e = some u)
    (new : ObjOk X.prog X.w (upd H x o) h' x o) : Inv X pins σ (upd H x o) { s with heap := h', toks := t' } := I.un (Un.write mu he k heo) (I.hok.write mu he k heo new)
theorem Inv.pins_of {pins' : List (Addr × Obj)} (I : Inv X pins σ H s) (h : ∀ p ∈ pins', s.heap.get? p.1 = some p.2 ∧ H p.1 = none ∧ p.1 ≠ X.env.locals ∧ p.1 ∉ X.fs ∧ ∀ v, p.2.data ≠ .cell v) : Inv X pins' σ H s :=
  ⟨I.ok, I.os, I.bare, I.base, I.loc, I.cell, I.free, I.freeC, fun p hp => (List.mem_append.mp hp).elim (fun z => I.pin p (List.mem_append_left _ z)) (h p), I.hok, I.len⟩
theorem nodup_ix {N : List Str} (hN : N.Nodup) {i j : Nat} {x : Str} (a : N[i]? = some x) (b : N[j]? = some x) : i = j := by
  obtain ⟨h1, e1⟩ := List.getElem?_eq_some_iff.mp a
  obtain ⟨h2, e2⟩ := List.getElem?_eq_some_iff.mp b
  exact (List.getElem_inj hN).mp (e1.trans e2.symm)
theorem store_ok2 {M : Model} {A : Around} {E : Value → Shared → Prop} {i : Nat} {x : Str} {v : V} {u : Value} {Q : Unit → Shared → Prop} (I : Inv X pins σ H s) (hN : X.N.Nodup) (hi : X.N[i]? = some x) (hx : Loc X.env.scope x) (r : RelV v u)
    (h : ∀ s', Inv X pins (σ.set i (some v)) H s' → (∃ a, Heap.SameBut a s.heap s'.heap ∧ (a = X.env.locals ∨ X.env.cells.lookup x = some a)) → Q () s') (hf : X.fn x = true ∨ X.env.scope.names.lookup x = some .local := by first | exact .inl rfl | exact .inr rfl | assumption) : wpAny M A (storeName X.env x u) Q E s := by
  obtain ⟨m, hn, hl⟩ := id I.loc
  have hcls : (X.env.scope.kind == .class || (X.env.scope.kind == .module && X.env.locals != X.env.globals)) = false := by rw [I.ok.kind]; rfl
  have hiσ : i < σ.length := by rw [I.len]; exact (List.getElem?_eq_some_iff.mp hi).1
  have cne := I.cne
  have tracked : ∀ {a : Addr} {h' : Heap}, (∃ o, s.heap.get? a = some o ∧ H a = none) → Heap.SameBut a s.heap h' → HOk X.prog X.w H h' := fun {a h'} ha hs b ob e => by
    obtain ⟨_, _, hfree⟩ := ha
    refine (I.hok b ob e).stay (fun c w' hc q => (hs.2 c ?_).trans q) (fun _ q => q) fun _ _ q => q
    rintro rfl
    rcases hc with rfl | hc
    · rw [hfree] at e; cases e
    · rw [hfree] at hc; cases hc
  rcases hx with hk | hk
  · refine wpAny_storeName_local hk hn (fun h' hn' hs => ?_) hcls
    obtain ⟨oL, _, _, hoL, _⟩ := id hn
    refine h _ ⟨I.ok, I.os, I.bare, ⟨fun b o e n hb hx => ?_, fun b o e n hb hx => ?_, I.base.free, fun b o e hx => ?_, I.base.tups, I.base.frzs, I.base.tbls⟩, ⟨_, hn', fun j y v' e1 e2 e3 => ?_⟩, fun y c e => ?_, I.free, I.freeC, fun p hp => ?_, tracked ⟨oL, hoL, I.free⟩ hs, by simpa using I.len⟩ ⟨_, hs, .inl rfl⟩
    · exact (hs.2 b (Nat.ne_of_lt (Nat.lt_of_lt_of_le (Heap.lt_size e) I.ok.above))).trans (I.base.keep b o e n hb hx)
    · obtain ⟨sl, e1⟩ := I.base.slot b o e n hb hx
      exact ⟨sl, (hs.2 b (Nat.ne_of_lt (Nat.lt_of_lt_of_le (Heap.lt_size e) I.ok.above))).trans e1⟩
    · obtain ⟨o', e1⟩ := I.base.there b o e hx
      exact ⟨o', (hs.2 b (Nat.ne_of_lt (Nat.lt_of_lt_of_le (Heap.lt_size e) I.ok.above))).trans e1⟩
    · by_cases hj : j = i
      · subst hj
        rw [hi] at e1; cases e1
        rw [List.getElem?_set_self hiσ] at e2
        cases e2
        exact ⟨u, r, .inl ⟨hk, by simp⟩⟩
      · rw [List.getElem?_set_ne (Ne.symm hj)] at e2
        obtain ⟨u', r', q⟩ := hl j y v' e1 e2 e3
        refine ⟨u', r', ?_⟩
        rcases q with ⟨k, e⟩ | ⟨k, c, e, z⟩
        · refine .inl ⟨k, ?_⟩
          have : y ≠ x := fun e => hj (nodup_ix hN e1 (e ▸ hi))
          simp [this, e]
        · exact .inr ⟨k, c, e, z.sameBut hs (cne y c e)⟩
    · obtain ⟨w', z⟩ := I.cell y c e
      exact ⟨w', z.sameBut hs (cne y c e)⟩
    · obtain ⟨e, n, ne, nf, d⟩ := I.pin p hp
      exact ⟨(hs.2 p.1 ne).trans e, n, ne, nf, d⟩
  · have hfn : X.fn x = true := by
      rcases hf with z | z
      · exact z
      · rw [z] at hk; cases hk
    obtain ⟨c, hc⟩ := I.ok.has x (.inl hk)
    obtain ⟨w', z⟩ := I.cell x c hc
    refine wpAny_storeName_cell I.ok.kind hk hc z (fun h' hc' hs => ?_)
    obtain ⟨oc, hoc, hocd⟩ := id z
    refine h { s with heap := h' } ⟨I.ok, I.os, I.bare, ⟨fun b o e n hb hx => ?_, fun b o e n hb hx => ?_, I.base.free, fun b o e hx => ?_, I.base.tups, I.base.frzs, I.base.tbls⟩, ⟨m, hn.sameBut hs (Ne.symm (cne x c hc)), fun j y v' e1 e2 e3 => ?_⟩, fun y c' e => ?_, I.free, I.freeC, fun p hp => ?_, tracked ⟨oc, hoc, I.freeC x c hc⟩ hs, by simpa using I.len⟩ ⟨c, hs, .inr hc⟩
    · exact (hs.2 b (Nat.ne_of_lt (Nat.lt_of_lt_of_le (Heap.lt_size e) (I.ok.cab x c hfn hc)))).trans (I.base.keep b o e n hb hx)
    · obtain ⟨sl, e1⟩ := I.base.slot b o e n hb hx
      exact ⟨sl, (hs.2 b (Nat.ne_of_lt (Nat.lt_of_lt_of_le (Heap.lt_size e) (I.ok.cab x c hfn hc)))).trans e1⟩
    · obtain ⟨o', e1⟩ := I.base.there b o e hx
      exact ⟨o', (hs.2 b (Nat.ne_of_lt (Nat.lt_of_lt_of_le (Heap.lt_size e) (I.ok.cab x c hfn hc)))).trans e1⟩
    · by_cases hj : j = i
      · subst hj
        rw [hi] at e1; cases e1
        rw [List.getElem?_set_self hiσ] at e2
        cases e2
        exact ⟨u, r, .inr ⟨.inl hk, c, hc, hc'⟩⟩
      · rw [List.getElem?_set_ne (Ne.symm hj)] at e2
        obtain ⟨u', r', q⟩ := hl j y v' e1 e2 e3
        refine ⟨u', r', ?_⟩
        rcases q with q | ⟨k, c', e, z'⟩
        · exact .inl q
        · refine .inr ⟨k, c', e, z'.sameBut hs ?_⟩
          rintro rfl
          exact hj (nodup_ix hN e1 (I.ok.inj _ _ _ e hc ▸ hi))
    · by_cases hcc : c' = c
      · subst hcc; exact ⟨_, hc'⟩
      · obtain ⟨w2, z2⟩ := I.cell y c' e
        exact ⟨w2, z2.sameBut hs hcc⟩
    · obtain ⟨e, n, ne, nf, d⟩ := I.pin p hp
      refine ⟨(hs.2 p.1 ?_).trans e, n, ne, nf, d⟩
      intro q
      rw [q, hoc] at e
      have q' : oc = p.2 := Option.some.inj e
      exact d w' (by rw [← q']; exact hocd)
theorem store_ok {M : Model} {A : Around} {E : Value → Shared → Prop} {i : Nat} {x : Str} {v : V} {u : Value} {Q : Unit → Shared → Prop} (I : Inv X pins σ H s) (hN : X.N.Nodup) (hi : X.N[i]? = some x) (hx : Loc X.env.scope x) (r : RelV v u)
    (h : ∀ s', Inv X pins (σ.set i (some v)) H s' → Q () s') (hf : X.fn x = true ∨ X.env.scope.names.lookup x = some .local := by first | exact .inl rfl | exact .inr rfl | assumption) : wpAny M A (storeName X.env x u) Q E s :=
  store_ok2 I hN hi hx r (fun s' I' _ => h s' I') hf
theorem Inv.call' {s' : Shared} {ch : List Addr} (I : Inv X pins σ H s) (ho : s'.os = s.os) (u : Un (frs X.stack) ch H H' s.heap s'.heap) (hok : HOk X.prog X.w H' s'.heap) (hg : AllBare s'.gens)
    (hch : ∀ b ∈ ch, (b ∈ X.ex ∨ X.s₀.heap.objs.size ≤ b) ∧ b ≠ X.env.locals ∧ (∀ x c, X.env.cells.lookup x = some c → c ≠ b) ∧ ∀ p ∈ X.pn ++ pins, p.1 ≠ b) : Inv X pins σ H' s' := by
  obtain ⟨h', g', d', t', o'⟩ := s'
  have e : o' = s.os := ho
  subst e
  exact I.call (g' := g') (t' := t') (d' := d') u hok hg hch
end
noncomputable abbrev XK := Value → Option Addr → Hp → Prop
noncomputable abbrev St := List (Option V)
noncomputable abbrev VK := V → Hp → Prop
noncomputable abbrev TE := St → Hp → VK → Prop
noncomputable abbrev TT := St → Hp → (Bool → Hp → Prop) → Prop
noncomputable abbrev TA := St → Hp → (List V → Hp → Prop) → Prop
structure Ends where
  nx : St → Hp → Prop
  rt : VK
  bk : St → Hp → Prop := fun _ _ => False
  ct : St → Hp → Prop := fun _ _ => False
noncomputable abbrev TS := Ends → St → Hp → Prop
noncomputable def EP (X : Cx) (pins : List (Addr × Obj)) (σ : St) (Q : VK) (u : Value) (s' : Shared) : Prop := ∃ v H', Inv X pins σ H' s' ∧ RelV v u ∧ Q v H'
noncomputable def TP (X : Cx) (pins : List (Addr × Obj)) (σ : St) (Q : Bool → Hp → Prop) (b : Bool) (s' : Shared) : Prop := ∃ H', Inv X pins σ H' s' ∧ Q b H'
noncomputable def AP (X : Cx) (pins : List (Addr × Obj)) (σ : St) (Q : List V → Hp → Prop) (us : List Value) (s' : Shared) : Prop := ∃ vs H', Inv X pins σ H' s' ∧ Vals vs us ∧ Q vs H'
noncomputable def SP (X : Cx) (pins : List (Addr × Obj)) (D : Ends) (f : Flow) (s' : Shared) : Prop :=
  match f with
  | .next => ∃ σ' H', Inv X pins σ' H' s' ∧ D.nx σ' H'
  | .brk => ∃ σ' H', Inv X pins σ' H' s' ∧ D.bk σ' H'
  | .cont => ∃ σ' H', Inv X pins σ' H' s' ∧ D.ct σ' H'
  | .ret u => ∃ v σ' H', Inv X pins σ' H' s' ∧ RelV v u ∧ D.rt v H'
noncomputable def PE (X : Cx) (e : Expr) (t : TE) : Prop :=
  ∀ (pins : List (Addr × Obj)) (s : Shared) (σ : St) (H : Hp) (Q : VK), Inv X pins σ H s → t σ H Q → wpAny (model X.prog X.w) X.A (eval e X.env) (EP X pins σ Q) X.xe s
noncomputable def PT (X : Cx) (e : Expr) (t : TT) : Prop :=
  ∀ (pins : List (Addr × Obj)) (s : Shared) (σ : St) (H : Hp) (Q : Bool → Hp → Prop), Inv X pins σ H s → t σ H Q → wpAny (model X.prog X.w) X.A (isTrue e X.env (eval e X.env)) (TP X pins σ Q) X.xe s
noncomputable def PW (X : Cx) (e : Expr) (t : TT) : Prop :=
  ∀ (whole : Sem Value) (pins : List (Addr × Obj)) (s : Shared) (σ : St) (H : Hp) (Q : Bool → Hp → Prop), Inv X pins σ H s → t σ H Q → wpAny (model X.prog X.w) X.A (isTrue e X.env whole) (TP X pins σ Q) X.xe s
theorem PW.pt {X : Cx} {e : Expr} {t : TT} (h : PW X e t) : PT X e t := h _
noncomputable def PA (X : Cx) (es : List Expr) (t : TA) : Prop :=
  ∀ (pos : Pos) (pins : List (Addr × Obj)) (s : Shared) (σ : St) (H : Hp) (Q : List V → Hp → Prop), Inv X pins σ H s → t σ H Q → wpAny (model X.prog X.w) X.A (spliced (backTo pos (starEach es X.env))) (AP X pins σ Q) X.xe s
noncomputable def PS (X : Cx) (st : Stmt) (t : TS) : Prop :=
  ∀ (pins : List (Addr × Obj)) (s : Shared) (σ : St) (H : Hp) (D : Ends), Inv X pins σ H s → t D σ H → wpAny (model X.prog X.w) X.A (exec st X.env) (SP X pins D) X.xe s
noncomputable def PSs (X : Cx) (st : List Stmt) (t : TS) : Prop :=
  ∀ (pins : List (Addr × Obj)) (s : Shared) (σ : St) (H : Hp) (D : Ends), Inv X pins σ H s → t D σ H → wpAny (model X.prog X.w) X.A (execs st X.env) (SP X pins D) X.xe s
theorem thn {α : Type} {t : Sem α} {Q Q' : α → Shared → Prop} {M : Model} {A : Around} {E : Value → Shared → Prop} {s : Shared} (h : wpAny M A t Q E s) (hQ : ∀ a s, Q a s → Q' a s) : wpAny M A t Q' E s := wpAny_mono h hQ fun _ _ x => x
end L2
namespace L2
open PySem PySem.Spec PyProof.Rows
section
variable {X : Cx}
theorem bin {a b : Expr} {ta tb : TE} (ha : PE X a ta) (hb : PE X b tb) {pins : List (Addr × Obj)} {s : Shared} {σ : St} {H : Hp} {R : V → V → Hp → Prop} (I : Inv X pins σ H s) (h : ta σ H fun x H1 => tb σ H1 fun y H2 => R x y H2)
    {α : Type} {Q : α → Shared → Prop} {f : Value → Value → Sem α}
    (hf : ∀ v u s2 x y H2, Inv X pins σ H2 s2 → RelV x v → RelV y u → R x y H2 → wpAny (model X.prog X.w) X.A (f v u) Q X.xe s2) :
    wpAny (model X.prog X.w) X.A (eval a X.env) (fun v s₁ => wpAny (model X.prog X.w) X.A (eval b X.env) (fun u s₂ => wpAny (model X.prog X.w) X.A (f v u) Q X.xe s₂) X.xe s₁) X.xe s := by
  refine thn (ha pins s σ H _ I h) fun v s1 ⟨x, H1, I1, r1, q1⟩ => ?_
  refine thn (hb pins s1 σ H1 _ I1 q1) fun u s2 ⟨y, H2, I2, r2, q2⟩ => ?_
  exact hf v u s2 x y H2 I2 r1 r2 q2
noncomputable def tVar (i : Nat) : TE := fun σ H Q => ∃ v, σ[i]? = some (some v) ∧ Q v H
noncomputable def tC (v : V) : TE := fun _ H Q => Q v H
theorem pe_var {i : Nat} {x : Str} {pos : Pos} (hN : X.N[i]? = some x) (hv : Vis X.env.scope x) (hd : (x == ("__debug__" : Str)) = false := by decide) (hcd : (x == ("__classdict__" : Str)) = false := by decide) : PE X (.Name x pos) (tVar i) := by
  intro pins s σ H Q I h
  obtain ⟨v, e, h⟩ := h
  obtain ⟨m, hn, hl⟩ := I.loc
  obtain ⟨u, r, l⟩ := hl i x v hN e hv
  have fin : EP X pins σ Q u s := ⟨v, H, I, r, h⟩
  rcases l with ⟨hk, hm⟩ | ⟨hk, c, hc, hcell⟩
  · exact wpAny_Name (wpAny_loadName_local I.ok.kind hk hn hm fin) hd
  · rcases hk with hk | hk
    · exact wpAny_Name (wpAny_loadName_cell I.ok.kind hk hc hcell fin) hd
    · exact wpAny_Name (wpAny_loadName_free I.ok.kind hk hc hcell fin hcd) hd
theorem pe_int {i j pos} : PE X (.Constant (.int i) j pos) (tC (.int i)) := fun _ _ _ H _ I h => wpAny_Constant_int ⟨.int i, H, I.tok _, ⟨_, rfl⟩, h⟩
theorem pe_bl {b j pos} : PE X (.Constant (.bool b) j pos) (tC (.bl b)) := fun _ _ _ H _ I h => Constant_bool ⟨.bl b, H, I, rfl, h⟩
theorem pe_str {x j pos} : PE X (.Constant (.str x) j pos) (tC (.str x)) := fun _ _ _ H _ I h => Calls.Constant_str ⟨.str x, H, I.tok _, ⟨_, rfl⟩, h⟩
noncomputable def Gl (X : Cx) (x : Str) : Prop := X.env.kindOf x = some .globalImplicit
theorem ld_glob {E : Value → Shared → Prop} {pins : List (Addr × Obj)} {s : Shared} {σ : St} {H : Hp} {x : Str} {u : Value} {pos : Pos} {Q : Value → Shared → Prop} (I : Inv X pins σ H s) (hg : Gl X x) (hm : X.mg x = some u) (h : Q u s)
    (hd : (x == ("__debug__" : Str)) = false := by decide) : wpAny (model X.prog X.w) X.A (eval (.Name x pos) X.env) Q E s :=
  Calls.Name_function_global I.ok.kind hg (Calls.loadGlobal_global (by rw [I.ok.glob]; exact I.mod.glob.keeps I.bk) hm h) hd
theorem ld_blt {E : Value → Shared → Prop} {pins : List (Addr × Obj)} {s : Shared} {σ : St} {H : Hp} {x : Str} {u : Value} {pos : Pos} {Q : Value → Shared → Prop} (I : Inv X pins σ H s) (hg : Gl X x) (hm : X.mg x = none) (hv : bootBuiltins x = some u) (h : Q u s)
    (hn : x ≠ "__name__" := by decide) (hd : (x == ("__debug__" : Str)) = false := by decide) : wpAny (model X.prog X.w) X.A (eval (.Name x pos) X.env) Q E s := by
  obtain ⟨mb, h1, h2⟩ := I.mod.blt
  exact Calls.Name_function_global I.ok.kind hg (Calls.loadGlobal_builtin (by rw [I.ok.glob]; exact I.mod.glob.keeps I.bk) hm (by rw [I.ok.blt]; exact h1.keeps I.bk) ((h2 x hn).trans hv) h) hd
theorem pe_bltn {x : Str} {v : V} {u : Value} {pos : Pos} (hg : Gl X x) (hm : X.mg x = none) (hv : bootBuiltins x = some u) (r : RelV v u) (hn : x ≠ "__name__" := by decide) (hd : (x == ("__debug__" : Str)) = false := by decide) : PE X (.Name x pos) (tC v) :=
  fun _ _ _ H _ I h => ld_blt I hg hm hv ⟨v, H, I, r, h⟩ hn hd
variable {a b : Expr} {ta tb : TE} {pos : Pos}
variable {tA tB' : TT} {rest : List Expr}
noncomputable def tAnd (t u : TT) : TT := fun σ H Q => t σ H fun c H1 => if c = true then u σ H1 Q else Q false H1
noncomputable def tOr (t u : TT) : TT := fun σ H Q => t σ H fun c H1 => if c = true then Q true H1 else u σ H1 Q
noncomputable def tNot (t : TT) : TT := fun σ H Q => t σ H fun c H1 => Q (!c) H1
theorem pw_and1 (ha : PT X a tA) : PW X (.BoolOp .And [a] pos) tA := by
  intro wh pins s σ H Q I h
  refine isTrue_and (thn (ha pins s σ H Q I h) fun c s1 e => ?_)
  cases c with
  | true => exact isTrue_and_nil e
  | false => exact e
theorem pw_or1 (ha : PT X a tA) : PW X (.BoolOp .Or [a] pos) tA := by
  intro wh pins s σ H Q I h
  refine isTrue_or (thn (ha pins s σ H Q I h) fun c s1 e => ?_)
  cases c with
  | false => exact isTrue_or_nil e
  | true => exact e
theorem pw_and (ha : PT X a tA) (hb : PW X (.BoolOp .And (b :: rest) pos) tB') : PW X (.BoolOp .And (a :: b :: rest) pos) (tAnd tA tB') := by
  intro wh pins s σ H Q I h
  refine isTrue_and (thn (ha pins s σ H _ I h) fun c s1 ⟨H1, I1, q1⟩ => ?_)
  cases c with
  | true => exact hb wh pins s1 σ H1 Q I1 q1
  | false => exact ⟨H1, I1, q1⟩
theorem pw_or (ha : PT X a tA) (hb : PW X (.BoolOp .Or (b :: rest) pos) tB') : PW X (.BoolOp .Or (a :: b :: rest) pos) (tOr tA tB') := by
  intro wh pins s σ H Q I h
  refine isTrue_or (thn (ha pins s σ H _ I h) fun c s1 ⟨H1, I1, q1⟩ => ?_)
  cases c with
  | true => exact ⟨H1, I1, q1⟩
  | false => exact hb wh pins s1 σ H1 Q I1 q1
theorem pt_not (ha : PT X a tA) : PT X (.UnaryOp .Not a pos) (tNot tA) := by
  intro pins s σ H Q I h
  exact isTrue_not (ha pins s σ H (fun c H1 => Q (!c) H1) I h)
noncomputable def tAndV (ta tb : TE) : TE := fun σ H Q => ta σ H fun x H1 => ∃ c, x = .bl c ∧ if c = true then tb σ H1 Q else Q (.bl false) H1
noncomputable def tNotV (ta : TE) : TE := fun σ H Q => ta σ H fun x H1 => ∃ c, x = .bl c ∧ Q (.bl (!c)) H1
theorem pe_one {op} {t : TE} (h : PE X a t) : PE X (.BoolOp op [a] pos) t := fun pins s σ H Q I hw => BoolOp_one (h pins s σ H Q I hw)
theorem pe_and (ha : PE X a ta) (hb : PE X (.BoolOp .And (b :: rest) pos) tb) : PE X (.BoolOp .And (a :: b :: rest) pos) (tAndV ta tb) := by
  intro pins s σ H Q I h
  refine BoolOp_and (thn (ha pins s σ H _ I h) fun v s1 ⟨x, H1, I1, r1, q1⟩ => ?_)
  obtain ⟨c, rfl, q1⟩ := q1
  cases r1
  refine wpAny_truthy_bool ?_
  cases c with
  | true => exact hb pins s1 σ H1 Q I1 q1
  | false => exact ⟨.bl false, H1, I1, rfl, q1⟩
theorem pe_not (ha : PE X a ta) : PE X (.UnaryOp .Not a pos) (tNotV ta) := by
  intro pins s σ H Q I h
  refine UnaryOp_ (thn (ha pins s σ H _ I h) fun v s1 ⟨x, H1, I1, r1, q1⟩ => ?_)
  obtain ⟨c, rfl, q1⟩ := q1
  cases r1
  exact not_of (wpAny_truthy_bool ⟨.bl (!c), H1, I1, rfl, q1⟩)
end
end L2
namespace L2
open PySem PySem.Spec PyProof.Rows
noncomputable def SqL (K : PySem.W.Frag) (H : Hp) (a : Addr) (xs : List V) : Prop :=
  Rd H a (.lst xs) ∨
    ∃ (o : Obj) (its : Array Value) (n : Nat), K.lookup a = some o ∧ o.cls = .type "list" ∧ o.dict = none ∧ o.data = .seq its n ∧ its.size ≤ sizeLine ∧ Vals xs its.toList
noncomputable def SqT (K : PySem.W.Frag) (H : Hp) (a : Addr) (xs : List V) : Prop :=
  Rd H a (.tup xs) ∨
    ∃ (o : Obj) (its : Array Value) (n : Nat), K.lookup a = some o ∧ o.cls = .type "tuple" ∧ o.data = .seq its n ∧ its.size ≤ sizeLine ∧ Vals xs its.toList
noncomputable def absV : Value → Option V
  | .none => some .non
  | .bool b => some (.bl b)
  | .int i _ => some (.int i)
  | .str x _ => some (.str x)
  | .bytes b _ => some (.byt b)
  | .float b _ => some (.flt b)
  | .ref a => some (.ref a)
  | .type n => some (.ty n)
  | _ => none
theorem RelV.abs {x : V} {u : Value} (r : RelV x u) : absV u = some x := by
  cases x with
  | non => cases r; rfl
  | bl _ => cases r; rfl
  | int _ => obtain ⟨t, rfl⟩ := r; rfl
  | str _ => obtain ⟨t, rfl⟩ := r; rfl
  | byt _ => obtain ⟨t, rfl⟩ := r; rfl
  | flt _ => obtain ⟨t, rfl⟩ := r; rfl
  | ref _ => cases r; rfl
  | ty _ => cases r; rfl
theorem RelV.inj {x y : V} {u : Value} (r : RelV x u) (q : RelV y u) : x = y := Option.some.inj (r.abs.symm.trans q.abs)
theorem Vals.inj : ∀ {xs ys : List V} {us : List Value}, Vals xs us → Vals ys us → xs = ys
  | _, _, _, .nil, .nil => rfl
  | _, _, _, .cons r t, .cons r' t' => by rw [r.inj r', Vals.inj t t']
section
variable {X : Cx} {pins : List (Addr × Obj)} {σ : St} {H : Hp} {s : Shared} {a : Addr} {xs ys : List V}
theorem SqL.of {K : PySem.W.Frag} (h : H a = some (.lst xs)) : SqL K H a xs := .inl (.inl h)
theorem SqT.of {K : PySem.W.Frag} (h : H a = some (.tup xs)) : SqT K H a xs := .inl (.inl h)
theorem Inv.list (I : Inv X pins σ H s) (h : SqL X.K H a xs) : ∃ its : List Value, Vals xs its ∧ PlainL s.heap a its.toArray ∧ xs.length ≤ sizeLine := by
  rcases h with h | ⟨o, its, n, hk, hc, hd, hs, hz, r⟩
  · obtain ⟨z, its, n, r, e⟩ := h.ok I.hok
    exact ⟨its, r, ⟨_, n, e, rfl, rfl, rfl⟩, z⟩
  · refine ⟨its.toList, r, ⟨o, n, I.kIn a o hk, hc, hd, by simpa using hs⟩, ?_⟩
    have e := r.length
    simp only [Array.length_toList] at e
    omega
theorem Inv.tuple (I : Inv X pins σ H s) (h : SqT X.K H a xs) : ∃ its : List Value, Vals xs its ∧ IsTup s.heap a its.toArray ∧ xs.length ≤ sizeLine := by
  rcases h with h | ⟨o, its, n, hk, hc, hs, hz, r⟩
  · obtain ⟨z, its, r, p⟩ := h.ok I.hok
    exact ⟨its, r, p, z⟩
  · refine ⟨its.toList, r, ⟨o, I.kIn a o hk, hc, n, by simpa using hs⟩, ?_⟩
    have e := r.length
    simp only [Array.length_toList] at e
    omega
theorem Inv.list_inj (I : Inv X pins σ H s) (h : SqL X.K H a xs) (h' : SqL X.K H a ys) : xs = ys := by
  obtain ⟨its, r, ⟨o, n, e, _, _, d⟩, _⟩ := I.list h
  obtain ⟨its', r', ⟨o', n', e', _, _, d'⟩, _⟩ := I.list h'
  rw [e] at e'; cases e'
  rw [d] at d'
  injection d' with d1 _
  have : its = its' := by simpa using congrArg Array.toList d1
  subst this
  exact r.inj r'
theorem Inv.tuple_inj (I : Inv X pins σ H s) (h : SqT X.K H a xs) (h' : SqT X.K H a ys) : xs = ys := by
  obtain ⟨its, r, ⟨o, e, _, n, d⟩, _⟩ := I.tuple h
  obtain ⟨its', r', ⟨o', e', _, n', d'⟩, _⟩ := I.tuple h'
  rw [e] at e'; cases e'
  rw [d] at d'
  injection d' with d1 _
  have : its = its' := by simpa using congrArg Array.toList d1
  subst this
  exact r.inj r'
end
noncomputable abbrev Cx.wish (X : Cx) (E : Value → Shared → Prop) : Cx := { X with xe := E }
noncomputable abbrev Cx.nox (X : Cx) : Cx := X.wish fun _ _ => False
theorem Cx.Ok.wish {X : Cx} (ok : X.Ok) (E : Value → Shared → Prop) : (X.wish E).Ok :=
  ⟨ok.mod, ok.kind, ok.glob, ok.blt, ok.above, ok.inj, ok.has, ok.cab, ok.hd, ok.frames, ok.stk, ok.exf, ok.bs, ok.bsz, ok.noex, ok.exfs, ok.funs, ok.frf⟩
theorem Cx.Ok.unwish {X : Cx} {E : Value → Shared → Prop} (ok : (X.wish E).Ok) : X.Ok :=
  ⟨ok.mod, ok.kind, ok.glob, ok.blt, ok.above, ok.inj, ok.has, ok.cab, ok.hd, ok.frames, ok.stk, ok.exf, ok.bs, ok.bsz, ok.noex, ok.exfs, ok.funs, ok.frf⟩
section
variable {X : Cx} {pins : List (Addr × Obj)} {σ : St} {H : Hp} {s : Shared} {E : Value → Shared → Prop}
theorem Inv.wish (I : Inv X pins σ H s) (E : Value → Shared → Prop) : Inv (X.wish E) pins σ H s := ⟨I.ok.wish E, I.os, I.bare, I.base, I.loc, I.cell, I.free, I.freeC, I.pin, I.hok, I.len⟩
theorem Inv.unwish (I : Inv (X.wish E) pins σ H s) : Inv X pins σ H s := ⟨I.ok.unwish, I.os, I.bare, I.base, I.loc, I.cell, I.free, I.freeC, I.pin, I.hok, I.len⟩
theorem SP.unwish {D : Ends} {f : Flow} {s' : Shared} (h : SP (X.wish E) pins D f s') : SP X pins D f s' := by
  cases f with
  | next => obtain ⟨σ', H', I, q⟩ := h; exact ⟨σ', H', I.unwish, q⟩
  | brk => obtain ⟨σ', H', I, q⟩ := h; exact ⟨σ', H', I.unwish, q⟩
  | cont => obtain ⟨σ', H', I, q⟩ := h; exact ⟨σ', H', I.unwish, q⟩
  | ret u => obtain ⟨v, σ', H', I, r, q⟩ := h; exact ⟨v, σ', H', I.unwish, r, q⟩
theorem PSs.nox {st : List Stmt} {t : TS} (h : PSs X.nox st t) : PSs X st t := fun pins s σ H D I hw =>
  wpAny_mono (h pins s σ H D (I.wish _) hw) (fun _ _ q => q.unwish) fun _ _ z => False.elim z
end
section
variable {X : Cx} {st : Stmt} {rest : List Stmt} {t u : TS} {e : Expr} {te : TE} {pos : Pos}
noncomputable def tNext : TS := fun D σ H => D.nx σ H
noncomputable def tSeq (t u : TS) : TS := fun D σ H => t { D with nx := u D } σ H
theorem pss_nil : PSs X [] tNext := fun _ _ σ H _ I h => wpAny_execs_nil ⟨σ, H, I, h⟩
theorem pss_cons (h1 : PS X st t) (h2 : PSs X rest u) : PSs X (st :: rest) (tSeq t u) := by
  intro pins s σ H D I h
  refine wpAny_execs_cons (thn (h1 pins s σ H { D with nx := u D } I h) fun f s1 q => ?_)
  cases f with
  | next =>
    obtain ⟨σ', H', I', q⟩ := q
    exact h2 pins s1 σ' H' D I' q
  | ret v => exact q
  | brk => exact q
  | cont => exact q
theorem pss_one (h1 : PS X st t) : PSs X [st] t := by
  intro pins s σ H D I h
  refine wpAny_execs_cons (thn (h1 pins s σ H D I h) fun f s1 q => ?_)
  cases f with
  | next => exact wpAny_execs_nil q
  | ret v => exact q
  | brk => exact q
  | cont => exact q
theorem Inv.quiet {pins : List (Addr × Obj)} {σ : St} {H : Hp} {s : Shared} (I : Inv X pins σ H s) : interactive X.env = false := by simp [interactive, I.ok.kind]
noncomputable def tDrop (te : TE) : TS := fun D σ H => te σ H fun _ H1 => D.nx σ H1
theorem ps_expr (he : PE X e te) (hs : swapsWith e none pos.line X.env = pure false := by rfl) : PS X (.Expr e pos) (tDrop te) := by
  intro pins s σ H D I h
  exact wpAny_Expr_any (thn (he pins s σ H _ I h) fun v s1 ⟨x, H1, I1, r1, q1⟩ => ⟨σ, H1, I1, q1⟩) I.quiet hs
noncomputable def tRet (te : TE) : TS := fun D σ H => te σ H D.rt
theorem ps_ret (he : PE X e te) : PS X (.Return (some e) pos) (tRet te) := by
  intro pins s σ H D I h
  exact wpAny_Return_some (thn (he pins s σ H _ I h) fun v s1 ⟨x, H1, I1, r1, q1⟩ => ⟨x, σ, H1, I1, r1, q1⟩)
noncomputable def tIfS (c : TT) (t u : TS) : TS := fun D σ H => c σ H fun b H1 => if b = true then t D σ H1 else u D σ H1
theorem ps_if {c : Expr} {a b : List Stmt} {tc : TT} (hc : PT X c tc) (ha : PSs X a t) (hb : PSs X b u) : PS X (.If c a b pos) (tIfS tc t u) := by
  intro pins s σ H D I h
  refine wpAny_If (thn (hc pins s σ H _ I h) fun d s1 ⟨H1, I1, q1⟩ => ?_)
  cases d with
  | true => exact ha pins s1 σ H1 D I1 q1
  | false => exact hb pins s1 σ H1 D I1 q1
end
noncomputable abbrev TG := V → St → Hp → (St → Hp → Prop) → Prop
noncomputable abbrev TGs := List V → St → Hp → (St → Hp → Prop) → Prop
noncomputable def PG (X : Cx) (target : Expr) (t : TG) : Prop :=
  ∀ (pins : List (Addr × Obj)) (s : Shared) (σ : St) (H : Hp) (v : V) (u : Value) (Q : St → Hp → Prop), Inv X pins σ H s → RelV v u → t v σ H Q →
    wpAny (model X.prog X.w) X.A (assign target X.env u) (fun _ s' => ∃ σ' H', Inv X pins σ' H' s' ∧ Q σ' H') X.xe s
noncomputable def PGs (X : Cx) (ts : List Expr) (t : TGs) : Prop :=
  ∀ (pins : List (Addr × Obj)) (s : Shared) (σ : St) (H : Hp) (vs : List V) (us : List Value) (Q : St → Hp → Prop), Inv X pins σ H s → Vals vs us → t vs σ H Q →
    wpAny (model X.prog X.w) X.A (assignInOrder ((assignEach ts X.env).map (·.2)) us) (fun _ s' => ∃ σ' H', Inv X pins σ' H' s' ∧ Q σ' H') X.xe s
noncomputable abbrev TSet := V → V → V → Hp → (Hp → Prop) → Prop
noncomputable def PSet (X : Cx) (t : TSet) : Prop :=
  ∀ (pins : List (Addr × Obj)) (s : Shared) (σ : St) (H : Hp) (o i v : V) (ov iv u : Value) (Q : Hp → Prop), Inv X pins σ H s → RelV o ov → RelV i iv → RelV v u → t o i v H Q →
    wpAny (model X.prog X.w) X.A (setItem ov iv u) (fun _ s' => ∃ H', Inv X pins σ H' s' ∧ Q H') X.xe s
section
variable {X : Cx} {pos : Pos}
noncomputable def gName (i : Nat) : TG := fun v σ H Q => Q (σ.set i (some v)) H
theorem pg_name {i : Nat} {x : Str} (hN : X.N.Nodup) (hi : X.N[i]? = some x) (hx : Loc X.env.scope x) (hf : X.fn x = true ∨ X.env.scope.names.lookup x = some .local := by first | exact .inl rfl | exact .inr rfl | assumption) : PG X (.Name x pos) (gName i) := by
  intro pins s σ H v u Q I r h
  exact wpAny_assign_Name (store_ok I hN hi hx r (fun s' I' => ⟨_, H, I', h⟩) hf)
noncomputable def gNil : TGs := fun vs σ H Q => vs = [] ∧ Q σ H
noncomputable def gCons (t : TG) (u : TGs) : TGs := fun vs σ H Q => ∃ v r, vs = v :: r ∧ t v σ H fun σ' H' => u r σ' H' Q
theorem pgs_nil : PGs X [] gNil := by
  intro pins s σ H vs us Q I r h
  obtain ⟨e, h⟩ := h
  subst e
  cases r
  exact assignInOrder_nil ⟨σ, H, I, h⟩
theorem pgs_cons {e : Expr} {es : List Expr} {t : TG} {u : TGs} (h1 : PG X e t) (h2 : PGs X es u)
    (hs : (assignEach (e :: es) X.env).map (·.2) = assign e X.env :: (assignEach es X.env).map (·.2) := by rfl) : PGs X (e :: es) (gCons t u) := by
  intro pins s σ H vs us Q I r h
  obtain ⟨v, vr, e1, h⟩ := h
  subst e1
  cases r with
  | cons r rr =>
    rw [hs]
    refine assignInOrder_cons (thn (h1 pins s σ H _ _ _ I r h) fun _ s1 ⟨σ1, H1, I1, q1⟩ => ?_)
    exact h2 pins s1 σ1 H1 _ _ Q I1 rr q1
noncomputable def gTup (K : PySem.W.Frag) (n : Nat) (t : TGs) : TG := fun v σ H Q => ∃ a xs, v = .ref a ∧ SqT K H a xs ∧ xs.length = n ∧ t xs σ H Q
theorem pg_tup {es : List Expr} {k : Nat} {t : TGs} {n : Nat} (hc : X.calm = true) (h : PGs X es t)
    (hn : (assignEach es X.env).length = n := by rfl) (hst : (assignEach es X.env).findIdx? (·.1) = none := by rfl) : PG X (.Tuple es k pos) (gTup X.K n t) := by
  intro pins s σ H v u Q I r hw
  obtain ⟨a, xs, e1, hq, hl, hw⟩ := hw
  subst e1
  cases r
  obtain ⟨its, rv, ht, hz⟩ := I.tuple hq
  refine assign_Tuple_tuple (I.ok.hd hc) ht (by simp [hn, ← hl, rv.length]) hst fun h' hx => ?_
  have I1 : Inv X pins σ H { s with heap := h' } := I.kept (t' := s.toks) fun b o e => hx b o (Nat.ne_of_lt (Heap.lt_size e)) e
  exact h pins _ σ H xs _ Q I1 (by simpa using rv) hw
noncomputable def gSub (to ti : TE) (t : TSet) : TG := fun v σ H Q => to σ H fun o H1 => ti σ H1 fun i H2 => t o i v H2 fun H3 => Q σ H3
theorem pg_sub {o i : Expr} {to ti : TE} {t : TSet} (ho : PE X o to) (hi : PE X i ti) (hs : PSet X t)
    (ha : ∀ v, assign (.Subscript o i pos) X.env v = (do
      let ov ← holding [v] (eval o X.env)
      let iv ← holding [v, ov] (eval i X.env)
      standAt pos
      holding [v, ov, iv] (setItem ov iv v)
      release [v, ov, iv] []) := by intro _; rfl) : PG X (.Subscript o i pos) (gSub to ti t) := by
  intro pins s σ H v u Q I r h
  rw [ha]
  refine wpAny_bind (wpAny_holding (thn (ho pins s σ H _ I h) fun ov s1 ⟨x, H1, I1, r1, q1⟩ => ?_))
  refine wpAny_bind (wpAny_holding (thn (hi pins s1 σ H1 _ I1 q1) fun iv s2 ⟨y, H2, I2, r2, q2⟩ => ?_))
  refine wpAny_bind (wpAny_standAt (wpAny_bind (wpAny_holding (thn (hs pins s2 σ H2 x y v ov iv u _ I2 r1 r2 r q2) fun _ s3 ⟨H3, I3, q3⟩ => ?_))))
  exact wpAny_release ⟨σ, H3, I3, q3⟩
noncomputable def tAsg (te : TE) (g : TG) : TS := fun D σ H => te σ H fun x H1 => g x σ H1 D.nx
theorem ps_asg {tg e : Expr} {te : TE} {g : TG} (he : PE X e te) (hg : PG X tg g) (hs : swapsWithSole [tg] e pos.line X.env = pure false := by rfl) (hw : swappedStores [tg] e X.env = pure none := by rfl)
    (h1 : (assignEach [tg] X.env).map (·.2) = [assign tg X.env] := by rfl) : PS X (.Assign [tg] e pos) (tAsg te g) := by
  intro pins s σ H D I h
  refine wpAny_Assign_stores (thn (he pins s σ H _ I h) fun v s1 ⟨x, H1, I1, r1, q1⟩ => ?_) hs hw
  rw [h1]
  exact thn (hg pins s1 σ H1 x v _ I1 r1 q1) fun _ s2 q => q
theorem ps_set {i : Nat} {x : Str} {e : Expr} {te : TE} {pos' : Pos} (hN : X.N.Nodup) (hi : X.N[i]? = some x) (hx : Loc X.env.scope x) (he : PE X e te) (hs : swapsWith e (some (.Name x pos')) pos.line X.env = pure false := by rfl) (hf : X.fn x = true ∨ X.env.scope.names.lookup x = some .local := by first | exact .inl rfl | exact .inr rfl | assumption) :
    PS X (.Assign [.Name x pos'] e pos) (tAsg te (gName i)) := by
  intro pins s σ H D I h
  refine wpAny_Assign_Name (thn (he pins s σ H _ I h) fun v s1 ⟨y, H1, I1, r1, q1⟩ => ?_) hs
  exact store_ok I1 hN hi hx r1 (fun s2 I2 => ⟨_, H1, I2, q1⟩) hf
end
section
variable {X : Cx} {pos : Pos}
noncomputable def tWhile (c : TT) (tb : TS) : TS := fun D σ H => ∃ W : Nat → St → Hp → Prop, (∃ m, W m σ H) ∧ ∀ m σ H, W m σ H →
  c σ H fun b H1 => if b = true then ∃ N : St → Hp → Prop, (∀ σ' H', N σ' H' → ∃ m', m' < m ∧ W m' σ' H') ∧ tb { D with nx := N, ct := N, bk := D.nx } σ H1 else D.nx σ H1
theorem ps_while {c : Expr} {body : List Stmt} {tc : TT} {tb : TS} (hp : PassesOwn (model X.prog X.w) X.A X.env X.xe) (hc : PT X c tc) (hb : PSs X body tb) : PS X (.While c body [] pos) (tWhile tc tb) := by
  intro pins s σ H D I h
  obtain ⟨W, ⟨m0, w0⟩, turn⟩ := h
  refine wpAny_While (codeAny_whileLoop (fun n s' => ∃ σ' H', Inv X pins σ' H' s' ∧ W n σ' H') ?_ m0 ⟨σ, H, I, w0⟩)
  rintro n s1 ⟨σ1, H1, I1, w1⟩
  refine wpAny_passesOwn hp (thn (hc pins s1 σ1 H1 _ I1 (turn n σ1 H1 w1)) fun b s2 ⟨H2, I2, q2⟩ => ?_)
  cases b with
  | true =>
    obtain ⟨N, hN, q2⟩ := q2
    rw [if_pos rfl]
    refine wpAny_passesOwn hp (thn (hb pins s2 σ1 H2 _ I2 q2) fun f s3 q3 => ?_)
    cases f with
    | next =>
      obtain ⟨σ3, H3, I3, n3⟩ := q3
      obtain ⟨m', hm, w3⟩ := hN σ3 H3 n3
      exact ⟨m', hm, σ3, H3, I3, w3⟩
    | cont =>
      obtain ⟨σ3, H3, I3, n3⟩ := q3
      obtain ⟨m', hm, w3⟩ := hN σ3 H3 n3
      exact ⟨m', hm, σ3, H3, I3, w3⟩
    | brk => exact q3
    | ret v => exact q3
  | false =>
    rw [if_neg Bool.false_ne_true]
    exact wpAny_execs_nil ⟨σ1, H2, I2, q2⟩
end
structure It where
  go : Nat → Hp → Prop
  yld : Nat → Hp → V → Hp → Prop
  stop : Nat → Hp → Prop
noncomputable def FpOk (X : Cx) (pins : List (Addr × Obj)) (H : Hp) (b : Addr) : Prop :=
  H b = none ∧ b ≠ X.env.locals ∧ b ∉ X.fs ∧ (b ∈ X.ex ∨ X.s₀.heap.objs.size ≤ b) ∧ (∀ x c, X.env.cells.lookup x = some c → c ≠ b) ∧ ∀ p ∈ X.pn ++ pins, p.1 ≠ b
theorem Inv.fpOk {X : Cx} {pins : List (Addr × Obj)} {σ : St} {H H' : Hp} {s : Shared} {b : Addr} (I : Inv X pins σ H s) (hb : s.heap.objs.size ≤ b) (hn : H' b = none) : FpOk X pins H' b := by
  refine ⟨hn, Nat.ne_of_gt (Nat.lt_of_lt_of_le I.lt hb), I.nofs hb, .inr (Nat.le_trans I.sz hb), fun x c e z => ?_, fun p hp z => ?_⟩
  · obtain ⟨v, q⟩ := I.cell x c e
    exact absurd (Nat.lt_of_lt_of_le q.lt (by rw [z]; exact hb)) (Nat.lt_irrefl _)
  · exact absurd (Nat.lt_of_lt_of_le (Heap.lt_size (I.pin p hp).1) (by rw [z]; exact hb)) (Nat.lt_irrefl _)
structure Turn (P : Program) (w : World) (K : PySem.W.Frag) (tg : Expr) (J : It) (fp : List Addr) (it : Addr) (tn : Nat → Heap → Prop) : Prop where
  mem : it ∈ fp
  obj : ∀ i h, tn i h → ∀ b ∈ fp, ∃ o, h.get? b = some o ∧ ∀ v, o.data ≠ .cell v
  keep : ∀ i h h', tn i h → (∀ b ∈ fp, ∀ o, h.get? b = some o → h'.get? b = some o) → tn i h'
  item : ∀ (X : Cx), X.prog = P → X.w = w → X.K = K → X.calm = true → ∀ (i : Nat) (pins : List (Addr × Obj)) (s : Shared) (σ : St) (H : Hp) (E : Value → Shared → Prop), Inv X pins σ H s → (∀ b ∈ fp, FpOk X pins H b) → tn i s.heap → J.go i H →
    wpAny (model P w) X.A (pyNext (.ref it)) (fun r s1 => ∃ u, r = some u ∧
      wpAny (model P w) X.A (letOwnedTupleGo tg (.ref it) u) (fun _ s2 => ∃ x H', Inv X pins σ H' s2 ∧ RelV x u ∧ J.yld i H x H' ∧ tn (i + 1) s2.heap ∧ ∀ b ∈ fp, H' b = none) E s1) E s
  done : ∀ (X : Cx), X.prog = P → X.w = w → X.K = K → X.calm = true → ∀ (i : Nat) (pins : List (Addr × Obj)) (s : Shared) (σ : St) (H : Hp) (E : Value → Shared → Prop), Inv X pins σ H s → (∀ b ∈ fp, FpOk X pins H b) → tn i s.heap → J.stop i H →
    wpAny (model P w) X.A (pyNext (.ref it)) (fun r s1 => r = none ∧ Inv X pins σ H s1) E s
  self : ∀ (A : Around) (i : Nat) (s : Shared) (Q : Value → Shared → Prop) (E : Value → Shared → Prop), tn i s.heap → Q (.ref it) s → wpAny (model P w) A (pyIter (.ref it)) Q E s
noncomputable abbrev TI := St → Hp → (It → Hp → Prop) → Prop
noncomputable def PIE (X : Cx) (pins : List (Addr × Obj)) (σ : St) (tg : Expr) (R : It → Hp → Prop) (itv : Value) (s2 : Shared) : Prop :=
  ∃ (it : Addr) (fp : List Addr) (tn : Nat → Heap → Prop) (J : It) (H' : Hp), itv = .ref it ∧ Inv X pins σ H' s2 ∧ Turn X.prog X.w X.K tg J fp it tn ∧ tn 0 s2.heap ∧ (∀ b ∈ fp, FpOk X pins H' b) ∧ R J H'
noncomputable def PI (X : Cx) (tg iter : Expr) (wi : TI) : Prop :=
  ∀ (pins : List (Addr × Obj)) (s : Shared) (σ : St) (H : Hp) (R : It → Hp → Prop), Inv X pins σ H s → wi σ H R →
    wpAny (model X.prog X.w) X.A (eval iter X.env) (fun v s1 => wpAny (model X.prog X.w) X.A (pyIter v) (PIE X pins σ tg R) X.xe s1) X.xe s
theorem go_of {M : Model} {A : Around} {E : Value → Shared → Prop} {s : Shared} {tg : Expr} {it : Addr} {u : Value} {o : Obj} {n : String} {vs : Array Value} {Q : Unit → Shared → Prop} (ho : s.heap.get? it = some o) (hc : o.cls = .type n) (hd : o.data = .fields vs)
    (hn : ["enumerate", "zip", "dict_itemiterator", "dict_reverseitemiterator", "odict_iterator", "itertools.zip_longest", "itertools.pairwise"].contains n = false) (hQ : Q () s) : wpAny M A (letOwnedTupleGo tg (.ref it) u) Q E s := by
  unfold letOwnedTupleGo
  cases tg <;> first
    | exact wpAny_pure hQ
    | (cases u <;> first
        | exact wpAny_pure hQ
        | (refine wpAny_bind (wpAny_load ho ?_)
           rw [hc, hd]
           show wpAny M A (if (["enumerate", "zip", "dict_itemiterator", "dict_reverseitemiterator", "odict_iterator", "itertools.zip_longest", "itertools.pairwise"].contains n && vs[0]? == some (rawInt _)) = true then _ else _) Q E s
           rw [if_neg (by intro h; rw [hn, Bool.false_and] at h; cases h)]
           exact wpAny_pure hQ))
noncomputable def Itl (K : PySem.W.Frag) (a : Addr) : It :=
  ⟨fun i H => ∃ xs x, SqL K H a xs ∧ xs[i]? = some x, fun i H x H' => H' = H ∧ ∀ xs, SqL K H a xs → xs[i]? = some x, fun i H => ∃ xs, SqL K H a xs ∧ xs.length ≤ i⟩
noncomputable def Itt (K : PySem.W.Frag) (a : Addr) : It :=
  ⟨fun i H => ∃ xs x, SqT K H a xs ∧ xs[i]? = some x, fun i H x H' => H' = H ∧ ∀ xs, SqT K H a xs → xs[i]? = some x, fun i H => ∃ xs, SqT K H a xs ∧ xs.length ≤ i⟩
noncomputable def Itr (lo : Int) (n : Nat) : It := ⟨fun i _ => i < n, fun i H x H' => H' = H ∧ x = .int (lo + i), fun i _ => n ≤ i⟩
theorem turn_list {P : Program} {w : World} {K : PySem.W.Frag} {tg : Expr} (a it : Addr) : Turn P w K tg (Itl K a) [it] it (fun i h => h.IsListIter it a i) where
  mem := by simp
  obj := fun i h st b hb => by
    have e : b = it := by simpa using hb
    subst e
    obtain ⟨o, e, c, d⟩ := st
    exact ⟨o, e, fun v z => by rw [d] at z; cases z⟩
  keep := fun i h h' st k => st.at fun o e => k it (by simp) o e
  item := by
    intro X hP hw hK hc i pins s σ H E I hf st hg
    subst hP hw hK
    obtain ⟨xs, x, hq, hx⟩ := hg
    obtain ⟨its, rv, p, hz⟩ := I.list hq
    obtain ⟨u, hu, ru⟩ := rv.get hx
    obtain ⟨f0, f1, f2, f3, f4, f5⟩ := hf it (by simp)
    refine wpAny_pyNext_list_item st p.isList (x := u) (by simpa using hu) fun h' st' sb => ?_
    have I1 : Inv X pins σ H { s with heap := h' } := I.turned (t' := s.toks) (fun b o hb e => (sb.2 b hb).trans e) f0 f1 f3 f4 f5
    obtain ⟨o, e, c, d⟩ := id st'
    exact ⟨u, rfl, go_of (s := { s with heap := h' }) e c d (by decide) ⟨x, H, I1, ru, ⟨rfl, fun ys hy => by rw [I.list_inj hy hq]; exact hx⟩, st', fun b hb => (hf b hb).1⟩⟩
  done := by
    intro X hP hw hK hc i pins s σ H E I hf st hg
    subst hP hw hK
    obtain ⟨xs, hq, hx⟩ := hg
    obtain ⟨its, rv, p, hz⟩ := I.list hq
    obtain ⟨f0, f1, f2, f3, f4, f5⟩ := hf it (by simp)
    have hl := rv.length
    exact wpAny_pyNext_list_end (I.ok.hd hc) st p.isList (by simp; omega) fun h' eb => ⟨rfl, I.turned (t' := s.toks) (fun b o hb e => eb b o hb e) f0 f1 f3 f4 f5⟩
  self := fun _ _ _ _ _ st h => wpAny_pyIter_listiter st h
theorem turn_tuple {P : Program} {w : World} {K : PySem.W.Frag} {tg : Expr} (a it : Addr) : Turn P w K tg (Itt K a) [it] it (fun i h => h.IsTupleIter it a i) where
  mem := by simp
  obj := fun i h st b hb => by
    have e : b = it := by simpa using hb
    subst e
    obtain ⟨o, e, c, d⟩ := st
    exact ⟨o, e, fun v z => by rw [d] at z; cases z⟩
  keep := fun i h h' st k => st.at fun o e => k it (by simp) o e
  item := by
    intro X hP hw hK hc i pins s σ H E I hf st hg
    subst hP hw hK
    obtain ⟨xs, x, hq, hx⟩ := hg
    obtain ⟨its, rv, p, hz⟩ := I.tuple hq
    obtain ⟨u, hu, ru⟩ := rv.get hx
    obtain ⟨f0, f1, f2, f3, f4, f5⟩ := hf it (by simp)
    refine wpAny_pyNext_tuple_item st (show s.heap.IsTuple a its.toArray from p) (x := u) (by simpa using hu) fun h' st' sb => ?_
    have I1 : Inv X pins σ H { s with heap := h' } := I.turned (t' := s.toks) (fun b o hb e => (sb.2 b hb).trans e) f0 f1 f3 f4 f5
    obtain ⟨o, e, c, d⟩ := id st'
    exact ⟨u, rfl, go_of (s := { s with heap := h' }) e c d (by decide) ⟨x, H, I1, ru, ⟨rfl, fun ys hy => by rw [I.tuple_inj hy hq]; exact hx⟩, st', fun b hb => (hf b hb).1⟩⟩
  done := by
    intro X hP hw hK hc i pins s σ H E I hf st hg
    subst hP hw hK
    obtain ⟨xs, hq, hx⟩ := hg
    obtain ⟨its, rv, p, hz⟩ := I.tuple hq
    obtain ⟨f0, f1, f2, f3, f4, f5⟩ := hf it (by simp)
    have hl := rv.length
    exact wpAny_pyNext_tuple_end (I.ok.hd hc) st (show s.heap.IsTuple a its.toArray from p) (by simp; omega) fun h' eb => ⟨rfl, I.turned (t' := s.toks) (fun b o hb e => eb b o hb e) f0 f1 f3 f4 f5⟩
  self := fun _ _ _ _ _ st h => wpAny_pyIter_tupleiter st h
theorem turn_range {P : Program} {w : World} {K : PySem.W.Frag} {tg : Expr} (it : Addr) (lo : Int) (n : Nat) : Turn P w K tg (Itr lo n) [it] it (fun i h => IsRangeIter h it (lo + (i : Nat) * 1) ((n : Int) - (i : Nat)) 1) where
  mem := by simp
  obj := fun i h st b hb => by
    have e : b = it := by simpa using hb
    subst e
    exact ⟨_, st, fun v z => by
      have z' : Data.fields _ = Data.cell v := z
      cases z'⟩
  keep := fun i h h' st k => k it (by simp) _ st
  item := by
    intro X hP hw hK hc i pins s σ H E I hf st hg
    subst hP hw hK
    obtain ⟨f0, f1, f2, f3, f4, f5⟩ := hf it (by simp)
    have W := Walks.range (prog := X.prog) (w := X.w) (I.ok.hd hc) it lo 1 n
    refine W.item i s _ _ hg st fun v h' tk hv st' kk => ?_
    obtain ⟨t, rfl⟩ := hv
    have I1 : Inv X pins σ H { s with heap := h', toks := tk } := I.turned (fun b o hb e => kk b o (by simpa using hb) e) f0 f1 f3 f4 f5
    refine ⟨_, rfl, go_of (s := { s with heap := h', toks := tk }) (n := "range_iterator") st' rfl rfl (by decide) ⟨.int (lo + i), H, I1, ⟨t, ?_⟩, ⟨rfl, rfl⟩, st', fun b hb => (hf b hb).1⟩⟩
    rw [Int.mul_one]
  done := by
    intro X hP hw hK hc i pins s σ H E I hf st hg
    subst hP hw hK
    obtain ⟨f0, f1, f2, f3, f4, f5⟩ := hf it (by simp)
    exact wpAny_pyNext_range_end (I.ok.hd hc) st (by have : n ≤ i := hg; omega) fun h' eb => ⟨rfl, I.turned (t' := s.toks) (fun b o hb e => eb b o hb e) f0 f1 f3 f4 f5⟩
  self := fun _ _ _ _ _ st h => wpAny_pyIter_rangeiter st h
end L2
namespace L2
open PySem PySem.Spec PyProof.Rows
section
variable {X : Cx} {tg : Expr}
noncomputable def iList (K : PySem.W.Frag) (tl : TE) : TI := fun σ H R => tl σ H fun x H1 => ∃ a, x = .ref a ∧ (∃ xs, SqL K H1 a xs) ∧ R (Itl K a) H1
theorem pi_list {l : Expr} {tl : TE} (hl : PE X l tl) : PI X tg l (iList X.K tl) := by
  intro pins s σ H R I h
  refine thn (hl pins s σ H _ I h) fun v s1 ⟨x, H1, I1, r1, q1⟩ => ?_
  obtain ⟨a, e, ⟨xs, hq⟩, q⟩ := q1
  subst e
  cases r1
  obtain ⟨its, rv, p, hz⟩ := I1.list hq
  refine wpAny_pyIter_list p.isList ?_
  refine ⟨s1.heap.objs.size, [s1.heap.objs.size], _, _, H1, rfl, I1.kept (t' := s1.toks) fun b o e => Heap.get?_push_of_some _ e, turn_list a _, ⟨_, Heap.get?_push_size _ rfl, rfl, rfl⟩, fun b hb => ?_, q⟩
  have e : b = s1.heap.objs.size := by simpa using hb
  subst e
  exact I1.fpOk (Nat.le_refl _) (I1.hok.fresh (Nat.le_refl _))
theorem range_it {pins : List (Addr × Obj)} {σ : St} {H : Hp} {s : Shared} {R : It → Hp → Prop} {E : Value → Shared → Prop} {lo hi : Int} {t u v : Tok} {tk : Nat} (I : Inv X pins σ H s) (h1 : -(2 ^ 62) ≤ lo) (h2 : lo < 2 ^ 62) (h3 : -(2 ^ 62) ≤ hi) (h4 : hi < 2 ^ 62)
    (q : R (Itr lo (hi - lo).toNat) H) : wpAny (model X.prog X.w) X.A (pyIter (.ref s.heap.objs.size)) (PIE X pins σ tg R) E { s with heap := s.heap.push { cls := .type "range", data := .fields #[.int lo t, .int hi u, .int 1 v] }, toks := tk } := by
  refine wpAny_pyIter_range (IsRange.new ..) (small_one h1 h2 h3 h4) ?_
  have I1 : Inv X pins σ H { s with heap := s.heap.push { cls := .type "range", data := .fields #[.int lo t, .int hi u, .int 1 v] }, toks := tk } := I.kept fun b o e => Heap.get?_push_of_some _ e
  refine ⟨(s.heap.push { cls := .type "range", data := .fields #[.int lo t, .int hi u, .int 1 v] }).objs.size, [(s.heap.push { cls := .type "range", data := .fields #[.int lo t, .int hi u, .int 1 v] }).objs.size], _, _, H, rfl,
    I1.kept (t' := tk) fun b o e => Heap.get?_push_of_some _ e, turn_range _ lo (hi - lo).toNat, ?_, fun b hb => ?_, q⟩
  · have e1 : lo + ((0 : Nat) : Int) * 1 = lo := by simp
    have e2 : (((hi - lo).toNat : Nat) : Int) - ((0 : Nat) : Int) = Builtin.Range.rangeSize lo hi 1 := by rw [rangeSize_one]; split <;> omega
    show IsRangeIter _ _ (lo + ((0 : Nat) : Int) * 1) ((((hi - lo).toNat : Nat) : Int) - ((0 : Nat) : Int)) 1
    rw [e1, e2]
    exact Heap.get?_push_size _ rfl
  · have e : b = (s.heap.push { cls := .type "range", data := .fields #[.int lo t, .int hi u, .int 1 v] }).objs.size := by simpa using hb
    subst e
    exact I1.fpOk (Nat.le_refl _) (I1.hok.fresh (Nat.le_refl _))
noncomputable def iRng1 (ta : TA) : TI := fun σ H R => ta σ H fun vs H1 => ∃ j : Int, vs = [.int j] ∧ -(2 ^ 62) ≤ j ∧ j < 2 ^ 62 ∧ R (Itr 0 j.toNat) H1
theorem pi_range1 {a : Expr} {ta : TA} {p pos : Pos} (hg : Gl X "range") (hm : X.mg "range" = none) (ha : PA X [a] ta) (hs : starEach [a] X.env = [(false, eval a X.env)] := by rfl) : PI X tg (.Call (.Name "range" p) [a] [] pos) (iRng1 ta) := by
  intro pins s σ H R I h
  refine Call_ (ld_blt I hg hm boot_range (PyProof.Rows.callWith_type1 (thn (ha pos pins s σ H _ I h) fun us s1 ⟨vs, H1, I1, r1, q1⟩ => ?_) hs rfl))
  obtain ⟨j, e, q1, q2, q⟩ := q1
  subst e
  cases r1 with
  | cons r rr =>
    cases rr
    obtain ⟨t, rfl⟩ := r
    exact call_range_1 (range_it I1 (by omega) (by omega) q1 q2 (by simpa using q))
noncomputable def tFor (wi : TI) (g : TG) (tb : TS) : TS := fun D σ H => wi σ H fun J H1 => ∃ W : Nat → Nat → St → Hp → Prop, (∃ m, W 0 m σ H1) ∧ ∀ i m σ H, W i m σ H →
  (J.stop i H ∧ D.nx σ H) ∨ (J.go i H ∧ ∃ N : St → Hp → Prop, (∀ σ' H', N σ' H' → ∃ m', m' < m ∧ W (i + 1) m' σ' H') ∧ ∀ x H', J.yld i H x H' → g x σ H' fun σ2 H2 => tb { D with nx := N, ct := N, bk := D.nx } σ2 H2)
noncomputable def pinsAt (fp : List Addr) (h : Heap) : List (Addr × Obj) := fp.filterMap fun b => (h.get? b).map fun o => (b, o)
theorem mem_pinsAt {fp : List Addr} {h : Heap} {b : Addr} {o : Obj} (hb : b ∈ fp) (e : h.get? b = some o) : (b, o) ∈ pinsAt fp h := List.mem_filterMap.mpr ⟨b, hb, by rw [e]; rfl⟩
theorem of_pinsAt {fp : List Addr} {h : Heap} {p : Addr × Obj} (hp : p ∈ pinsAt fp h) : p.1 ∈ fp ∧ h.get? p.1 = some p.2 := by
  obtain ⟨b, hb, e⟩ := List.mem_filterMap.mp hp
  cases q : h.get? b with
  | none => rw [q] at e; cases e
  | some o =>
    rw [q] at e
    have e' : (b, o) = p := Option.some.inj e
    subst e'
    exact ⟨hb, q⟩
theorem Inv.pinned {pins : List (Addr × Obj)} {σ : St} {H : Hp} {s : Shared} {fp : List Addr} (I : Inv X pins σ H s) (hf : ∀ b ∈ fp, FpOk X pins H b) (ho : ∀ b ∈ fp, ∃ o, s.heap.get? b = some o ∧ ∀ v, o.data ≠ .cell v) : Inv X (pins ++ pinsAt fp s.heap) σ H s :=
  I.pins_of fun p hp => (List.mem_append.mp hp).elim (fun z => I.pin p (List.mem_append_right _ z)) fun z => by
    obtain ⟨hb, e⟩ := of_pinsAt z
    obtain ⟨f0, f1, f2, _⟩ := hf p.1 hb
    obtain ⟨o, e', d⟩ := ho p.1 hb
    rw [e] at e'; cases e'
    exact ⟨e, f0, f1, f2, d⟩
theorem Inv.unpinned {pins pl : List (Addr × Obj)} {σ : St} {H : Hp} {s : Shared} (I : Inv X (pins ++ pl) σ H s) : Inv X pins σ H s := I.pins_of fun p hp => I.pin p (List.mem_append_right _ (List.mem_append_left _ hp))
theorem ps_for {iter : Expr} {body : List Stmt} {wi : TI} {g : TG} {tb : TS} {pos : Pos} (hp : PassesOwn (model X.prog X.w) X.A X.env X.xe) (hc : X.calm = true) (hi : PI X tg iter wi) (hg : PG X tg g) (hb : PSs X body tb)
    (hs : ∀ x, foldedSetIterable iter X.env x = pure x := by intro _; rfl) : PS X (.For tg iter body [] pos) (tFor wi g tb) := by
  intro pins s σ H D I h
  refine wpAny_For (thn (hi pins s σ H _ I h) fun v s1 h1 => thn h1 fun itv s2 h2 => ?_) hs
  obtain ⟨it, fp, tn, J, H2, e, I2, T, st2, f2, W, ⟨m0, w0⟩, turn⟩ := h2
  subst e
  have stat : ∀ {H' : Hp}, (∀ b ∈ fp, H' b = none) → ∀ b ∈ fp, FpOk X pins H' b := fun hn b hb => ⟨hn b hb, (f2 b hb).2⟩
  refine codeAny_forLoop_any (fun n s' => ∃ i σ' H', Inv X pins σ' H' s' ∧ tn i s'.heap ∧ (∀ b ∈ fp, H' b = none) ∧ W i n σ' H') ?_ m0 ⟨0, σ, H2, I2, st2, fun b hb => (f2 b hb).1, w0⟩
  rintro n s3 ⟨i, σ3, H3, I3, st3, fr3, w3⟩
  rcases turn i n σ3 H3 w3 with ⟨stop, qn⟩ | ⟨go, N, hN, step⟩
  · refine wpAny_passesOwn hp (thn (T.done X rfl rfl rfl hc i pins s3 σ3 H3 X.xe I3 (stat fr3) st3 stop) fun r s4 ⟨hr, I4⟩ => ?_)
    subst hr
    exact wpAny_execs_nil ⟨σ3, H3, I4, qn⟩
  · refine wpAny_passesOwn hp (thn (T.item X rfl rfl rfl hc i pins s3 σ3 H3 X.xe I3 (stat fr3) st3 go) fun r s4 ⟨u, hr, h4⟩ => ?_)
    subst hr
    refine wpAny_passesOwn hp (thn h4 fun _ s5 ⟨x, H5, I5, r5, y5, st5, fr5⟩ => ?_)
    have I5' := I5.pinned (stat fr5) (T.obj _ _ st5)
    refine wpAny_passesOwn hp (thn (hg _ s5 σ3 H5 x u _ I5' r5 (step x H5 y5)) fun _ s6 ⟨σ6, H6, I6, q6⟩ => ?_)
    refine wpAny_passesOwn hp (thn (hb _ s6 σ6 H6 _ I6 q6) fun f s7 q7 => ?_)
    have again : ∀ {σ7 : St} {H7 : Hp}, Inv X (pins ++ pinsAt fp s5.heap) σ7 H7 s7 → N σ7 H7 → ∃ m, m < n ∧ ∃ i σ' H', Inv X pins σ' H' s7 ∧ tn i s7.heap ∧ (∀ b ∈ fp, H' b = none) ∧ W i m σ' H' := fun {σ7 H7} I7 n7 => by
      obtain ⟨m', hm, w7⟩ := hN σ7 H7 n7
      refine ⟨m', hm, i + 1, σ7, H7, I7.unpinned, T.keep _ _ _ st5 fun b hb o e => (I7.pin (b, o) (List.mem_append_right _ (List.mem_append_right _ (mem_pinsAt hb e)))).1, fun b hb => ?_, w7⟩
      obtain ⟨o, e, d⟩ := T.obj _ _ st5 b hb
      exact (I7.pin (b, o) (List.mem_append_right _ (List.mem_append_right _ (mem_pinsAt hb e)))).2.1
    cases f with
    | next => obtain ⟨σ7, H7, I7, n7⟩ := q7; exact again I7 n7
    | cont => obtain ⟨σ7, H7, I7, n7⟩ := q7; exact again I7 n7
    | brk => obtain ⟨σ7, H7, I7, q7⟩ := q7; exact ⟨σ7, H7, I7.unpinned, q7⟩
    | ret v => obtain ⟨x7, σ7, H7, I7, r7, q7⟩ := q7; exact ⟨x7, σ7, H7, I7.unpinned, r7, q7⟩
end
theorem for_range {lo : Int} {n : Nat} {g : TG} {tb : TS} {D : Ends} {σ : St} {H : Hp} (Pv : Nat → St → Hp → Prop) (h0 : Pv 0 σ H)
    (hs : ∀ i σ H, i < n → Pv i σ H → g (.int (lo + i)) σ H fun σ2 H2 => tb { D with nx := Pv (i + 1), ct := Pv (i + 1), bk := D.nx } σ2 H2) (hd : ∀ σ H, Pv n σ H → D.nx σ H) :
    ∃ W : Nat → Nat → St → Hp → Prop, (∃ m, W 0 m σ H) ∧ ∀ i m σ H, W i m σ H →
      ((Itr lo n).stop i H ∧ D.nx σ H) ∨ ((Itr lo n).go i H ∧ ∃ N : St → Hp → Prop, (∀ σ' H', N σ' H' → ∃ m', m' < m ∧ W (i + 1) m' σ' H') ∧ ∀ x H', (Itr lo n).yld i H x H' → g x σ H' fun σ2 H2 => tb { D with nx := N, ct := N, bk := D.nx } σ2 H2) := by
  refine ⟨fun i m σ H => m = n - i ∧ i ≤ n ∧ Pv i σ H, ⟨n, by simp, Nat.zero_le _, h0⟩, ?_⟩
  rintro i m σ H ⟨rfl, hi, p⟩
  by_cases hlt : i < n
  · refine .inr ⟨hlt, Pv (i + 1), fun σ' H' p' => ⟨n - (i + 1), by omega, rfl, hlt, p'⟩, fun x H' y => ?_⟩
    obtain ⟨e, y⟩ := y
    subst e y
    exact hs i σ _ hlt p
  · have e : i = n := by omega
    subst e
    exact .inl ⟨Nat.le_refl _, hd σ H p⟩
end L2
namespace L2
open PySem PySem.Spec PyProof.Rows
noncomputable abbrev R2 := V → V → Hp → VK → Prop
noncomputable def OpR (X : Cx) (f : Value → Value → Sem Value) (r : R2) : Prop :=
  ∀ (pins : List (Addr × Obj)) (s : Shared) (σ : St) (H : Hp) (x y : V) (v u : Value) (Q : VK), Inv X pins σ H s → RelV x v → RelV y u → r x y H Q →
    wpAny (model X.prog X.w) X.A (f v u) (EP X pins σ Q) X.xe s
noncomputable def UnR (X : Cx) (f : Value → Sem Value) (r : V → Hp → VK → Prop) : Prop :=
  ∀ (pins : List (Addr × Obj)) (s : Shared) (σ : St) (H : Hp) (x : V) (v : Value) (Q : VK), Inv X pins σ H s → RelV x v → r x H Q →
    wpAny (model X.prog X.w) X.A (f v) (EP X pins σ Q) X.xe s
noncomputable def CallR (X : Cx) (f : Value) (r : List V → Hp → VK → Prop) : Prop :=
  ∀ (pins : List (Addr × Obj)) (s : Shared) (σ : St) (H : Hp) (xs : List V) (us : List Value) (Q : VK), Inv X pins σ H s → Vals xs us → r xs H Q →
    wpAny (model X.prog X.w) X.A (call f us) (EP X pins σ Q) X.xe s
noncomputable def TruR (X : Cx) (r : V → Hp → (Bool → Hp → Prop) → Prop) : Prop :=
  ∀ (pins : List (Addr × Obj)) (s : Shared) (σ : St) (H : Hp) (x : V) (v : Value) (Q : Bool → Hp → Prop), Inv X pins σ H s → RelV x v → r x H Q →
    wpAny (model X.prog X.w) X.A (truthy v) (TP X pins σ Q) X.xe s
noncomputable def tOp (r : R2) (ta tb : TE) : TE := fun σ H Q => ta σ H fun x H1 => tb σ H1 fun y H2 => r x y H2 Q
noncomputable def tUn (r : V → Hp → VK → Prop) (ta : TE) : TE := fun σ H Q => ta σ H fun x H1 => r x H1 Q
noncomputable def rI (C : Int → Int → Prop) (g : Int → Int → V) : R2 := fun x y H Q => ∃ i j, x = .int i ∧ y = .int j ∧ C i j ∧ Q (g i j) H
noncomputable def rI0 (g : Int → Int → V) : R2 := fun x y H Q => ∃ i j, x = .int i ∧ y = .int j ∧ Q (g i j) H
noncomputable def rU (g : Int → V) : V → Hp → VK → Prop := fun x H Q => ∃ i, x = .int i ∧ Q (g i) H
section
variable {X : Cx} {a b c : Expr} {ta tb tc : TE} {pos : Pos}
theorem binT (ha : PE X a ta) (hb : PE X b tb) {pins : List (Addr × Obj)} {s : Shared} {σ : St} {H : Hp} {R : V → V → Hp → Prop} (I : Inv X pins σ H s)
    (h : ta σ H fun x H1 => tb σ H1 fun y H2 => R x y H2) {Q : Value → Shared → Prop} {f : Value → Value → Sem Value}
    (hf : ∀ v u s2 x y H2, Inv X pins σ H2 s2 → RelV x v → RelV y u → R x y H2 → wpAny (model X.prog X.w) X.A (f v u) Q X.xe s2) :
    wpAny (model X.prog X.w) X.A (eval a X.env) (fun v s₁ => wpAny (model X.prog X.w) X.A (eval b X.env) (fun u s₂ => wpAny (model X.prog X.w) X.A (f v u) Q X.xe s₂) X.xe s₁) X.xe s := by
  refine thn (ha pins s σ H _ I h) fun v s1 ⟨x, H1, I1, r1, q1⟩ => ?_
  refine thn (hb pins s1 σ H1 _ I1 q1) fun u s2 ⟨y, H2, I2, r2, q2⟩ => ?_
  exact hf v u s2 x y H2 I2 r1 r2 q2
theorem pe_op {op : Operator} {r : R2} (ho : OpR X (binaryOp op) r) (ha : PE X a ta) (hb : PE X b tb) : PE X (.BinOp a op b pos) (tOp r ta tb) := by
  intro pins s σ H Q I h
  exact wpAny_BinOp (binT ha hb I h fun v u s2 x y H2 I2 rx ry q => ho pins s2 σ H2 x y v u Q I2 rx ry q)
theorem pe_un {op : UnaryOp} {r : V → Hp → VK → Prop} (ho : UnR X (unaryOp op) r) (ha : PE X a ta) : PE X (.UnaryOp op a pos) (tUn r ta) := by
  intro pins s σ H Q I h
  exact UnaryOp_ (thn (ha pins s σ H _ I h) fun v s1 ⟨x, H1, I1, r1, q1⟩ => ho pins s1 σ H1 x v Q I1 r1 q1)
theorem opI {f : Value → Value → Sem Value} {C : Int → Int → Prop} {g : Int → Int → Int}
    (rule : ∀ (i j : Int) (t u : Tok) (s : Shared) (Q : Value → Shared → Prop) (E : Value → Shared → Prop), C i j → Q (.int (g i j) s.toks) { s with toks := s.toks + 1 } → wpAny (model X.prog X.w) X.A (f (.int i t) (.int j u)) Q E s) :
    OpR X f (rI C fun i j => .int (g i j)) := by
  intro pins s σ H x y v u Q I rx ry h
  obtain ⟨i, j, rfl, rfl, hc, q⟩ := h
  obtain ⟨t, rfl⟩ := rx
  obtain ⟨t', rfl⟩ := ry
  exact rule i j t t' s _ _ hc ⟨.int (g i j), H, I.tok _, ⟨_, rfl⟩, q⟩
theorem opI0 {f : Value → Value → Sem Value} {g : Int → Int → Int}
    (rule : ∀ (i j : Int) (t u : Tok) (s : Shared) (Q : Value → Shared → Prop) (E : Value → Shared → Prop), Q (.int (g i j) s.toks) { s with toks := s.toks + 1 } → wpAny (model X.prog X.w) X.A (f (.int i t) (.int j u)) Q E s) :
    OpR X f (rI0 fun i j => .int (g i j)) := by
  intro pins s σ H x y v u Q I rx ry h
  obtain ⟨i, j, rfl, rfl, q⟩ := h
  obtain ⟨t, rfl⟩ := rx
  obtain ⟨t', rfl⟩ := ry
  exact rule i j t t' s _ _ ⟨.int (g i j), H, I.tok _, ⟨_, rfl⟩, q⟩
theorem opB0 {f : Value → Value → Sem Value} {g : Int → Int → Bool}
    (rule : ∀ (i j : Int) (t u : Tok) (s : Shared) (Q : Value → Shared → Prop) (E : Value → Shared → Prop), Q (.bool (g i j)) s → wpAny (model X.prog X.w) X.A (f (.int i t) (.int j u)) Q E s) :
    OpR X f (rI0 fun i j => .bl (g i j)) := by
  intro pins s σ H x y v u Q I rx ry h
  obtain ⟨i, j, rfl, rfl, q⟩ := h
  obtain ⟨t, rfl⟩ := rx
  obtain ⟨t', rfl⟩ := ry
  exact rule i j t t' s _ _ ⟨.bl (g i j), H, I, rfl, q⟩
noncomputable def CDiv (i j : Int) : Prop := 0 < j ∧ j < 1073741824
noncomputable def CMul (i j : Int) : Prop := (-(2 ^ 64) < i ∧ i < 2 ^ 64) ∨ (-(2 ^ 64) < j ∧ j < 2 ^ 64)
theorem CMul.ok {i j : Int} (h : CMul i j) : IntMulOk i j := by
  rcases h with ⟨h1, h2⟩ | ⟨h1, h2⟩
  · exact .of_left (intBits_le_64 h1 h2)
  · exact .of_right (intBits_le_64 h1 h2)
theorem op_add : OpR X (binaryOp .Add) (rI0 fun i j => .int (i + j)) := opI0 fun _ _ _ _ _ _ _ q => add_int q
theorem op_sub : OpR X (binaryOp .Sub) (rI0 fun i j => .int (i - j)) := opI0 fun _ _ _ _ _ _ _ q => sub_int q
theorem op_mul : OpR X (binaryOp .Mult) (rI CMul fun i j => .int (i * j)) := opI fun _ _ _ _ _ _ _ hc q => mul_int q hc.ok
theorem op_fdiv : OpR X (binaryOp .FloorDiv) (rI CDiv fun i j => .int (i / j)) := opI fun i j _ _ _ _ _ hc q => by
  have h1 : (0 : Int) < j := hc.1
  have h2 : j < 1073741824 := hc.2
  exact floordiv_int (by omega) (by rw [Int.fdiv_eq_ediv_of_nonneg i (by omega)]; exact q) (.inl (PyProof.noPylong_small (by omega)))
theorem op_mod : OpR X (binaryOp .Mod) (rI (fun _ j => 0 < j) fun i j => .int (i % j)) := opI fun i j _ _ _ _ _ hc q => by
  have h1 : (0 : Int) < j := hc
  exact mod_int' (by omega) (by rw [Int.fmod_eq_emod_of_nonneg i (by omega)]; exact q)
theorem unI {f : Value → Sem Value} {g : Int → Int}
    (rule : ∀ (i : Int) (t : Tok) (s : Shared) (Q : Value → Shared → Prop) (E : Value → Shared → Prop), Q (.int (g i) s.toks) { s with toks := s.toks + 1 } → wpAny (model X.prog X.w) X.A (f (.int i t)) Q E s) :
    UnR X f (rU fun i => .int (g i)) := by
  intro pins s σ H x v Q I rx h
  obtain ⟨i, rfl, q⟩ := h
  obtain ⟨t, rfl⟩ := rx
  exact rule i t s _ _ ⟨.int (g i), H, I.tok _, ⟨_, rfl⟩, q⟩
theorem un_neg : UnR X (unaryOp .USub) (rU fun i => .int (-i)) := unI fun _ _ _ _ _ q => neg_int q
end
noncomputable def scal : V → V → Bool
  | .non, .non => true | .non, .int _ => true | .int _, .non => true | .non, .bl _ => true | .bl _, .non => true | .non, .str _ => true | .str _, .non => true
  | .int _, .int _ => true | .bl _, .bl _ => true | .str _, .str _ => true | .byt _, .byt _ => true
  | .int _, .str _ => true | .str _, .int _ => true | .bl _, .str _ => true | .str _, .bl _ => true
  | _, _ => false
noncomputable def rEq : R2 := fun x y H Q => scal x y = true ∧ Q (.bl (decide (x = y))) H
noncomputable def rNe : R2 := fun x y H Q => scal x y = true ∧ Q (.bl (!decide (x = y))) H
theorem dec_int {i j : Int} : decide (V.int i = V.int j) = (i == j) := by
  rw [Bool.eq_iff_iff]
  simp
theorem dec_bl {i j : Bool} : decide (V.bl i = V.bl j) = (i == j) := by
  rw [Bool.eq_iff_iff]
  simp
theorem dec_str {i j : Str} : decide (V.str i = V.str j) = (i == j) := by
  rw [Bool.eq_iff_iff]
  simp
theorem dec_byt {i j : Array UInt8} : decide (V.byt i = V.byt j) = (i.toList == j.toList) := by
  rw [Bool.eq_iff_iff]
  cases i
  cases j
  simp
section
variable {X : Cx} {a b c : Expr} {ta tb tc : TE} {pos : Pos}
theorem fin_bl {pins : List (Addr × Obj)} {σ : St} {H : Hp} {s : Shared} {Q : VK} {k k' : Bool} (I : Inv X pins σ H s) (q : Q (.bl k) H) (e : k = k') : EP X pins σ Q (.bool k') s := by
  subst e
  exact ⟨.bl k, H, I, rfl, q⟩
theorem op_eq : OpR X (compareOp .Eq) rEq := by
  intro pins s σ H x y v u Q I rx ry h
  obtain ⟨hs, q⟩ := h
  cases x with
  | non =>
    cases rx
    cases y with
    | non => cases ry; exact PySem.EqNone.eq_none_none (fin_bl I q (by simp))
    | bl j => cases ry; exact PySem.EqNone.eq_none_bool (fin_bl I q (by simp))
    | int j => obtain ⟨t', rfl⟩ := ry; exact PySem.EqNone.eq_none_int (fin_bl I q (by simp))
    | str j => obtain ⟨t', rfl⟩ := ry; exact PySem.EqNone.eq_none_str (fin_bl I q (by simp))
    | _ => exact absurd (show false = true from hs) Bool.false_ne_true
  | bl i =>
    cases rx
    cases y with
    | non => cases ry; exact PySem.EqNone.eq_bool_none (fin_bl I q (by simp))
    | bl j => cases ry; exact eq_bool (fin_bl I q dec_bl)
    | str j => obtain ⟨t', rfl⟩ := ry; exact PySem.EqMixed.eq_bool_str (fin_bl I q (by simp))
    | _ => exact absurd (show false = true from hs) Bool.false_ne_true
  | int i =>
    obtain ⟨t, rfl⟩ := rx
    cases y with
    | non => cases ry; exact PySem.EqNone.eq_int_none (fin_bl I q (by simp))
    | int j => obtain ⟨t', rfl⟩ := ry; exact eq_int (fin_bl I q dec_int)
    | str j => obtain ⟨t', rfl⟩ := ry; exact PySem.EqMixed.eq_int_str (fin_bl I q (by simp))
    | _ => exact absurd (show false = true from hs) Bool.false_ne_true
  | str i =>
    obtain ⟨t, rfl⟩ := rx
    cases y with
    | non => cases ry; exact PySem.EqNone.eq_str_none (fin_bl I q (by simp))
    | bl j => cases ry; exact PySem.EqMixed.eq_str_bool (fin_bl I q (by simp))
    | int j => obtain ⟨t', rfl⟩ := ry; exact PySem.EqMixed.eq_str_int (fin_bl I q (by simp))
    | str j => obtain ⟨t', rfl⟩ := ry; exact eq_str (fin_bl I q dec_str)
    | _ => exact absurd (show false = true from hs) Bool.false_ne_true
  | byt i =>
    obtain ⟨t, rfl⟩ := rx
    cases y with
    | byt j => obtain ⟨t', rfl⟩ := ry; exact PySem.W.eq_bytes (fin_bl I q dec_byt)
    | _ => exact absurd (show false = true from hs) Bool.false_ne_true
  | _ => cases y <;> exact absurd (show false = true from hs) Bool.false_ne_true
theorem op_ne : OpR X (compareOp .NotEq) rNe := by
  intro pins s σ H x y v u Q I rx ry h
  obtain ⟨hs, q⟩ := h
  cases x with
  | non =>
    cases rx
    cases y with
    | non => cases ry; exact PySem.EqNone.ne_none_none (fin_bl I q (by simp))
    | bl j => cases ry; exact PySem.EqNone.ne_none_bool (fin_bl I q (by simp))
    | int j => obtain ⟨t', rfl⟩ := ry; exact PySem.EqNone.ne_none_int (fin_bl I q (by simp))
    | str j => obtain ⟨t', rfl⟩ := ry; exact PySem.EqNone.ne_none_str (fin_bl I q (by simp))
    | _ => exact absurd (show false = true from hs) Bool.false_ne_true
  | bl i =>
    cases rx
    cases y with
    | non => cases ry; exact PySem.EqNone.ne_bool_none (fin_bl I q (by simp))
    | bl j => cases ry; exact ne_bool (fin_bl I q (congrArg not dec_bl))
    | str j => obtain ⟨t', rfl⟩ := ry; exact PySem.EqMixed.ne_bool_str (fin_bl I q (by simp))
    | _ => exact absurd (show false = true from hs) Bool.false_ne_true
  | int i =>
    obtain ⟨t, rfl⟩ := rx
    cases y with
    | non => cases ry; exact PySem.EqNone.ne_int_none (fin_bl I q (by simp))
    | int j => obtain ⟨t', rfl⟩ := ry; exact ne_int (fin_bl I q (congrArg not dec_int))
    | str j => obtain ⟨t', rfl⟩ := ry; exact PySem.EqMixed.ne_int_str (fin_bl I q (by simp))
    | _ => exact absurd (show false = true from hs) Bool.false_ne_true
  | str i =>
    obtain ⟨t, rfl⟩ := rx
    cases y with
    | non => cases ry; exact PySem.EqNone.ne_str_none (fin_bl I q (by simp))
    | bl j => cases ry; exact PySem.EqMixed.ne_str_bool (fin_bl I q (by simp))
    | int j => obtain ⟨t', rfl⟩ := ry; exact PySem.EqMixed.ne_str_int (fin_bl I q (by simp))
    | str j => obtain ⟨t', rfl⟩ := ry; exact ne_str (fin_bl I q (congrArg not dec_str))
    | _ => exact absurd (show false = true from hs) Bool.false_ne_true
  | byt i =>
    obtain ⟨t, rfl⟩ := rx
    cases y with
    | byt j => obtain ⟨t', rfl⟩ := ry; exact PySem.W.ne_bytes (fin_bl I q (congrArg not dec_byt))
    | _ => exact absurd (show false = true from hs) Bool.false_ne_true
  | _ => cases y <;> exact absurd (show false = true from hs) Bool.false_ne_true
theorem op_gt : OpR X (compareOp .Gt) (rI0 fun i j => .bl (decide (j < i))) := opB0 fun _ _ _ _ _ _ _ q => gt_int q
theorem op_notin_str : OpR X (compareOp .NotIn) (fun x y H Q => ∃ i j, x = .str i ∧ y = .str j ∧ Q (.bl (!(!(Builtin.Str.occurrences j i 0 j.length 1).isEmpty))) H) := by
  intro pins s σ H x y v u Q I rx ry h
  obtain ⟨i, j, rfl, rfl, q⟩ := h
  obtain ⟨t, rfl⟩ := rx
  obtain ⟨t', rfl⟩ := ry
  exact notIn_str (fin_bl I q rfl)
theorem OpR.or {f : Value → Value → Sem Value} {r r' : R2} (h : OpR X f r) (h' : OpR X f r') : OpR X f (fun x y H Q => r x y H Q ∨ r' x y H Q) := by
  intro pins s σ H x y v u Q I rx ry q
  rcases q with q | q
  · exact h pins s σ H x y v u Q I rx ry q
  · exact h' pins s σ H x y v u Q I rx ry q
theorem nomark (b : Expr) {op : CmpOp} (h : op ≠ .In := by decide) (h2 : op ≠ .NotIn := by decide) : behindInMarks op b = false := by
  have e1 : (op == CmpOp.In) = false := by cases op <;> first | rfl | exact absurd rfl h
  have e2 : (op == CmpOp.NotIn) = false := by cases op <;> first | rfl | exact absurd rfl h2
  cases b <;> simp [behindInMarks, e1, e2]
theorem pe_cmpR {op : CmpOp} {r : R2} (ho : OpR X (compareOp op) r) (ha : PE X a ta) (hb : PE X b tb) (hm : behindInMarks op b = false) : PE X (.Compare a [op] [b] pos) (tOp r ta tb) := by
  intro pins s σ H Q I h
  exact wpAny_Compare1 (binT ha hb I h fun v u s2 x y H2 I2 rx ry q => ho pins s2 σ H2 x y v u Q I2 rx ry q) hm
noncomputable def tTest (t : TE) : TT := fun σ H Q => t σ H fun x H' => ∃ k, x = .bl k ∧ Q k H'
theorem pt_cmpR {op : CmpOp} {r : R2} (ho : OpR X (compareOp op) r) (ha : PE X a ta) (hb : PE X b tb) (hm : behindInMarks op b = false) : PT X (.Compare a [op] [b] pos) (tTest (tOp r ta tb)) := by
  intro pins s σ H Q I h
  refine wpAny_isTrue_Compare1 (thn (ha pins s σ H _ I h) fun v s1 ⟨x, H1, I1, r1, q1⟩ => thn (hb pins s1 σ H1 _ I1 q1) fun u s2 ⟨y, H2, I2, r2, q2⟩ =>
    thn (ho pins s2 σ H2 x y v u _ I2 r1 r2 q2) fun c s3 ⟨z, H3, I3, r3, k, e, q3⟩ => ?_) hm
  subst e
  cases r3
  exact wpAny_truthy_bool ⟨H3, I3, q3⟩
noncomputable def TruV (K : PySem.W.Frag) (x : V) (H : Hp) (k : Bool) : Prop :=
  match x with
  | .non => k = false
  | .bl b => k = b
  | .int i => k = (i != 0)
  | .str y => y.length ≤ sizeLine ∧ k = ((y.length : Int) != 0)
  | .byt y => y.size ≤ sizeLine ∧ k = ((y.size : Int) != 0)
  | .ref p => (∃ xs, SqL K H p xs ∧ k = !xs.isEmpty) ∨ (∃ xs, SqT K H p xs ∧ k = !xs.isEmpty) ∨ ∃ kvs, H p = some (.dK kvs) ∧ k = !kvs.isEmpty
  | _ => False
theorem isEmpty_kv {κ : Type} {kvs : List (κ × V)} {vs : List (κ × Value)} (r : KV kvs vs) : (!vs.isEmpty) = !kvs.isEmpty := by
  cases r <;> rfl
theorem isEmpty_of {xs : List V} {its : List Value} (r : Vals xs its) : (!its.toArray.isEmpty) = !xs.isEmpty := by
  cases r <;> simp
theorem line63 : (sizeLine : Nat) < 2 ^ 63 := by rw [sizeLine_eq]; decide
theorem tru_ok : TruR X (fun x H Q => ∃ k, TruV X.K x H k ∧ Q k H) := by
  intro pins s σ H x v Q I rx h
  obtain ⟨k, e, q⟩ := h
  have hl := line63
  have hs : sizeLine = 16777216 := sizeLine_eq
  cases x with
  | non =>
    cases rx
    have e' : k = false := e
    subst e'
    exact truthy_none ⟨H, I, q⟩
  | bl b =>
    cases rx
    have e' : k = b := e
    subst e'
    exact wpAny_truthy_bool ⟨H, I, q⟩
  | int i =>
    obtain ⟨t, rfl⟩ := rx
    have e' : k = (i != 0) := e
    subst e'
    exact PySem.P.truthy_int ⟨H, I, q⟩
  | str y =>
    obtain ⟨t, rfl⟩ := rx
    obtain ⟨hy, e'⟩ : y.length ≤ sizeLine ∧ k = ((y.length : Int) != 0) := e
    subst e'
    exact PySem.P.truthy_str (by omega) ⟨H, I.tok _, q⟩
  | byt y =>
    obtain ⟨t, rfl⟩ := rx
    obtain ⟨hy, e'⟩ : y.size ≤ sizeLine ∧ k = ((y.size : Int) != 0) := e
    subst e'
    exact PySem.W.truthy_bytes (by omega) ⟨H, I.tok _, q⟩
  | ref p =>
    cases rx
    have e' : (∃ xs, SqL X.K H p xs ∧ k = !xs.isEmpty) ∨ (∃ xs, SqT X.K H p xs ∧ k = !xs.isEmpty) ∨ ∃ kvs, H p = some (.dK kvs) ∧ k = !kvs.isEmpty := e
    rcases e' with ⟨xs, hx, e'⟩ | ⟨xs, hx, e'⟩ | ⟨kvs, hx, e'⟩
    · subst e'
      obtain ⟨its, r, pl, hz⟩ := I.list hx
      have hlen := r.length
      exact wpAny_truthy_list pl.isList (by simp only [List.size_toArray]; omega) ⟨H, I.tok _, by rw [isEmpty_of r]; exact q⟩
    · subst e'
      obtain ⟨its, r, pl, hz⟩ := I.tuple hx
      have hlen := r.length
      exact truthy_tuple pl (by simp only [List.size_toArray]; omega) ⟨H, I.tok _, by rw [isEmpty_of r]; exact q⟩
    · subst e'
      obtain ⟨hz, hS, vs, r, m⟩ : kvs.length ≤ sizeLine ∧ (p == sysModules) = false ∧ ∃ vs, KV kvs vs ∧ s.heap.DictOf (mixKind X.prog X.w) p vs := I.hok p _ hx
      have hlen : kvs.length = vs.length := Paired.length r
      exact wpAny_truthy_dict hS m (by omega) ⟨H, I.tok _, by rw [isEmpty_kv r]; exact q⟩
  | _ => exact (show False from e).elim
theorem pt_truth (ha : PE X a ta) (he : ∀ whole, isTrue a X.env whole = (do let v ← whole; standAt a.pos; holding [v] (truthy v))) :
    PT X a (fun σ H Q => ta σ H fun x H' => ∃ k, TruV X.K x H' k ∧ Q k H') := by
  intro pins s σ H Q I h
  exact isTrue_plain (thn (ha pins s σ H _ I h) fun v s1 ⟨x, H1, I1, r1, q1⟩ => tru_ok pins s1 σ H1 x v Q I1 r1 q1) (he _)
theorem op_add_str : OpR X (binaryOp .Add) (fun x y H Q => ∃ i j, x = .str i ∧ y = .str j ∧ i.length + j.length ≤ sizeLine ∧ Q (.str (i ++ j)) H) := by
  intro pins s σ H x y v u Q I rx ry h
  obtain ⟨i, j, rfl, rfl, hz, q⟩ := h
  obtain ⟨t, rfl⟩ := rx
  obtain ⟨t', rfl⟩ := ry
  exact add_str (fun t' tk => ⟨.str (i ++ j), H, I.tok _, ⟨_, rfl⟩, q⟩) hz
theorem vals1 {x : V} {us : List Value} (r : Vals [x] us) : ∃ u, us = [u] ∧ RelV x u := by
  cases r with
  | cons r1 r2 => cases r2; exact ⟨_, rfl, r1⟩
theorem vals2 {x y : V} {us : List Value} (r : Vals [x, y] us) : ∃ u w', us = [u, w'] ∧ RelV x u ∧ RelV y w' := by
  cases r with
  | cons r1 r2 =>
    cases r2 with
    | cons r3 r4 => cases r4; exact ⟨_, _, rfl, r1, r3⟩
theorem call_max2 (hc : X.calm = true) : CallR X (.builtin "max") (fun xs H Q => ∃ i j, xs = [.int i, .int j] ∧ Q (.int (if j > i then j else i)) H) := by
  intro pins s σ H xs us Q I r h
  obtain ⟨i, j, rfl, q⟩ := h
  obtain ⟨u, w', rfl, ⟨t, rfl⟩, ⟨t', rfl⟩⟩ := vals2 r
  refine max_two_ints (I.ok.hd hc) fun h' tk k => ⟨_, H, I.kept k, ?_, q⟩
  by_cases hj : j > i
  · rw [if_pos hj, if_pos hj]; exact ⟨_, rfl⟩
  · rw [if_neg hj, if_neg hj]; exact ⟨_, rfl⟩
theorem call_min2 (hc : X.calm = true) : CallR X (.builtin "min") (fun xs H Q => ∃ i j, xs = [.int i, .int j] ∧ Q (.int (if j < i then j else i)) H) := by
  intro pins s σ H xs us Q I r h
  obtain ⟨i, j, rfl, q⟩ := h
  obtain ⟨u, w', rfl, ⟨t, rfl⟩, ⟨t', rfl⟩⟩ := vals2 r
  refine min_two_ints (I.ok.hd hc) fun h' tk k => ⟨_, H, I.kept k, ?_, q⟩
  by_cases hj : j < i
  · rw [if_pos hj, if_pos hj]; exact ⟨_, rfl⟩
  · rw [if_neg hj, if_neg hj]; exact ⟨_, rfl⟩
theorem call_int1 : CallR X (.type "int") (fun xs H Q => (∃ i, xs = [.int i] ∧ Q (.int i) H) ∨ ∃ k, xs = [.bl k] ∧ Q (.int (if k then 1 else 0)) H) := by
  intro pins s σ H xs us Q I r h
  rcases h with ⟨i, rfl, q⟩ | ⟨k, rfl, q⟩
  · obtain ⟨u, rfl, t, rfl⟩ := vals1 r
    exact call_int_int ⟨.int i, H, I, ⟨_, rfl⟩, q⟩
  · obtain ⟨u, rfl, r1⟩ := vals1 r
    cases r1
    exact call_int_bool ⟨.int (if k then 1 else 0), H, I.tok _, ⟨_, rfl⟩, q⟩
theorem call_str_int : CallR X (.type "str") (fun xs H Q => ∃ i, xs = [.int i] ∧ i.natAbs.log2 < 1920 ∧ Q (.str (toString i)) H) := by
  intro pins s σ H xs us Q I r h
  obtain ⟨i, rfl, hz, q⟩ := h
  obtain ⟨u, rfl, t, rfl⟩ := vals1 r
  exact PySem.P.str_of_int hz ⟨.str _, H, I.tok _, ⟨_, rfl⟩, q⟩
end
end L2
namespace L2
open PySem PySem.Spec PyProof.Rows
structure ObjM (h : Heap) (x dx C : Addr) (mA : Str → Option Value) : Prop where
  obj : h.get? x = some (PySem.W.instObj C dx)
  ns : h.Ns1 dx mA
  ne : dx ≠ x
theorem lookIn_ns {h : Heap} {dx : Addr} {mA : Str → Option Value} (n : h.Ns1 dx mA) : ∃ od, h.get? dx = some od ∧ ∀ name, PySem.W.lookIn name od = some (mA name) := by
  obtain ⟨o, es, ep, ho, hd, hk, _, hm⟩ := n
  refine ⟨o, ho, fun name => ?_⟩
  have e := hm name
  unfold nsFind findBy at e
  rw [← Array.find?_toList] at e
  unfold PySem.W.lookIn
  rw [hd]
  dsimp only
  split
  · rename_i y q
    rw [q] at e
    exact congrArg some e
  · rename_i q
    rw [q] at e
    have a : es.toList.any (·.refKey) = false := by
      rw [List.any_eq_false]
      intro y hy
      obtain ⟨z, t, hkey⟩ := hk y (Array.mem_toList_iff.mp hy)
      simp [DictEntry.refKey, hkey]
    have a' : ¬ es.toList.any (·.refKey) = true := by rw [a]; exact Bool.false_ne_true
    rw [if_neg a']
    exact congrArg some e
theorem ObjM.look {h : Heap} {x dx C : Addr} {mA : Str → Option Value} (I : ObjM h x dx C mA) : ∃ od, PySem.W.InstAt h x (PySem.W.instObj C dx) C (some od) ∧ ∀ name, PySem.W.lookIn name od = some (mA name) :=
  let ⟨od, ho, hl⟩ := lookIn_ns I.ns
  ⟨od, ⟨I.obj, rfl, rfl, ho⟩, hl⟩
section
variable {prog : Program} {w : World} {A : Around} {E : Value → Shared → Prop} {s : Shared} {K : PySem.W.Frag} {x dx C f : Addr} {mA : Str → Option Value} {name : Str} {v : Value}
end
theorem RelO.some_of {v : V} {o : Option Value} (r : RelO (some v) o) : ∃ u, o = some u ∧ RelV v u := by
  cases o with
  | none => exact (show False from r).elim
  | some u => exact ⟨u, rfl, r⟩
section
variable {P : Program} {w : World} {H H' : Hp} {h h' : Heap} {a C dx : Addr} {fs fs' : List (Str × V)}
theorem ins_get (hok : HOk P w H h) (e : H a = some (.ins C dx fs)) : ∃ mA, ObjM h a dx C mA ∧ (∀ f, RelO (fs.lookup f) (mA f)) ∧ PySem.Within mA (fs.map (·.1)) ∧ fs.length ≤ 1000 ∧ H dx = some (.own a) := by
  obtain ⟨d, z, ne, ob, mA, n, r, q⟩ := (show ObjOk P w H h a (.ins C dx fs) from hok a _ e)
  exact ⟨mA, ⟨ob, n, ne⟩, r, q, z, d⟩
end
structure Cls (K : PySem.W.Frag) (C : Addr) : Prop where
  pg : PySem.W.plainGet K C Str.empty = true
  hd : PySem.W.hasDictIn K C = true
  po : PySem.W.plainOver K C = true
  sa : PySem.W.findIn K (.ref C) "__setattr__" = some (some (.builtin "object.__setattr__"))
theorem Cls.get {K : PySem.W.Frag} {C : Addr} (c : Cls K C) (f : Str) : PySem.W.plainGet K C f = true := c.pg
structure Con (K : PySem.W.Frag) (C : Addr) (f : Str) (v : V) (u : Value) : Prop where
  at_ : PySem.W.findIn K (.ref C) f = some (some u)
  rel : RelV v u
  get : PySem.W.specialIn K u "__get__" = some none
  cp : PySem.W.copiedNames.contains f = false
structure Meth (K : PySem.W.Frag) (C : Addr) (m : Str) (f : Addr) : Prop where
  at_ : PySem.W.findIn K (.ref C) m = some (some (.ref f))
  fn : PySem.W.isFn K (.ref f) = true
  kp : PySem.W.keepIn K (.ref f) = true
section
variable {X : Cx} {pins : List (Addr × Obj)} {σ : St} {H : Hp} {s : Shared} {a C dx : Addr} {fs : List (Str × V)} {f : Str} {v : V} {A : Around} {E : Value → Shared → Prop}
end
section
variable {X : Cx} {o e value : Expr} {f : Str} {pos pos' tpos : Pos} {ta tv : TE}
end
section
variable {X : Cx} {pins : List (Addr × Obj)} {σ : St} {H : Hp} {s : Shared} {A : Around} {E : Value → Shared → Prop} {Q : Value → Shared → Prop} {c : Value} {b : Bool}
inductive TyOf (K : PySem.W.Frag) (H : Hp) : V → Value → Prop where
  | non : TyOf K H .non (.type "NoneType")
  | bl (x : Bool) : TyOf K H (.bl x) (.type "bool")
  | int (i : Int) : TyOf K H (.int i) (.type "int")
  | str (x : Str) : TyOf K H (.str x) (.type "str")
  | flt (x : UInt64) : TyOf K H (.flt x) (.type "float")
  | lst {a : Addr} {xs : List V} (e : H a = some (.lst xs)) : TyOf K H (.ref a) (.type "list")
  | frz {a : Addr} {o : Obj} {xs : List V} (e : H a = some (.frz o (.lst xs))) : TyOf K H (.ref a) (.type "list")
  | tup {a : Addr} {xs : List V} (e : H a = some (.tup xs)) : TyOf K H (.ref a) (.type "tuple")
  | dK {a : Addr} {kvs : List (Key × V)} (e : H a = some (.dK kvs)) : TyOf K H (.ref a) (.type "dict")
  | dT {a : Addr} {kvs : List (List Key × V)} (e : H a = some (.dT kvs)) : TyOf K H (.ref a) (.type "dict")
  | ins {a C dx : Addr} {fs : List (Str × V)} (e : H a = some (.ins C dx fs)) (cl : Cls K C) (ha : PySem.W.findIn K (.ref C) "__class__" = some (some (.builtin "object.__class__")))
      (hn : PySem.W.specialIn K (.builtin "object.__class__") "__get__" = some (some (.builtin "getset_descriptor.__get__"))) (htk : PySem.W.takesIn K (.builtin "object.__class__") = some true)
      (hm : PySem.W.mroIn K C (.type "object") = some true) : TyOf K H (.ref a) (.ref C)
theorem isinst_ok {x : V} {u t : Value} (I : Inv X pins σ H s) (rx : RelV x u) (ty : TyOf X.K H x t) (e : PySem.W.kitOne X.K t c = some b) (h : ∀ tk, Q (.bool b) { s with toks := tk }) :
    wpAny (model X.prog X.w) A (call (.builtin "isinstance") [u, c]) Q E s := by
  cases ty with
  | non => cases (show u = Value.none from rx); exact PySem.W.kia_one PySem.W.kitx_none I.kIn True.intro e (fun z => nomatch z) h
  | bl y => cases (show u = Value.bool y from rx); exact PySem.W.kia_one PySem.W.kitx_bool I.kIn True.intro e (fun z => nomatch z) h
  | int i => obtain ⟨t, q⟩ := (show ∃ t, u = Value.int i t from rx); cases q; exact PySem.W.kia_one PySem.W.kitx_int I.kIn True.intro e (fun z => nomatch z) h
  | str y => obtain ⟨t, q⟩ := (show ∃ t, u = Value.str y t from rx); cases q; exact PySem.W.kia_one PySem.W.kitx_str I.kIn True.intro e (fun z => nomatch z) h
  | flt y => obtain ⟨t, q⟩ := (show ∃ t, u = Value.float y t from rx); cases q; exact PySem.W.kia_one PySem.W.kitx_float I.kIn True.intro e (fun z => nomatch z) h
  | @lst a xs ea =>
    cases (show u = Value.ref a from rx)
    obtain ⟨_, _, n, _, h1⟩ := (show ObjOk X.prog X.w H s.heap a (.lst xs) from I.hok a _ ea)
    exact PySem.W.kia_one PySem.W.kitx_list I.kIn ⟨_, h1, rfl⟩ e (fun z => nomatch z) h
  | @frz a ob xs ea =>
    cases (show u = Value.ref a from rx)
    obtain ⟨_, _, _, n, _, h1⟩ := (show ObjOk X.prog X.w H s.heap a (.frz ob (.lst xs)) from I.hok a _ ea)
    exact PySem.W.kia_one PySem.W.kitx_list I.kIn ⟨_, h1, rfl⟩ e (fun z => nomatch z) h
  | @tup a xs ea =>
    cases (show u = Value.ref a from rx)
    obtain ⟨_, _, _, p⟩ := (show ObjOk X.prog X.w H s.heap a (.tup xs) from I.hok a _ ea)
    obtain ⟨o, h1, h2, _⟩ := p
    exact PySem.W.kia_one PySem.W.kitx_tuple I.kIn ⟨o, h1, h2⟩ e (fun z => nomatch z) h
  | @dK a kvs ea =>
    cases (show u = Value.ref a from rx)
    obtain ⟨_, _, vs, _, p⟩ := (show ObjOk X.prog X.w H s.heap a (.dK kvs) from I.hok a _ ea)
    obtain ⟨o, es, ep, h1, h2, _⟩ := p
    exact PySem.W.kia_one PySem.W.kitx_dict I.kIn ⟨o, h1, h2.1⟩ e (fun z => nomatch z) h
  | @dT a kvs ea =>
    cases (show u = Value.ref a from rx)
    obtain ⟨_, _, xs, _, o, es, ep, h1, h2, _⟩ := (show ObjOk X.prog X.w H s.heap a (.dT kvs) from I.hok a _ ea)
    exact PySem.W.kia_one PySem.W.kitx_dict I.kIn ⟨o, h1, h2.1⟩ e (fun z => nomatch z) h
  | @ins a C dx fs ea cl ha hn htk hm =>
    cases (show u = Value.ref a from rx)
    obtain ⟨mA, O, _⟩ := ins_get I.hok ea
    obtain ⟨od, J, _⟩ := O.look
    exact PySem.W.kia_one (PySem.W.kitx_own (cl.get _) cl.hd ha hn htk hm) I.kIn J e (fun z => nomatch z) h
end
end L2
namespace L2
open PySem PySem.Spec PyProof.Rows
structure Room (k : Nat) (A : Around) : Prop where
  hd : A.handled = none
  dp : A.depth + 3 * k + 5 < recursionLimit
  un : A.units + 16 * k + 200 < cLine
theorem Room.mono {j k : Nat} {A : Around} (r : Room k A) (h : j ≤ k) : Room j A := ⟨r.hd, by have := r.dp; omega, by have := r.un; omega⟩
theorem Room.deeper {k : Nat} {A : Around} (r : Room (k + 1) A) (env : Env) : Room k (A.deeper env) :=
  ⟨r.hd, by have := r.dp; show A.depth + 1 + 3 * k + 5 < _; omega, by have := r.un; show A.units + 3 + 16 * k + 200 < _; omega⟩
theorem Room.depth {k : Nat} {A : Around} (r : Room k A) : A.depth < recursionLimit := by have := r.dp; omega
theorem Room.units {k : Nat} {A : Around} (r : Room k A) : A.units + 64 < cLine := by have := r.un; omega
noncomputable def tNil : TA := fun _ H Q => Q [] H
noncomputable def tCons (ta : TE) (tr : TA) : TA := fun σ H Q => ta σ H fun x H1 => tr σ H1 fun xs H2 => Q (x :: xs) H2
section
variable {X : Cx} {e : Expr} {es : List Expr} {te : TE} {t : TA} {pos : Pos}
theorem pa_nil : PA X [] tNil := fun _ _ _ _ H Q I h => Calls.spliced_nil ⟨[], H, I, .nil, h⟩
theorem pa_cons (ha : PE X e te) (hr : PA X es t) (hs : starEach (e :: es) X.env = (false, eval e X.env) :: starEach es X.env := by rfl) : PA X (e :: es) (tCons te t) := by
  intro pos pins s σ H Q I h
  rw [hs]
  show wpAny _ _ (spliced ((false, eval e X.env) :: backTo pos (starEach es X.env))) _ _ s
  refine Calls.spliced_cons (thn (ha pins s σ H _ I h) fun u s1 ⟨x, H1, I1, r1, q1⟩ => ?_)
  exact thn (hr pos pins s1 σ H1 _ I1 q1) fun us s2 ⟨xs, H2, I2, r2, q2⟩ => ⟨x :: xs, H2, I2, .cons r1 r2, q2⟩
noncomputable def tTup (t : TA) : TE := fun σ H Q => t σ H fun xs H1 => xs.length ≤ sizeLine ∧ ∀ p, H1 p = none → Q (.ref p) (upd H1 p (.tup xs))
noncomputable def tLst (t : TA) : TE := fun σ H Q => t σ H fun xs H1 => xs.length ≤ sizeLine ∧ ∀ p, H1 p = none → Q (.ref p) (upd H1 p (.lst xs))
theorem pe_tup {x1} (h : PA X es t) : PE X (.Tuple es x1 pos) (tTup t) := by
  intro pins s σ H Q I hq
  refine wpAny_Tuple_spliced (thn (h pos pins s σ H _ I hq) fun us s1 ⟨xs, H1, I1, r, z, q⟩ => ⟨by rw [← r.length]; exact z, ?_⟩)
  have hf : H1 s1.heap.objs.size = none := I1.hok.fresh (Nat.le_refl _)
  refine ⟨.ref s1.heap.objs.size, upd H1 s1.heap.objs.size (.tup xs), I1.laid (t' := s1.toks) (fun b u e => Heap.get?_push_of_some _ e) (Nat.le_refl _) ?_, rfl, q _ hf⟩
  exact ⟨z, us, r, ⟨_, Heap.get?_push_size _ rfl, rfl, _, rfl⟩⟩
theorem pe_lst (h : PA X es t) : PE X (.List es pos) (tLst t) := by
  intro pins s σ H Q I hq
  refine wpAny_List_spliced (thn (h pos pins s σ H _ I hq) fun us s1 ⟨xs, H1, I1, r, z, q⟩ => ⟨by rw [← r.length]; exact z, ?_⟩)
  have hf : H1 s1.heap.objs.size = none := I1.hok.fresh (Nat.le_refl _)
  refine ⟨.ref s1.heap.objs.size, upd H1 s1.heap.objs.size (.lst xs), I1.laid (t' := s1.toks) (fun b u e => Heap.get?_push_of_some _ e) (Nat.le_refl _) ?_, rfl, q _ hf⟩
  exact ⟨z, us, 0, r, Heap.get?_push_size _ rfl⟩
end
noncomputable abbrev Sp := List V → Hp → VK → XK → Prop
noncomputable abbrev CXT := List Env → Hp → Shared → XK → Value → Shared → Prop
structure Env0 (P : Program) (w : World) (K : PySem.W.Frag) (mg : Str → Option Value) (base : Heap) (A : Around) (outer : List Env) (s : Shared) (H : Hp) : Prop where
  frames : A.frames = some outer
  mod : Mod K mg base
  bs : ∀ b o, base.get? b = some o → s.heap.get? b = some o ∧ H b = none
  bsz : base.objs.size ≤ s.heap.objs.size
  funs : s.heap.FunFrames base outer
  frf : ∀ b ∈ frs outer, H b = none
  hok : HOk P w H s.heap
  bare : AllBare s.gens
noncomputable def CE (outer : List Env) (P : Program) (w : World) (H : Hp) (s : Shared) (Q : VK) (u : Value) (s' : Shared) : Prop :=
  ∃ v H', s'.os = s.os ∧ AllBare s'.gens ∧ Un (frs outer) [] H H' s.heap s'.heap ∧ HOk P w H' s'.heap ∧ RelV v u ∧ Q v H'
noncomputable def CR (CX : CXT) (outer : List Env) (P : Program) (w : World) (H : Hp) (s : Shared) (Q : VK) (E : XK) (r : Result) (s' : Shared) : Prop :=
  match r with
  | .ok (.ret u) => CE outer P w H s Q u s'
  | .ok _ => False
  | .error e => CX outer H s E e s'
structure FnOk (P : Program) (w : World) (K : PySem.W.Frag) (mg : Str → Option Value) (base : Heap) (CX : CXT) (k : Nat) (f : Addr) (fd : FuncData) (ps : List Str) (sp : Sp) : Prop where
  len : ∀ vs H Q E, sp vs H Q E → vs.length = ps.length
  run : ∀ (A : Around) (outer : List Env) (s : Shared) (H : Hp) (args : Args) (us : List Value) (vs : List V) (Q : VK) (E : XK), Room k A → Env0 P w K mg base A outer s H → BindsTo s fd args (ps.zip us) → Vals vs us → sp vs H Q E →
    codeAny (model P w) A (.call (.ref f) args) (CR CX outer P w H s Q E) s
theorem FnOk.imp {P : Program} {w : World} {K : PySem.W.Frag} {mg : Str → Option Value} {base : Heap} {CX : CXT} {k : Nat} {f : Addr} {fd : FuncData} {ps : List Str} {sp sp' : Sp} (F : FnOk P w K mg base CX k f fd ps sp)
    (h : ∀ vs H Q E, sp' vs H Q E → sp vs H Q E) : FnOk P w K mg base CX k f fd ps sp' :=
  ⟨fun vs H Q E q => F.len vs H Q E (h _ _ _ _ q), fun A outer s H args us vs Q E hr he hb hv hs => F.run A outer s H args us vs Q E hr he hb hv (h _ _ _ _ hs)⟩
section
variable {X : Cx} {pins : List (Addr × Obj)} {σ : St} {H : Hp} {s s' : Shared}
theorem Inv.env0 (I : Inv X pins σ H s) : Env0 X.prog X.w X.K X.mg X.base X.A X.stack s H :=
  ⟨I.ok.frames, I.ok.mod, I.bs, Nat.le_trans I.ok.bsz I.sz, I.stack, I.stkFree, I.hok, I.bare⟩
theorem Inv.after {Q : VK} {u : Value} (I : Inv X pins σ H s) (h : CE X.stack X.prog X.w H s Q u s') : EP X pins σ Q u s' := by
  obtain ⟨v, H', os, bare, un, hok, r, q⟩ := h
  obtain ⟨hh, g, d, t, os'⟩ := s'
  obtain rfl : os' = s.os := os
  exact ⟨v, H', I.call (h' := hh) (g' := g) (d' := d) (t' := t) (ch := []) un hok bare (fun b z => absurd z (by simp)), r, q⟩
end
noncomputable def tCall (sp : Sp) (dvs : List V) (E : XK) (t : TA) : TE := fun σ H Q => t σ H fun vs H1 => sp (vs ++ dvs) H1 Q E
noncomputable def Binds (K : PySem.W.Frag) (fd : FuncData) (ps : List Str) (ds : List Value) : Prop :=
  ∀ (s : Shared) (us : List Value), K.In s.heap → (us ++ ds).length = ps.length → BindsTo s fd ⟨us, []⟩ (ps.zip (us ++ ds))
theorem Binds.all {K : PySem.W.Frag} {fd : FuncData} {ps : List Str} (h : ∀ us : List Value, us.length = ps.length → bindArgs fd ⟨us, []⟩ = pure (ps.zip us)) : Binds K fd ps [] := fun s us _ hl => by
  rw [List.append_nil] at hl ⊢
  exact .of_eq (h us hl)
noncomputable def Passes (CX : CXT) (X : Cx) (E : XK) : Prop := ∀ (pins : List (Addr × Obj)) (σ : St) (H : Hp) (s : Shared) (e : Value) (s' : Shared), Inv X pins σ H s → CX X.stack H s E e s' → X.xe e s'
section
variable {X : Cx} {CX : CXT} {k : Nat} {f C : Addr} {fd : FuncData} {ps : List Str} {sp : Sp} {dvs : List V} {ds : List Value} {E : XK} {x m : Str} {p pos apos : Pos} {e o : Expr} {es : List Expr} {ta : TE} {t : TA}
theorem run_fn {pins : List (Addr × Obj)} {σ : St} {H : Hp} {s : Shared} {Q : VK} {us : List Value} {vs : List V} (F : FnOk X.prog X.w X.K X.mg X.base CX k f fd ps sp) (hr : Room k X.A) (hb : Binds X.K fd ps ds) (hd : Vals dvs ds) (hx : Passes CX X E)
    (I : Inv X pins σ H s) (r : Vals vs us) (h : sp (vs ++ dvs) H Q E) : wpAny (model X.prog X.w) X.A (call (.ref f) us) (EP X pins σ Q) X.xe s := by
  have r2 : Vals (vs ++ dvs) (us ++ ds) := r.append hd
  have hl : (us ++ ds).length = ps.length := by rw [← r2.length]; exact F.len _ _ _ _ h
  refine wpAny_call (codeAny_mono (F.run X.A X.stack s H ⟨us, []⟩ (us ++ ds) (vs ++ dvs) Q E hr I.env0 (hb s us I.kIn hl) r2 h) fun r s' hq => ?_)
  cases r with
  | error e => exact hx pins σ H s e s' I hq
  | ok fl =>
    cases fl with
    | ret u => exact I.after hq
    | next => exact False.elim hq
    | brk => exact False.elim hq
    | cont => exact False.elim hq
theorem pe_call (F : FnOk X.prog X.w X.K X.mg X.base CX k f fd ps sp) (hr : Room k X.A) (hg : Gl X x) (hm : X.mg x = some (.ref f)) (hk : PySem.W.keepIn X.K (.ref f) = true) (hb : Binds X.K fd ps ds) (hd : Vals dvs ds) (hx : Passes CX X E)
    (ha : PA X (e :: es) t) (hdb : (x == ("__debug__" : Str)) = false := by decide) (he : starEach (e :: es) X.env = (false, eval e X.env) :: starEach es X.env := by rfl) (hpl : (backTo pos (starEach es X.env)).any (·.1) = false := by rfl) :
    PE X (.Call (.Name x p) (e :: es) [] pos) (tCall sp dvs E t) := by
  intro pins s σ H Q I h
  refine wpAny_Call_Name_kw (ld_glob I hg hm ?_ hdb)
  refine PySem.W.callWith_K (h₀ := X.base) I.ok.mod.kin hk (thn (ha pos pins s σ H _ I h) fun us s1 ⟨vs, H1, I1, r, q⟩ => ⟨I1.kIn, ?_⟩) he hpl
  exact run_fn F hr hb hd hx I1 r q
theorem pe_call0 (F : FnOk X.prog X.w X.K X.mg X.base CX k f fd ps sp) (hr : Room k X.A) (hg : Gl X x) (hm : X.mg x = some (.ref f)) (hk : PySem.W.keepIn X.K (.ref f) = true) (hb : Binds X.K fd ps ds) (hd : Vals dvs ds) (hx : Passes CX X E)
    (hdb : (x == ("__debug__" : Str)) = false := by decide) : PE X (.Call (.Name x p) [] [] pos) (tCall sp dvs E tNil) := by
  intro pins s σ H Q I h
  refine wpAny_Call_Name_kw (ld_glob I hg hm ?_ hdb)
  exact PySem.W.callWith_K0 I.kIn hk (run_fn (us := []) F hr hb hd hx I .nil h)
structure Mk (K : PySem.W.Frag) (C f : Addr) : Prop where
  makes : PySem.W.makesIn K C = true
  init : PySem.W.findIn K (.ref C) "__init__" = some (some (.ref f))
  fn : PySem.W.isFn K (.ref f) = true
  kp : PySem.W.keepIn K (.ref C) = true
end
noncomputable def PK (X : Cx) (kws : List Keyword) (t : TA) : Prop :=
  ∀ (pos : Pos) (pins : List (Addr × Obj)) (s : Shared) (σ : St) (H : Hp) (Q : List V → Hp → Prop), Inv X pins σ H s → t σ H Q → wpAny (model X.prog X.w) X.A (evalAll ((backToKw pos (keywordEach kws X.env)).map (·.2))) (AP X pins σ Q) X.xe s
section
variable {X : Cx} {CX : CXT} {k : Nat} {f C : Addr} {fd : FuncData} {ps ks : List Str} {sp : Sp} {E : XK} {x m : Str} {p pos apos kpos : Pos} {e o : Expr} {es : List Expr} {kws : List Keyword} {te ta : TE} {t tk : TA} {nm : Option Str}
theorem pk_nil : PK X [] tNil := fun _ _ _ _ H Q I h => wpAny_evalAll_nil ⟨[], H, I, .nil, h⟩
theorem pk_cons (ha : PE X e te) (hr : PK X kws t) : PK X (⟨nm, e, kpos⟩ :: kws) (tCons te t) := by
  intro pos pins s σ H Q I h
  show wpAny _ _ (evalAll ((do let v ← eval e X.env; standAt pos; pure v) :: (backToKw pos (keywordEach kws X.env)).map (·.2))) _ _ s
  refine wpAny_evalAll_cons (wpAny_bind (thn (ha pins s σ H _ I h) fun u s1 ⟨x, H1, I1, r1, q1⟩ => wpAny_bind (wpAny_standAt (wpAny_pure ?_))))
  exact thn (hr pos pins s1 σ H1 _ I1 q1) fun us s2 ⟨xs, H2, I2, r2, q2⟩ => ⟨x :: xs, H2, I2, .cons r1 r2, q2⟩
structure KBinds (K : PySem.W.Frag) (fd : FuncData) (ps ks : List Str) (g : List Value → List Value → List Value) (gV : List V → List V → List V) : Prop where
  to : ∀ (s : Shared) (us ws : List Value), K.In s.heap → (g us ws).length = ps.length → BindsTo s fd ⟨us, ks.zip ws⟩ (ps.zip (g us ws))
  rel : ∀ {vs : List V} {us : List Value} {zs : List V} {ws : List Value}, Vals vs us → Vals zs ws → Vals (gV vs zs) (g us ws)
variable {g : List Value → List Value → List Value} {gV : List V → List V → List V}
end
structure FnScope (N P : List Str) (sc : Scope) : Prop where
  kind : sc.kind = .function
  co : sc.isCoroutine = false
  gen : sc.isGenerator = false
  nd : N.Nodup
  pre : N.take P.length = P
  par : ∀ x ∈ P, sc.names.lookup x = some .local ∨ sc.names.lookup x = some .cell
  nofree : ∀ y ∈ sc.names, y.2 ≠ .free
theorem bindL_out {kindOf : Str → Option NameKind} {x : Str} : ∀ {binds : List (Str × Value)} {m : Str → Option Value}, (∀ v, (x, v) ∉ binds) → bindL kindOf binds m x = m x
  | [], _, _ => rfl
  | (n, v) :: r, m, h => by
    unfold bindL
    rw [bindL_out fun w hw => h w (List.mem_cons_of_mem _ hw)]
    split
    · have : x ≠ n := by rintro rfl; exact h v List.mem_cons_self
      simp [this]
    · rfl
theorem bindC_out {kindOf : Str → Option NameKind} {x : Str} : ∀ {binds : List (Str × Value)} {m : Str → Option Value}, (∀ v, (x, v) ∉ binds) → bindC kindOf binds m x = m x
  | [], _, _ => rfl
  | (n, v) :: r, m, h => by
    unfold bindC
    rw [bindC_out fun w hw => h w (List.mem_cons_of_mem _ hw)]
    split
    · rfl
    · have : x ≠ n := by rintro rfl; exact h v List.mem_cons_self
      simp [this]
theorem bindL_get {kindOf : Str → Option NameKind} {x : Str} {v : Value} : ∀ {P : List Str} {vs : List Value} {i : Nat} {m : Str → Option Value}, P.Nodup → P[i]? = some x → vs[i]? = some v → kindOf x = some .local →
    bindL kindOf (P.zip vs) m x = some v
  | [], _, _, _, _, h, _, _ => by simp at h
  | _ :: _, [], _, _, _, _, h, _ => by simp at h
  | p :: P, w :: vs, 0, m, nd, h1, h2, hk => by
    simp at h1 h2; subst h1; subst h2
    show bindL kindOf ((p, w) :: P.zip vs) m p = _
    unfold bindL
    rw [bindL_out fun v hv => (List.nodup_cons.mp nd).1 (List.of_mem_zip hv).1, if_pos hk]
    simp
  | p :: P, w :: vs, i + 1, m, nd, h1, h2, hk => by
    show bindL kindOf ((p, w) :: P.zip vs) m x = _
    unfold bindL
    exact bindL_get (i := i) (List.nodup_cons.mp nd).2 (by simpa using h1) (by simpa using h2) hk
theorem bindC_get {kindOf : Str → Option NameKind} {x : Str} {v : Value} : ∀ {P : List Str} {vs : List Value} {i : Nat} {m : Str → Option Value}, P.Nodup → P[i]? = some x → vs[i]? = some v → kindOf x ≠ some .local →
    bindC kindOf (P.zip vs) m x = some v
  | [], _, _, _, _, h, _, _ => by simp at h
  | _ :: _, [], _, _, _, _, h, _ => by simp at h
  | p :: P, w :: vs, 0, m, nd, h1, h2, hk => by
    simp at h1 h2; subst h1; subst h2
    show bindC kindOf ((p, w) :: P.zip vs) m p = _
    unfold bindC
    rw [bindC_out fun v hv => (List.nodup_cons.mp nd).1 (List.of_mem_zip hv).1, if_neg hk]
    simp
  | p :: P, w :: vs, i + 1, m, nd, h1, h2, hk => by
    show bindC kindOf ((p, w) :: P.zip vs) m x = _
    unfold bindC
    exact bindC_get (i := i) (List.nodup_cons.mp nd).2 (by simpa using h1) (by simpa using h2) hk
noncomputable def start (N : List Str) (vs : List V) : St := vs.map some ++ List.replicate (N.length - vs.length) none
noncomputable def cxOf (CX : CXT) (P : Program) (w : World) (K : PySem.W.Frag) (mg : Str → Option Value) (base : Heap) (N : List Str) (qual : Str) (scope : Scope) (f : Addr) (cd : Value) (A : Around) (outer : List Env) (s : Shared) (H : Hp) (E : XK) : Cx where
  prog := P
  w := w
  K := K
  mg := mg
  base := base
  A := A.deeper (envOfC qual scope s.heap.objs.size f cd)
  N := N
  s₀ := s
  H₀ := H
  env := envOfC qual scope s.heap.objs.size f cd
  outer := outer
  stack := envOfC qual scope s.heap.objs.size f cd :: outer
  ex := []
  calm := true
  fn := fun _ => true
  pn := []
  xe := fun e s' => wpAny (model P w) (A.deeper (envOfC qual scope s.heap.objs.size f cd)) (leaving (envOfC qual scope s.heap.objs.size f cd) e) (fun _ s'' => CX outer H s E e s'') (fun e' s'' => CX outer H s E e' s'') s'
theorem cell_has {sc : Scope} {n : Nat} {x : Str} (h : sc.names.lookup x = some .cell) : ∃ c, (cellsFrom n sc.names []).lookup x = some c := by
  have q := PySem.W.cellsFrom_some sc.names n [] (.inl h)
  exact Option.isSome_iff_exists.mp q
theorem inv_start {CX : CXT} {P : Program} {w : World} {K : PySem.W.Frag} {mg : Str → Option Value} {base : Heap} {N ps : List Str} {qual : Str} {scope : Scope} {f : Addr} {cd : Value} {A : Around} {outer : List Env} {s s1 : Shared} {H : Hp} {E : XK} {us : List Value} {vs : List V}
    (S : FnScope N ps scope) (hd : A.handled = none) (e0 : Env0 P w K mg base A outer s H) (hl : vs.length = ps.length) (r : Vals vs us)
    (x : InCallC s s.heap.objs.size (bindL (envOfC qual scope s.heap.objs.size f cd).kindOf (ps.zip us) fun _ => none) (cellsFrom (s.heap.objs.size + 1) scope.names []) (bindC (envOfC qual scope s.heap.objs.size f cd).kindOf (ps.zip us) fun _ => none) s1) :
    Inv (cxOf CX P w K mg base N qual scope f cd A outer s H E) [] (start N vs) H s1 := by
  have hpl : ps.length ≤ N.length := by have := congrArg List.length S.pre; rw [List.length_take] at this; omega
  obtain ⟨h1, tk, rfl, hk⟩ := x.done
  have noA : ∀ b : Addr, b ∉ (cxOf CX P w K mg base N qual scope f cd A outer s H E).ex := fun b z => absurd (show b ∈ ([] : List Addr) from z) (by simp)
  refine ⟨⟨e0.mod, S.kind, rfl, rfl, Nat.le_refl _, fun y z c h1 h2 => ?_, fun y hy => ?_, fun y c _ h => ?_, fun _ => hd, Around.frames_deeper e0.frames, .inr ⟨rfl, rfl⟩, fun b z => absurd z (noA b), e0.bs, e0.bsz, fun b _ _ => noA b, fun b z => absurd z (noA b), e0.funs, e0.frf⟩,
    rfl, e0.bare, Un.kept hk, ⟨_, x.toInCall.ns, fun i y v h1 h2 h3 => ?_⟩, fun y c h => ⟨_, x.cell y c h⟩, e0.hok.fresh (Nat.le_refl _), fun y c h => ?_, fun p hp => absurd (show p ∈ ([] : List (Addr × Obj)) from hp) (by simp), e0.hok.kept hk, ?_⟩
  · exact name_of_addr x.apart (PySem.mem_of_lookup h1) (PySem.mem_of_lookup h2)
  · have hy : scope.names.lookup y = some .cell ∨ scope.names.lookup y = some .free := hy
    rcases hy with hy | hy
    · exact cell_has hy
    · exact absurd rfl (S.nofree _ (PySem.mem_of_lookup hy))
  · exact Nat.le_of_lt (x.above y c (PySem.mem_of_lookup h))
  · have hi : i < vs.length := by
      unfold start at h2
      by_cases hi : i < vs.length
      · exact hi
      · rw [List.getElem?_append_right (by simpa using hi)] at h2
        rw [List.getElem?_replicate] at h2
        split at h2 <;> cases h2
    have ha : vs[i]? = some v := by
      unfold start at h2
      rw [List.getElem?_append_left (by simpa using hi), List.getElem?_map] at h2
      cases e : vs[i]? with
      | none => rw [e] at h2; cases h2
      | some a => rw [e] at h2; cases h2; rfl
    obtain ⟨u, hu, rv⟩ := r.get ha
    have hp : ps[i]? = some y := by
      rw [← S.pre, List.getElem?_take_of_lt (by omega)]; exact h1
    have ndP : ps.Nodup := by rw [← S.pre]; exact S.nd.sublist (List.take_sublist _ _)
    refine ⟨u, rv, ?_⟩
    rcases S.par y (List.mem_of_getElem? hp) with k | k
    · exact .inl ⟨k, bindL_get ndP hp hu k⟩
    · obtain ⟨c, e⟩ := cell_has (n := s.heap.objs.size + 1) k
      refine .inr ⟨.inl k, c, e, ?_⟩
      have q := x.cell y c e
      rw [bindC_get ndP hp hu (by show scope.names.lookup y ≠ _; rw [k]; decide)] at q
      exact q
  · exact e0.hok.fresh (Nat.le_of_lt (x.above y c (PySem.mem_of_lookup h)))
  · unfold start
    show _ = N.length
    rw [List.length_append, List.length_map, List.length_replicate]
    omega
theorem fn_of {CX : CXT} {P : Program} {w : World} {K : PySem.W.Frag} {mg : Str → Option Value} {base : Heap} {k : Nat} {f : Addr} {name qual : Str} {params : Arguments} {body : List Stmt} {scope : Scope} {dV kV doc pm cdv ct oc : Value} {an od : Option Addr}
    {osl : Array (Option Value)} {N ps : List Str} {sp : Sp} (lk : K.lookup f = some ⟨oc, od, .func (PySem.W.fnOf name qual params body scope dV kV doc pm an cdv ct), osl⟩) (hcd : PySem.W.codeIn K cdv qual = true) (S : FnScope N ps scope)
    (len : ∀ vs H Q E, sp vs H Q E → vs.length = ps.length)
    (hbody : ∀ (A : Around) (outer : List Env) (s : Shared) (H : Hp) (vs : List V) (Q : VK) (E : XK), Room k (A.deeper (envOfC qual scope s.heap.objs.size f cdv)) → sp vs H Q E →
      ∃ t, PSs (cxOf CX P w K mg base N qual scope f cdv A outer s H E) body t ∧ t { nx := fun _ H' => Q .non H', rt := Q } (start N vs) H) :
    FnOk P w K mg base CX (k + 1) f (PySem.W.fnOf name qual params body scope dV kV doc pm an cdv ct) ps sp := by
  refine ⟨len, fun A outer s H args us vs Q E hr e0 hb r hsp => ?_⟩
  have hl := len _ _ _ _ hsp
  have KX : K.In s.heap := e0.mod.kin.keeps fun b o e => (e0.bs b o e).1
  have lim : s.heap.NoLimit := e0.mod.nolimit.keeps fun b o e => (e0.bs b o e).1
  have hkind : ∀ y ∈ ps.zip us, scope.names.lookup y.1 = some .local ∨ (scope.names.lookup y.1 = some .cell ∧ ((cellsFrom (s.heap.objs.size + 1) scope.names []).lookup y.1).isSome = true) := fun ⟨n, v⟩ hy => by
    rcases S.par n (List.of_mem_zip hy).1 with q | q
    · exact .inl q
    · exact .inr ⟨q, PySem.W.cellsFrom_some _ _ _ (.inl q)⟩
  refine codeAny_call_function hr.depth (KX _ _ lk) rfl S.co S.gen rfl (PySem.W.codeRec_of KX hcd) (hb _ _ _ _ ?_)
  refine wpAny_newFunctionEnv_cells S.kind hkind fun env he s1 x => ?_
  subst he
  refine ⟨lim.keeps x.toInCall.keep, codeAny_func ?_⟩
  obtain ⟨t, ht, hq⟩ := hbody A outer s H vs Q E (hr.deeper _) hsp
  have I : Inv (cxOf CX P w K mg base N qual scope f cdv A outer s H E) [] (start N vs) H s1 := inv_start S hr.hd e0 hl r x
  refine wpAny_mono (ht [] s1 (start N vs) H _ I hq) (fun fl s' hs => ?_) fun e s' hs => hs
  have fin : ∀ {σ' : St} {H' : Hp} {v : V} {u : Value}, Inv (cxOf CX P w K mg base N qual scope f cdv A outer s H E) [] σ' H' s' → RelV v u → Q v H' → CE outer P w H s Q u s' :=
    fun {σ' H' v u} J rv q => ⟨v, H', J.os, J.bare, J.base, J.hok, rv, q⟩
  cases fl with
  | ret u =>
    obtain ⟨v, σ', H', J, rv, q⟩ := hs
    exact fin J rv q
  | next =>
    obtain ⟨σ', H', J, q⟩ := hs
    exact fin (v := V.non) (u := Value.none) J rfl q
  | brk =>
    obtain ⟨_, _, _, q⟩ := hs
    exact False.elim q
  | cont =>
    obtain ⟨_, _, _, q⟩ := hs
    exact False.elim q
end L2
namespace L2
open PySem PySem.Spec PyProof.Rows
section
variable {X : Cx} {x : Str} {p pos : Pos} {e : Expr} {es : List Expr} {t : TA} {id T : String} {r : List V → Hp → VK → Prop}
noncomputable def tCB (r : List V → Hp → VK → Prop) (t : TA) : TE := fun σ H Q => t σ H fun vs H1 => r vs H1 Q
theorem pe_callB (hc : CallR X (.builtin id) r) (hg : Gl X x) (hm : X.mg x = none) (hv : bootBuiltins x = some (.builtin id)) (ha : PA X (e :: es) t) (hn : x ≠ "__name__" := by decide) (hdb : (x == ("__debug__" : Str)) = false := by decide)
    (he : starEach (e :: es) X.env = (false, eval e X.env) :: starEach es X.env := by rfl) (hpl : (backTo pos (starEach es X.env)).any (·.1) = false := by rfl) : PE X (.Call (.Name x p) (e :: es) [] pos) (tCB r t) := by
  intro pins s σ H Q I h
  refine wpAny_Call_Name_kw (ld_blt I hg hm hv ?_ hn hdb)
  exact PyProof.Rows.callWith_builtin1 (thn (ha pos pins s σ H _ I h) fun us s1 ⟨vs, H1, I1, r1, q1⟩ => hc pins s1 σ H1 vs us Q I1 r1 q1) he hpl
theorem pe_callTy (hc : CallR X (.type T) r) (hg : Gl X x) (hm : X.mg x = none) (hv : bootBuiltins x = some (.type T)) (ha : PA X (e :: es) t) (hn : x ≠ "__name__" := by decide) (hdb : (x == ("__debug__" : Str)) = false := by decide)
    (he : starEach (e :: es) X.env = (false, eval e X.env) :: starEach es X.env := by rfl) (hpl : (backTo pos (starEach es X.env)).any (·.1) = false := by rfl) : PE X (.Call (.Name x p) (e :: es) [] pos) (tCB r t) := by
  intro pins s σ H Q I h
  refine wpAny_Call_Name_kw (ld_blt I hg hm hv ?_ hn hdb)
  exact PyProof.Rows.callWith_type1 (thn (ha pos pins s σ H _ I h) fun us s1 ⟨vs, H1, I1, r1, q1⟩ => hc pins s1 σ H1 vs us Q I1 r1 q1) he hpl
end
end L2
namespace HT
open PySem PyProof.Rows
section
open PySem.SeqAt
open PySem.AutoSeq1 (wpAny_loadPart')
open PySem.MeetsSeq PySem.MeetsSeq2 PySem.MeetsSeq3
end
section
variable {prog : Program} {w : World} {A : Around} {E : Value → Shared → Prop} {s : Shared}
theorem cat_tup {t b : Addr} {vs ws : List Value} {Q : Value → Shared → Prop} (ht : IsTup s.heap t vs.toArray) (hb : IsTup s.heap b ws.toArray) (hv : vs ≠ [])
    (h1 : ws = [] → Q (.ref t) s) (h2 : ws ≠ [] → Q (.ref s.heap.objs.size) { s with heap := s.heap.push { cls := .type "tuple", data := .seq (vs ++ ws).toArray } })
    (hsz : vs.length + ws.length ≤ sizeLine) : wpAny (model prog w) A (binaryOp .Add (.ref t) (.ref b)) Q E s := by
  obtain ⟨⟨cls, dd, data, sl⟩, ho, hc, n, hd⟩ := id ht
  obtain ⟨⟨cls2, dd2, data2, sl2⟩, ho2, hc2, n2, hd2⟩ := id hb
  simp only at hc hd hc2 hd2
  subst hc hd hc2 hd2
  have e : vs.toArray ++ ws.toArray = (vs ++ ws).toArray := by simp
  by_cases hw : ws = []
  · exact concat_meets ⟨_, ho, rfl⟩ ⟨_, ho2, rfl⟩ noFill_tuple_add seq_tuple_add PySem.F.slot_tuple_add PySem.F.entry_tuple_add (PySem.F.args_tuple_add_2 _ _)
      (tuple_addW1 t b vs.toArray ws.toArray n n2 dd dd2 sl sl2 (by simpa using hv) (by simp [hw])) ⟨ho, ho2, h1 hw⟩
  · refine concat_meets ⟨_, ho, rfl⟩ ⟨_, ho2, rfl⟩ noFill_tuple_add seq_tuple_add PySem.F.slot_tuple_add PySem.F.entry_tuple_add (PySem.F.args_tuple_add_2 _ _)
      (tuple_addW2 t b vs.toArray ws.toArray n n2 dd dd2 sl sl2 (by simpa using hv) (by simpa using hw) (by rw [List.size_toArray, List.size_toArray]; exact hsz)) ⟨ho, ho2, ?_⟩
    rw [e]
    exact h2 hw
noncomputable def sIx (n d : Nat) : Option Int → Nat
  | none => d
  | some v => if v < 0 then (v + (n : Int)).toNat else min v.toNat n
theorem sIx_none (n d : Nat) : sIx n d none = d := rfl
theorem sIx_nat (n d k : Nat) : sIx n d (some (k : Int)) = min k n := by
  show (if (k : Int) < 0 then ((k : Int) + (n : Int)).toNat else min (k : Int).toNat n) = min k n
  rw [if_neg (by omega), Int.toNat_natCast]
theorem sIx_le (n d : Nat) (hd : d ≤ n) (o : Option Int) : sIx n d o ≤ n := by
  cases o with
  | none => exact hd
  | some v =>
    show (if v < 0 then (v + (n : Int)).toNat else min v.toNat n) ≤ n
    by_cases hv : v < 0
    · rw [if_pos hv]; omega
    · rw [if_neg hv]; exact Nat.min_le_right _ _
theorem clip_eq (v : Int) (n d : Nat) : (if v < 0 then max (v + (n : Int)) 0 else min v (n : Int)) = ((sIx n d (some v) : Nat) : Int) := by
  show (if v < 0 then max (v + (n : Int)) 0 else min v (n : Int)) = (((if v < 0 then (v + (n : Int)).toNat else min v.toNat n) : Nat) : Int)
  by_cases hv : v < 0
  · simp only [if_pos hv]; omega
  · simp only [if_neg hv]; omega
theorem adjust_gen (lo hi : Option Int) (n : Nat) : Builtin.Slice.sliceAdjust lo hi 1 (n : Int) = (((sIx n 0 lo : Nat) : Int), ((sIx n n hi : Nat) : Int)) := by
  have h1 : ¬ ((1 : Int) < 0) := by omega
  unfold Builtin.Slice.sliceAdjust
  simp only [h1, if_false]
  refine Prod.ext ?_ ?_
  · cases lo with
    | none => rfl
    | some v => exact clip_eq v n 0
  · cases hi with
    | none => rfl
    | some v => exact clip_eq v n n
theorem places_gen (i j : Nat) : Builtin.Slice.slicePlaces (i : Int) (j : Int) 1 = j - i := by
  unfold Builtin.Slice.slicePlaces
  have h1 : (1 : Int) > 0 := by omega
  simp only [h1, if_true, Int.ediv_one]
  split <;> omega
theorem slicePart_ {v : Value} {o : Option Int} {Q : Option Int → Shared → Prop} (p : IsPart v o) (h : Q o s) : wpAny (model prog w) A (Builtin.Slice.slicePartIndex v) Q E s := by
  cases p with
  | none => exact slicePart_none h
  | int i t => exact slicePart_int h
theorem sliceApplied_gen {sl : Addr} {vl vu : Value} {lo hi : Option Int} {n : Nat} {Q : Int × Int × Nat → Shared → Prop} (hs : s.heap.IsSliceOf sl vl vu .none) (pl : IsPart vl lo) (pu : IsPart vu hi)
    (h : Q (((sIx n 0 lo : Nat) : Int), 1, sIx n n hi - sIx n 0 lo) s) : wpAny (model prog w) A (Builtin.Slice.sliceApplied (.ref sl) (pure (n : Int))) Q E s := by
  obtain ⟨os, hos, hcs, hds⟩ := id hs
  unfold Builtin.Slice.sliceApplied Builtin.Slice.sliceFields
  refine wpAny_bind (wpAny_bind (wpAny_field hos hds (x := vl) rfl (wpAny_bind (wpAny_field hos hds (x := vu) rfl (wpAny_bind (wpAny_field hos hds (x := .none) rfl (wpAny_pure ?_)))))))
  refine wpAny_bind (slicePart_none ?_)
  show wpAny _ _ (if ((1 : Int) == 0) = true then _ else _) _ _ s
  rw [if_neg (by decide)]
  refine wpAny_bind (slicePart_ pl (wpAny_bind (slicePart_ pu (wpAny_bind (wpAny_pure ?_)))))
  show wpAny _ _ (match Builtin.Slice.sliceAdjust lo hi 1 (n : Int) with | (lo, hi) => pure (lo, (1 : Int), Builtin.Slice.slicePlaces lo hi 1)) _ _ s
  rw [adjust_gen lo hi n]
  show wpAny _ _ (pure (((sIx n 0 lo : Nat) : Int), (1 : Int), Builtin.Slice.slicePlaces ((sIx n 0 lo : Nat) : Int) ((sIx n n hi : Nat) : Int) 1)) _ _ s
  rw [places_gen]
  exact wpAny_pure h
theorem pick_gen (xs : Array Value) (i k : Nat) : ((List.range k).filterMap fun (m : Nat) => xs[((i : Int) + (m : Int) * 1).toNat]?).toArray = ((xs.toList.drop i).take k).toArray := by
  have e : (fun (m : Nat) => xs[((i : Int) + (m : Int) * 1).toNat]?) = fun m => xs[i + m]? := by
    funext m
    have : ((i : Int) + (m : Int) * 1).toNat = i + m := by omega
    rw [this]
  rw [e]
  have := pick_run xs i k
  rw [List.filterMap_map] at this
  have e2 : ((fun x => xs[x]?) ∘ fun x => i + x) = fun m => xs[i + m]? := rfl
  rw [e2] at this
  rw [this]
theorem getItem_tuple_cut {t sl : Addr} {items : Array Value} {vl vu : Value} {lo hi : Option Int} {Q : Value → Shared → Prop} (ht : IsTup s.heap t items) (hs : s.heap.IsSliceOf sl vl vu .none) (pl : IsPart vl lo) (pu : IsPart vu hi)
    (hw : ¬ (sIx items.size 0 lo = 0 ∧ sIx items.size items.size hi = items.size))
    (h : Q (.ref s.heap.objs.size) { s with heap := s.heap.push { cls := .type "tuple", data := .seq ((items.toList.drop (sIx items.size 0 lo)).take (sIx items.size items.size hi - sIx items.size 0 lo)).toArray } })
    (hsz : items.size ≤ sizeLine) : wpAny (model prog w) A (getItem (.ref t) (.ref sl)) Q E s := by
  have htake : sizeOk (.seq ((items.toList.drop (sIx items.size 0 lo)).take (sIx items.size items.size hi - sIx items.size 0 lo)).toArray) := by
    show ((items.toList.drop (sIx items.size 0 lo)).take (sIx items.size items.size hi - sIx items.size 0 lo)).toArray.size ≤ sizeLine
    rw [List.size_toArray, List.length_take, List.length_drop, Array.length_toList]
    omega
  have hj : sIx items.size items.size hi ≤ items.size := sIx_le _ _ (Nat.le_refl _) hi
  obtain ⟨os, hos, hcs, hds⟩ := id hs
  have hTs : s.TypeIs (.ref sl) "slice" := ⟨os, hos, hcs⟩
  unfold getItem
  try with_reducible refine wpAny_holding ?_
  first | refine wpAny_bind (wpAny_pure ?_) | skip
  refine wpAny_bind (wpAny_sequenceKey ht.typeIs (by decide) ?_)
  refine wpAny_bind (wpAny_callSpecial?_slot (name := Str.ofString "__getitem__") ht.typeIs PyProof.Rows.slot_tuple_getitem
    (wpAny_call_entry PyProof.Rows.slot_tuple_getitem ht.typeIs entry_tuple_getitem ?_ (args_tuple_getitem _ _)))
  show wpAny _ _ (Builtin.Tuple.tupleItemsOf (.ref t) >>= _) _ _ s
  refine wpAny_bind (tupleItemsOf_ ht ?_)
  refine wpAny_bind (wpAny_typeOf hTs ?_)
  rw [if_pos (by decide)]
  refine wpAny_bind (sliceApplied_gen hs pl pu ?_)
  have hno : ¬ ((((sIx items.size 0 lo : Nat) : Int) == 0 && (1 : Int) == 1 && (sIx items.size items.size hi - sIx items.size 0 lo) == items.size) = true) := by
    intro q
    rw [Bool.and_eq_true, Bool.and_eq_true] at q
    have q1 : ((sIx items.size 0 lo : Nat) : Int) = 0 := eq_of_beq q.1.1
    have q2 : sIx items.size items.size hi - sIx items.size 0 lo = items.size := eq_of_beq q.2
    exact hw ⟨by omega, by omega⟩
  show wpAny _ _ (if (((sIx items.size 0 lo : Nat) : Int) == 0 && (1 : Int) == 1 && (sIx items.size items.size hi - sIx items.size 0 lo) == items.size) = true then _ else _) _ _ s
  rw [if_neg hno, pick_gen]
  first
    | exact wpAny_bind (m := Builtin.Tuple.tupleExact _) (wpAny_newObj_type (wpAny_pure ⟨_, rfl, wpAny_pure h⟩) htake)
    | exact wpAny_bind (m := Builtin.Tuple.tupleExact _) (wpAny_newObj_type (wpAny_bind (wpAny_pure (wpAny_pure ⟨_, rfl, wpAny_pure h⟩))) htake)
    | exact wpAny_bind (wpAny_bind (m := Builtin.Tuple.tupleExact _) (wpAny_newObj_type (wpAny_pure (wpAny_pure ⟨_, rfl, wpAny_pure h⟩)) htake))
    | exact wpAny_bind (wpAny_bind (m := Builtin.Tuple.tupleExact _) (wpAny_newObj_type (wpAny_pure ⟨_, rfl, wpAny_pure h⟩) htake))
end
end HT
namespace L2
open PySem PySem.Spec PyProof.Rows
noncomputable abbrev TO := St → Hp → (Option Int → Hp → Prop) → Prop
noncomputable def PO (X : Cx) (e : Option Expr) (t : TO) : Prop :=
  ∀ (pins : List (Addr × Obj)) (s : Shared) (σ : St) (H : Hp) (Q : Option Int → Hp → Prop), Inv X pins σ H s → t σ H Q →
    wpAny (model X.prog X.w) X.A (evalPart e X.env) (fun u s' => ∃ o H', Inv X pins σ H' s' ∧ IsPart u o ∧ Q o H') X.xe s
noncomputable def tNoPart : TO := fun _ H Q => Q none H
noncomputable def tPart (t : TE) : TO := fun σ H Q => t σ H fun x H1 => ∃ i, x = .int i ∧ Q (some i) H1
section
variable {X : Cx} {e : Expr} {te : TE} {lo hi : Option Expr} {tl th : TO} {pos p2 : Pos}
theorem po_none : PO X none tNoPart := by
  intro pins s σ H Q I h
  rw [evalPart_none]
  exact wpAny_pure ⟨none, H, I, .none, h⟩
theorem po_some (h : PE X e te) : PO X (some e) (tPart te) := by
  intro pins s σ H Q I hw
  rw [evalPart_some]
  refine thn (h pins s σ H _ I hw) fun u s1 ⟨x, H1, I1, r1, q1⟩ => ?_
  obtain ⟨i, rfl, q⟩ := q1
  obtain ⟨t, rfl⟩ := r1
  exact ⟨some i, H1, I1, .int i t, q⟩
noncomputable def SlR (X : Cx) (r : V → Option Int → Option Int → Hp → VK → Prop) : Prop :=
  ∀ (pins : List (Addr × Obj)) (s : Shared) (σ : St) (H : Hp) (x : V) (v vl vu : Value) (lo hi : Option Int) (sl : Addr) (Q : VK), Inv X pins σ H s → RelV x v → s.heap.IsSliceOf sl vl vu .none → IsPart vl lo → IsPart vu hi → r x lo hi H Q →
    ∃ T id, typeLookup (.type T) "__getitem__" = pure (some (.builtin id)) ∧ s.TypeIs v T ∧ wpAny (model X.prog X.w) X.A (getItem v (.ref sl)) (EP X pins σ Q) X.xe s
theorem SlR.or {r r' : V → Option Int → Option Int → Hp → VK → Prop} (h : SlR X r) (h' : SlR X r') : SlR X (fun x lo hi H Q => r x lo hi H Q ∨ r' x lo hi H Q) := by
  intro pins s σ H x v vl vu lo hi sl Q I rx hs pl pu q
  rcases q with q | q
  · exact h pins s σ H x v vl vu lo hi sl Q I rx hs pl pu q
  · exact h' pins s σ H x v vl vu lo hi sl Q I rx hs pl pu q
noncomputable def tSl (r : V → Option Int → Option Int → Hp → VK → Prop) (te : TE) (tl th : TO) : TE := fun σ H Q => te σ H fun x H1 => tl σ H1 fun l H2 => th σ H2 fun u H3 => r x l u H3 Q
theorem pe_slice {r : V → Option Int → Option Int → Hp → VK → Prop} (hr : SlR X r) (he : PE X e te) (hl : PO X lo tl) (hu : PO X hi th) : PE X (.Subscript e (.Slice lo hi none p2) pos) (tSl r te tl th) := by
  intro pins s σ H Q I h
  refine Subscript_ (thn (he pins s σ H _ I h) fun v s1 ⟨x, H1, I1, r1, q1⟩ => ?_)
  refine wpAny_Slice (thn (hl pins s1 σ H1 _ I1 q1) fun vl s2 ⟨l, H2, I2, pl, q2⟩ => thn (hu pins s2 σ H2 _ I2 q2) fun vu s3 ⟨u, H3, I3, pu, q3⟩ => ?_)
  rw [evalPart_none]
  refine wpAny_pure ?_
  have I4 : Inv X pins σ H3 { s3 with heap := s3.heap.push { cls := .type "slice", data := .fields #[vl, vu, .none] } } := I3.kept (t' := s3.toks) fun b ob q => Heap.get?_push_of_some _ q
  obtain ⟨T, id, hT, ht, hg⟩ := hr pins { s3 with heap := s3.heap.push { cls := .type "slice", data := .fields #[vl, vu, .none] } } σ H3 x v vl vu l u s3.heap.objs.size Q I4 r1 (Heap.IsSliceOf.new ..) pl pu q3
  show wpAny (model X.prog X.w) X.A (subscriptTail e (.Slice lo hi none p2) v (.ref s3.heap.objs.size)) (EP X pins σ Q) X.xe { s3 with heap := s3.heap.push { cls := .type "slice", data := .fields #[vl, vu, .none] } }
  exact tail_any (ops := [.ref s3.heap.objs.size, v]) ht hT hg (by with_unfolding_all rfl)
noncomputable def cutV (xs : List V) (lo hi : Option Int) : List V := (xs.drop (HT.sIx xs.length 0 lo)).take (HT.sIx xs.length xs.length hi - HT.sIx xs.length 0 lo)
theorem cutV_length (xs : List V) (lo hi : Option Int) : (cutV xs lo hi).length ≤ xs.length := by
  unfold cutV
  rw [List.length_take, List.length_drop]
  omega
noncomputable def rSlT (K : PySem.W.Frag) : V → Option Int → Option Int → Hp → VK → Prop := fun x lo hi H Q => ∃ a xs, x = .ref a ∧ SqT K H a xs ∧
  ¬ (HT.sIx xs.length 0 lo = 0 ∧ HT.sIx xs.length xs.length hi = xs.length) ∧ ∀ p, H p = none → Q (.ref p) (upd H p (.tup (cutV xs lo hi)))
theorem sl_tup : SlR X (rSlT X.K) := by
  intro pins s σ H x v vl vu lo hi sl Q I rx hs pl pu h
  obtain ⟨a, xs, rfl, hx, hw, q⟩ := h
  cases rx
  obtain ⟨its, r, ht, hz⟩ := I.tuple hx
  have hlen : its.toArray.size = xs.length := by rw [List.size_toArray]; exact r.length.symm
  refine ⟨"tuple", _, PyProof.Rows.slot_tuple_getitem.lookup, ht.typeIs, ?_⟩
  refine HT.getItem_tuple_cut ht hs pl pu (by rw [hlen]; exact hw) ?_ (by rw [hlen]; exact hz)
  rw [hlen]
  refine ⟨.ref s.heap.objs.size, _, I.laid (t' := s.toks) (o := .tup (cutV xs lo hi)) (fun b ob q => Heap.get?_push_of_some _ q) (Nat.le_refl _) ?_, rfl, q _ (I.hok.fresh (Nat.le_refl _))⟩
  exact ⟨Nat.le_trans (cutV_length xs lo hi) hz, _, (r.drop (HT.sIx xs.length 0 lo)).take (HT.sIx xs.length xs.length hi - HT.sIx xs.length 0 lo), IsTup.new _ _⟩
noncomputable def rCatT (K : PySem.W.Frag) : R2 := fun x y H Q => ∃ a b xs ys, x = .ref a ∧ y = .ref b ∧ SqT K H a xs ∧ SqT K H b ys ∧ xs ≠ [] ∧ xs.length + ys.length ≤ sizeLine ∧
  (ys = [] → Q (.ref a) H) ∧ (ys ≠ [] → ∀ p, H p = none → Q (.ref p) (upd H p (.tup (xs ++ ys))))
theorem Vals.nil_iff {xs : List V} {us : List Value} (r : Vals xs us) : us = [] ↔ xs = [] := by
  cases r with
  | nil => simp
  | cons _ _ => simp
theorem op_catT : OpR X (binaryOp .Add) (rCatT X.K) := by
  intro pins s σ H x y v u Q I rx ry h
  obtain ⟨a, b, xs, ys, rfl, rfl, ha, hb, hx, hz, q1, q2⟩ := h
  cases rx
  cases ry
  obtain ⟨its, r1, p1, _⟩ := I.tuple ha
  obtain ⟨its2, r2, p2, _⟩ := I.tuple hb
  refine HT.cat_tup p1 p2 (fun z => hx (r1.nil_iff.mp z)) (fun z => ⟨.ref a, H, I, rfl, q1 (r2.nil_iff.mp z)⟩) (fun z => ?_) (by rw [← r1.length, ← r2.length]; exact hz)
  refine ⟨.ref s.heap.objs.size, _, I.laid (t' := s.toks) (o := .tup (xs ++ ys)) (fun b ob q => Heap.get?_push_of_some _ q) (Nat.le_refl _) ?_, rfl, q2 (fun w => z (r2.nil_iff.mpr w)) _ (I.hok.fresh (Nat.le_refl _))⟩
  exact ⟨by rw [List.length_append]; exact hz, _, r1.append r2, IsTup.new _ _⟩
end
end L2
namespace L2
open PySem PySem.Spec PyProof.Rows
noncomputable def ixN (n : Nat) (i : Int) : Option Nat := if 0 ≤ i then (if i < n then some i.toNat else none) else if -(n : Int) ≤ i then some (i + n).toNat else none
noncomputable def atI {α : Type} (xs : List α) (i : Int) : Option α := (ixN xs.length i).bind fun j => xs[j]?
theorem ixN_seq {n : Nat} {i : Int} {j : Nat} (h : ixN n i = some j) : seqIndex? i n = some j ∧ j < n ∧ -(n : Int) ≤ i ∧ i < n := by
  unfold ixN at h
  by_cases h0 : 0 ≤ i
  · rw [if_pos h0] at h
    by_cases h1 : i < n
    · rw [if_pos h1] at h
      have e : i.toNat = j := Option.some.inj h
      exact ⟨by rw [seqIndex_of h0 h1, e], by omega, by omega, h1⟩
    · rw [if_neg h1] at h; cases h
  · rw [if_neg h0] at h
    by_cases h1 : -(n : Int) ≤ i
    · rw [if_pos h1] at h
      have e : (i + n).toNat = j := Option.some.inj h
      exact ⟨by rw [seqIndex_neg (by omega) h1, e], by omega, h1, by omega⟩
    · rw [if_neg h1] at h; cases h
theorem atI_get {α : Type} {xs : List α} {i : Int} {v : α} (h : atI xs i = some v) : ∃ j, seqIndex? i xs.length = some j ∧ xs[j]? = some v ∧ j < xs.length ∧ -(xs.length : Int) ≤ i ∧ i < xs.length := by
  unfold atI at h
  cases e : ixN xs.length i with
  | none => rw [e] at h; cases h
  | some j =>
    rw [e] at h
    obtain ⟨h1, h2, h3, h4⟩ := ixN_seq e
    exact ⟨j, h1, h, h2, h3, h4⟩
theorem atI_nat {α : Type} {xs : List α} {j : Nat} {v : α} (h : xs[j]? = some v) : atI xs (j : Int) = some v := by
  have hj : j < xs.length := (List.getElem?_eq_some_iff.mp h).1
  have e : ixN xs.length (j : Int) = some j := by
    unfold ixN
    rw [if_pos (by omega), if_pos (by omega)]; simp
  unfold atI; rw [e]; exact h
noncomputable def PlainIx (b : Expr) : Prop := ∀ o i, subscripted b false o i = operate [o, i] (getItem o i)
noncomputable def IxR (X : Cx) (r : R2) : Prop :=
  ∀ (value slice : Expr) (pins : List (Addr × Obj)) (s : Shared) (σ : St) (H : Hp) (x y : V) (v u : Value) (Q : VK), Inv X pins σ H s → RelV x v → RelV y u → r x y H Q →
    subscripted slice false v u = operate [v, u] (getItem v u) → wpAny (model X.prog X.w) X.A (subscriptTail value slice v u) (EP X pins σ Q) X.xe s
noncomputable def MtR (X : Cx) (id : String) (r : V → List V → Hp → VK → Prop) : Prop :=
  ∀ (pins : List (Addr × Obj)) (s : Shared) (σ : St) (H : Hp) (x : V) (xs : List V) (v : Value) (us : List Value) (Q : VK), Inv X pins σ H s → RelV x v → Vals xs us → r x xs H Q →
    wpAny (model X.prog X.w) X.A (call (.builtin id) (v :: us)) (EP X pins σ Q) X.xe s
section
variable {X : Cx} {a b : Expr} {ta tb : TE} {pos : Pos}
theorem IxR.or {r r' : R2} (h : IxR X r) (h' : IxR X r') : IxR X (fun x y H Q => r x y H Q ∨ r' x y H Q) := by
  intro value slice pins s σ H x y v u Q I rx ry q hs
  rcases q with q | q
  · exact h value slice pins s σ H x y v u Q I rx ry q hs
  · exact h' value slice pins s σ H x y v u Q I rx ry q hs
theorem pe_ix {r : R2} (hr : IxR X r) (ha : PE X a ta) (hb : PE X b tb) (hs : PlainIx b) : PE X (.Subscript a b pos) (tOp r ta tb) := by
  intro pins s σ H Q I h
  exact Subscript_ (binT ha hb I h fun v u s2 x y H2 I2 rx ry q => hr a b pins s2 σ H2 x y v u Q I2 rx ry q (hs _ _))
noncomputable def rIxL (K : PySem.W.Frag) : R2 := fun x y H Q => ∃ p xs i v, x = .ref p ∧ y = .int i ∧ SqL K H p xs ∧ atI xs i = some v ∧ Q v H
noncomputable def rIxT (K : PySem.W.Frag) : R2 := fun x y H Q => ∃ p xs i v, x = .ref p ∧ y = .int i ∧ SqT K H p xs ∧ atI xs i = some v ∧ Q v H
noncomputable def rIxS : R2 := fun x y H Q => ∃ z i c, x = .str z ∧ y = .int i ∧ z.length ≤ sizeLine ∧ atI z.cps.toList i = some c ∧ Q (.str ⟨#[c]⟩) H
theorem ix_list : IxR X (rIxL X.K) := by
  intro value slice pins s σ H x y v u Q I rx ry h hs
  obtain ⟨p, xs, i, z, rfl, rfl, hq, he, q⟩ := h
  cases rx
  obtain ⟨t, rfl⟩ := ry
  obtain ⟨its, r, pl, hz⟩ := I.list hq
  obtain ⟨j, h1, h2, h3, h4, h5⟩ := atI_get he
  obtain ⟨w, ew, rw'⟩ := r.get h2
  have hl := r.length
  have hn := line63
  have fin : EP X pins σ Q w s := ⟨z, H, I, rw', q⟩
  by_cases h0 : 0 ≤ i
  · have hj : i.toNat = j := by
      rw [seqIndex_of h0 h5] at h1
      exact Option.some.inj h1
    exact item_listR pl.isList h0 (by omega) (by rw [hj]; simpa using ew) fin hs
  · have hj : (i + (its.toArray.size : Int)).toNat = j := by
      rw [seqIndex_neg (by omega) h4] at h1
      rw [List.size_toArray, ← hl]
      exact Option.some.inj h1
    exact subscriptTail_builtinR (x := w) pl.isList.typeIs slot_list_getitem.lookup
      (wpAny_getItem_list_neg (Q := fun r s' => r = w ∧ EP X pins σ Q r s') pl.isList (by omega) (by rw [List.size_toArray] <;> omega) (by omega) (by rw [hj]; simpa using ew) ⟨rfl, fin⟩) hs
theorem ix_tup : IxR X (rIxT X.K) := by
  intro value slice pins s σ H x y v u Q I rx ry h hs
  obtain ⟨p, xs, i, z, rfl, rfl, hq, he, q⟩ := h
  cases rx
  obtain ⟨t, rfl⟩ := ry
  obtain ⟨its, r, pl, hz⟩ := I.tuple hq
  obtain ⟨j, h1, h2, h3, h4, h5⟩ := atI_get he
  obtain ⟨w, ew, rw'⟩ := r.get h2
  have hl := r.length
  have hn := line63
  have fin : EP X pins σ Q w s := ⟨z, H, I, rw', q⟩
  exact subscriptTail_builtinR (x := w) pl.typeIs slot_tuple_getitem.lookup
    (getItem_tuple (j := j) (Q := fun r s' => r = w ∧ EP X pins σ Q r s') pl (by omega) (by omega) (by rw [List.size_toArray, ← hl]; exact h1) (by simpa using ew) ⟨rfl, fin⟩) hs
theorem ix_str : IxR X rIxS := by
  intro value slice pins s σ H x y v u Q I rx ry h hs
  obtain ⟨z, i, c, rfl, rfl, hz, he, q⟩ := h
  obtain ⟨t, rfl⟩ := rx
  obtain ⟨t', rfl⟩ := ry
  obtain ⟨j, h1, h2, h3, h4, h5⟩ := atI_get he
  have hl : z.cps.toList.length = z.length := by simp [Str.length]
  rw [hl] at h1 h4 h5
  have hn := line63
  exact tail_any (typeIs_str s z t) slot_str_getitem.lookup (getItem_str (c := c) (by
    have e1 : decide (i < -(2 ^ 63 : Int)) = false := decide_eq_false (by omega)
    have e2 : decide (i ≥ 2 ^ 63) = false := decide_eq_false (by omega)
    rw [e1, e2, Bool.or_false]) (by rw [h1]; simpa using h2) ⟨.str ⟨#[c]⟩, H, I.tok _, ⟨_, rfl⟩, q⟩) hs
noncomputable def rIx (K : PySem.W.Frag) : R2 := fun x y H Q => rIxL K x y H Q ∨ rIxT K x y H Q ∨ rIxS x y H Q
theorem ix_seq : IxR X (rIx X.K) := ix_list.or (ix_tup.or ix_str)
theorem mapSeq_set (its : List Value) (n j : Nat) (u : Value) : Obj.mapSeq (·.setIfInBounds j u) { cls := .type "list", data := .seq its.toArray n } = { cls := .type "list", data := .seq (its.set j u).toArray n } := by
  simp [Obj.mapSeq]
theorem Inv.lst {pins : List (Addr × Obj)} {σ : St} {H : Hp} {s : Shared} {p : Addr} {xs : List V} (I : Inv X pins σ H s) (h : H p = some (.lst xs)) :
    ∃ (its : List Value) (n : Nat), Vals xs its ∧ s.heap.get? p = some { cls := .type "list", data := .seq its.toArray n } ∧ xs.length ≤ sizeLine := by
  obtain ⟨z, its, n, r, e⟩ := I.hok p _ h
  exact ⟨its, n, r, e, z⟩
theorem Inv.lstUpd {pins : List (Addr × Obj)} {σ : St} {H : Hp} {s : Shared} {p : Addr} {xs ys : List V} {its its' : List Value} {n n' : Nat} {f : Obj → Obj} (I : Inv X pins σ H s) (h : H p = some (.lst xs))
    (ho : s.heap.get? p = some { cls := .type "list", data := .seq its.toArray n }) (hf : f { cls := .type "list", data := .seq its.toArray n } = { cls := .type "list", data := .seq its'.toArray n' }) (r : Vals ys its') (hz : ys.length ≤ sizeLine) (t : Nat) :
    Inv X pins σ (upd H p (.lst ys)) { s with heap := s.heap.update p f, toks := t } := by
  have e : (s.heap.update p f).get? p = some { cls := .type "list", data := .seq its'.toArray n' } := by
    rw [Heap.get?_update_self f ho (by rw [hf] <;> rfl), hf]
  refine I.write (x := p) (e := p) (by rw [h]; trivial) (.inl rfl) (fun b u hb q => (Heap.get?_update_other _ _ (Ne.symm hb)).trans q) ⟨_, e⟩ ?_
  exact ⟨hz, its', n', r, e⟩
noncomputable def rSetL : V → V → V → Hp → (Hp → Prop) → Prop := fun o i v H Q => ∃ p xs k j, o = .ref p ∧ i = .int k ∧ H p = some (.lst xs) ∧ ixN xs.length k = some j ∧ Q (upd H p (.lst (xs.set j v)))
theorem set_list : PSet X rSetL := by
  intro pins s σ H o i v ov iv u Q I ro ri rv h
  obtain ⟨p, xs, k, j, rfl, rfl, hp, hj, q⟩ := h
  cases ro
  obtain ⟨t, rfl⟩ := ri
  obtain ⟨its, n, r, ho, hz⟩ := I.lst hp
  obtain ⟨h1, h2, h3, h4⟩ := ixN_seq hj
  have hl := r.length
  have hn := line63
  have I' : Inv X pins σ (upd H p (.lst (xs.set j v))) { s with heap := s.heap.update p (Obj.mapSeq (·.setIfInBounds j u)) } :=
    I.lstUpd hp ho (mapSeq_set its n j u) (r.set rv j) (by rw [List.length_set]; exact hz) s.toks
  by_cases h0 : 0 ≤ k
  · have hk : k.toNat = j := by
      rw [seqIndex_of h0 h4] at h1
      exact Option.some.inj h1
    exact PySem.W.ki_setAt ho h0 (by omega) (by rw [List.size_toArray, ← hl]; exact h4) (by rw [hk]; exact ⟨_, I', q⟩)
  · have hk : (k + (its.toArray.size : Int)).toNat = j := by
      rw [seqIndex_neg (by omega) h3] at h1
      rw [List.size_toArray, ← hl]
      exact Option.some.inj h1
    exact PySem.W.ki_setBack ho (by omega) (by rw [List.size_toArray, ← hl]; exact h3) (by omega) (by rw [hk]; exact ⟨_, I', q⟩)
theorem slice_bounds (lo hi : Option Int) (n : Nat) : (sliceBounds lo hi none n).1 = ((HT.sIx n 0 lo : Nat) : Int) ∧ (sliceBounds lo hi none n).2.1 = ((HT.sIx n n hi : Nat) : Int) ∧ (sliceBounds lo hi none n).2.2 = 1 := by
  refine ⟨?_, ?_, rfl⟩
  · cases lo with
    | none => simp [sliceBounds, HT.sIx]
    | some i =>
      simp only [sliceBounds, HT.sIx, Option.getD_none, show (1 : Int) > 0 by decide, if_true]
      by_cases h : i < 0
      · simp only [h, if_true] <;> omega
      · simp only [h, if_false] <;> omega
  · cases hi with
    | none => simp [sliceBounds, HT.sIx]
    | some i =>
      simp only [sliceBounds, HT.sIx, Option.getD_none, show (1 : Int) > 0 by decide, if_true]
      by_cases h : i < 0
      · simp only [h, if_true] <;> omega
      · simp only [h, if_false] <;> omega
theorem slicePick_cut (its : List Value) (lo hi : Option Int) : slicePick its.toArray lo hi none = ((its.drop (HT.sIx its.length 0 lo)).take (HT.sIx its.length its.length hi - HT.sIx its.length 0 lo)).toArray := by
  obtain ⟨h1, h2, h3⟩ := slice_bounds lo hi its.toArray.size
  unfold slicePick
  rw [h1, h2, h3]
  simp only [sliceRange_one, pick_run, List.size_toArray] <;> rfl
noncomputable def rSlL (K : PySem.W.Frag) : V → Option Int → Option Int → Hp → VK → Prop := fun x lo hi H Q => ∃ a xs, x = .ref a ∧ SqL K H a xs ∧ ∀ p, H p = none → Q (.ref p) (upd H p (.lst (cutV xs lo hi)))
theorem sl_list : SlR X (rSlL X.K) := by
  intro pins s σ H x v vl vu lo hi sl Q I rx hs pl pu h
  obtain ⟨a, xs, rfl, hx, q⟩ := h
  cases rx
  obtain ⟨its, r, ht, hz⟩ := I.list hx
  have hlen := r.length
  refine ⟨"list", _, slot_list_getitem.lookup, ht.isList.typeIs, ?_⟩
  refine wpAny_getItem_list_slice ht.isList hs pl pu .none (by simp) ?_ (by rw [List.size_toArray] <;> omega)
  rw [slicePick_cut, ← hlen]
  refine ⟨.ref s.heap.objs.size, _, I.laid (t' := s.toks) (o := .lst (cutV xs lo hi)) (fun b ob q => Heap.get?_push_of_some _ q) (Nat.le_refl _) ?_, rfl, q _ (I.hok.fresh (Nat.le_refl _))⟩
  exact ⟨Nat.le_trans (cutV_length xs lo hi) hz, _, 0, (r.drop (HT.sIx xs.length 0 lo)).take (HT.sIx xs.length xs.length hi - HT.sIx xs.length 0 lo), Heap.get?_push_size _ rfl⟩
noncomputable def flatV : V → Bool
  | .non => true
  | .bl _ => true
  | .int _ => true
  | .str _ => true
  | _ => false
noncomputable def eqV : V → V → Bool
  | .non, .non => true
  | .bl a, .bl b => a == b
  | .bl a, .int b => (if a then 1 else 0) == b
  | .int a, .bl b => a == (if b then 1 else 0)
  | .int a, .int b => a == b
  | .str a, .str b => a == b
  | _, _ => false
theorem eqAt_V {A : Around} {s : Shared} {y x : V} {u v : Value} (ry : RelV y u) (rx : RelV x v) (fy : flatV y = true) (fx : flatV x = true) : SeqAt.EqAt A s u v (eqV y x) := by
  cases y with
  | non =>
    cases ry
    cases x with
    | non => cases rx; exact SeqAt.EqAt.same _
    | bl b => cases rx; exact SeqAt.EqAt.none_bool b
    | int b => obtain ⟨t, rfl⟩ := rx; exact SeqAt.EqAt.none_int b t
    | str b => obtain ⟨t, rfl⟩ := rx; exact SeqAt.EqAt.none_str b t
    | _ => exact absurd (show false = true from fx) Bool.false_ne_true
  | bl a =>
    cases ry
    cases x with
    | non => cases rx; exact SeqAt.EqAt.bool_none a
    | bl b => cases rx; exact SeqAt.EqAt.bool_bool a b
    | int b => obtain ⟨t, rfl⟩ := rx; exact SeqAt.EqAt.bool_int a b t
    | str b => obtain ⟨t, rfl⟩ := rx; exact SeqAt.EqAt.bool_str a b t
    | _ => exact absurd (show false = true from fx) Bool.false_ne_true
  | int a =>
    obtain ⟨t', rfl⟩ := ry
    cases x with
    | non => cases rx; exact SeqAt.EqAt.int_none a t'
    | bl b => cases rx; exact SeqAt.EqAt.int_bool a t' b
    | int b => obtain ⟨t, rfl⟩ := rx; exact SeqAt.EqAt.int_int a t' b t
    | str b => obtain ⟨t, rfl⟩ := rx; exact SeqAt.EqAt.int_str a t' b t
    | _ => exact absurd (show false = true from fx) Bool.false_ne_true
  | str a =>
    obtain ⟨t', rfl⟩ := ry
    cases x with
    | non => cases rx; exact SeqAt.EqAt.str_none a t'
    | bl b => cases rx; exact SeqAt.EqAt.str_bool a t' b
    | int b => obtain ⟨t, rfl⟩ := rx; exact SeqAt.EqAt.str_int a t' b t
    | str b => obtain ⟨t, rfl⟩ := rx; exact SeqAt.EqAt.str_str a t' b t
    | _ => exact absurd (show false = true from fx) Bool.false_ne_true
  | _ => exact absurd (show false = true from fy) Bool.false_ne_true
noncomputable def eqU (x : V) (u : Value) : Bool := match u with
  | .none => eqV .non x
  | .bool b => eqV (.bl b) x
  | .int i _ => eqV (.int i) x
  | .str z _ => eqV (.str z) x
  | _ => false
theorem eqU_of {x y : V} {u : Value} (r : RelV y u) (f : flatV y = true) : eqU x u = eqV y x := by
  cases y with
  | non => cases r; rfl
  | bl b => cases r; rfl
  | int i => obtain ⟨t, rfl⟩ := r; rfl
  | str z => obtain ⟨t, rfl⟩ := r; rfl
  | _ => exact absurd (show false = true from f) Bool.false_ne_true
theorem any_eqU {x : V} : ∀ {xs : List V} {us : List Value}, Vals xs us → xs.all flatV = true → us.any (eqU x) = xs.any fun y => eqV y x
  | _, _, .nil, _ => rfl
  | y :: xs, u :: us, .cons r t, f => by
    rw [List.all_cons, Bool.and_eq_true] at f
    rw [List.any_cons, List.any_cons, eqU_of r f.1, any_eqU t f.2]
theorem mem_eqAt {A : Around} {s : Shared} {x : V} {v : Value} (rx : RelV x v) (fx : flatV x = true) : ∀ {xs : List V} {us : List Value}, Vals xs us → xs.all flatV = true → ∀ u ∈ us, SeqAt.EqAt A s u v (eqU x u)
  | _, _, .nil, _ => fun u hu => by cases hu
  | y :: xs, u :: us, .cons r t, f => fun u' hu => by
    rw [List.all_cons, Bool.and_eq_true] at f
    rcases List.mem_cons.mp hu with rfl | hu
    · rw [eqU_of r f.1]; exact eqAt_V r rx f.1 fx
    · exact mem_eqAt rx fx t f.2 u' hu
noncomputable def inV (x : V) (xs : List V) : Bool := xs.any fun y => eqV y x
noncomputable def rIn (K : PySem.W.Frag) (neg : Bool) : R2 := fun x y H Q => ∃ p xs, y = .ref p ∧ (SqL K H p xs ∨ SqT K H p xs) ∧ flatV x = true ∧ xs.all flatV = true ∧ Q (.bl (if neg then !inV x xs else inV x xs)) H
theorem op_in_seq : OpR X (compareOp .In) (rIn X.K false) := by
  intro pins s σ H x y v u Q I rx ry h
  obtain ⟨p, xs, rfl, hq, fx, fs, q⟩ := h
  cases ry
  rcases hq with hq | hq
  · obtain ⟨its, r, pl, hz⟩ := I.list hq
    refine SeqAt.in_listAt (eqU x) pl.isList (fun w hw => mem_eqAt rx fx r fs w (by simpa using hw)) ⟨.bl _, H, I, rfl, ?_⟩
    rw [show its.toArray.any (eqU x) = its.any (eqU x) by simp, any_eqU r fs]
    exact q
  · obtain ⟨its, r, pl, hz⟩ := I.tuple hq
    refine SeqAt.in_tupleAt (eqU x) pl (fun w hw => mem_eqAt rx fx r fs w (by simpa using hw)) ⟨.bl _, H, I, rfl, ?_⟩
    rw [show its.toArray.any (eqU x) = its.any (eqU x) by simp, any_eqU r fs]
    exact q
theorem op_notIn_seq : OpR X (compareOp .NotIn) (rIn X.K true) := by
  intro pins s σ H x y v u Q I rx ry h
  obtain ⟨p, xs, rfl, hq, fx, fs, q⟩ := h
  cases ry
  rcases hq with hq | hq
  · obtain ⟨its, r, pl, hz⟩ := I.list hq
    refine SeqAt.notIn_listAt (eqU x) pl.isList (fun w hw => mem_eqAt rx fx r fs w (by simpa using hw)) ⟨.bl _, H, I, rfl, ?_⟩
    rw [show its.toArray.any (eqU x) = its.any (eqU x) by simp, any_eqU r fs]
    exact q
  · obtain ⟨its, r, pl, hz⟩ := I.tuple hq
    refine SeqAt.notIn_tupleAt (eqU x) pl (fun w hw => mem_eqAt rx fx r fs w (by simpa using hw)) ⟨.bl _, H, I, rfl, ?_⟩
    rw [show its.toArray.any (eqU x) = its.any (eqU x) by simp, any_eqU r fs]
    exact q
theorem call_len_seq : CallR X (.builtin "len") (fun xs H Q => ∃ p ys, xs = [.ref p] ∧ (SqL X.K H p ys ∨ SqT X.K H p ys) ∧ Q (.int ys.length) H) := by
  intro pins s σ H xs us Q I r h
  obtain ⟨p, ys, rfl, hq, q⟩ := h
  obtain ⟨u, rfl, rx⟩ := vals1 r
  cases rx
  have hn := line63
  rcases hq with hq | hq
  · obtain ⟨its, r', pl, hz⟩ := I.list hq
    have hlen := r'.length
    exact Calls.call_len_list pl.isList (by simp only [List.size_toArray] <;> omega) ⟨.int ys.length, H, I.tok _, ⟨s.toks + 1, by rw [List.size_toArray, hlen]⟩, q⟩
  · obtain ⟨its, r', pl, hz⟩ := I.tuple hq
    have hlen := r'.length
    exact len_tuple pl (by simp only [List.size_toArray] <;> omega) ⟨.int ys.length, H, I.tok _, ⟨s.toks + 1, by rw [List.size_toArray, hlen]⟩, q⟩
theorem call_len_str : CallR X (.builtin "len") (fun xs H Q => ∃ z, xs = [.str z] ∧ z.length ≤ sizeLine ∧ Q (.int z.length) H) := by
  intro pins s σ H xs us Q I r h
  obtain ⟨z, rfl, hz, q⟩ := h
  obtain ⟨u, rfl, t, rfl⟩ := vals1 r
  have hn := line63
  exact len_str (by omega) ⟨.int z.length, H, I.tok _, ⟨_, rfl⟩, q⟩
theorem CallR.or {f : Value} {r r' : List V → Hp → VK → Prop} (h : CallR X f r) (h' : CallR X f r') : CallR X f (fun xs H Q => r xs H Q ∨ r' xs H Q) := by
  intro pins s σ H xs us Q I rs q
  rcases q with q | q
  · exact h pins s σ H xs us Q I rs q
  · exact h' pins s σ H xs us Q I rs q
theorem call_list_of : CallR X (.type "list") (fun xs H Q => ∃ p ys, xs = [.ref p] ∧ (SqL X.K H p ys ∨ SqT X.K H p ys) ∧ ∀ l, H l = none → Q (.ref l) (upd H l (.lst ys))) := by
  intro pins s σ H xs us Q I r h
  obtain ⟨p, ys, rfl, hq, q⟩ := h
  obtain ⟨u, rfl, rx⟩ := vals1 r
  cases rx
  have fin : ∀ (its : List Value), Vals ys its → ys.length ≤ sizeLine → ∀ (h' : Heap) (c' : Nat), (∀ b o', s.heap.get? b = some o' → h'.get? b = some o') →
      h'.get? s.heap.objs.size = some { cls := .type "list", dict := none, data := .seq its.toArray c', slots := #[] } → EP X pins σ Q (.ref s.heap.objs.size) { s with heap := h' } := fun its r' hz h' c' kp e =>
    ⟨.ref s.heap.objs.size, _, I.laid (t' := s.toks) kp (Nat.le_refl _) (show ObjOk X.prog X.w _ h' _ (.lst ys) from ⟨hz, its, c', r', e⟩), rfl, q _ (I.hok.fresh (Nat.le_refl _))⟩
  rcases hq with hq | hq
  · obtain ⟨its, r', pl, hz⟩ := I.list hq
    have hlen := r'.length
    obtain ⟨o, ho, hc, n, hd⟩ := pl.isList
    exact call_list_seq p (.inl rfl) ho hc hd (fun h' c' kp e => fin its r' hz h' c' kp e) (by simp only [List.size_toArray] <;> omega)
  · obtain ⟨its, r', pl, hz⟩ := I.tuple hq
    have hlen := r'.length
    obtain ⟨o, ho, hc, n, hd⟩ := pl
    exact call_list_seq p (.inr rfl) ho hc hd (fun h' c' kp e => fin its r' hz h' c' kp e) (by simp only [List.size_toArray] <;> omega)
theorem call_tuple_of : CallR X (.type "tuple") (fun xs H Q => ∃ p ys, xs = [.ref p] ∧ ((SqL X.K H p ys ∧ ∀ l, H l = none → Q (.ref l) (upd H l (.tup ys))) ∨ (SqT X.K H p ys ∧ Q (.ref p) H))) := by
  intro pins s σ H xs us Q I r h
  obtain ⟨p, ys, rfl, h⟩ := h
  obtain ⟨u, rfl, rx⟩ := vals1 r
  cases rx
  rcases h with ⟨hq, q⟩ | ⟨hq, q⟩
  · obtain ⟨its, r', pl, hz⟩ := I.list hq
    have hlen := r'.length
    refine call_tuple_list pl.isList (fun h' kp => ?_) (by simp only [List.size_toArray] <;> omega)
    have I1 : Inv X pins σ H { s with heap := h' } := I.kept (t' := s.toks) kp
    have I2 : Inv X pins σ (upd H h'.objs.size (.tup ys)) { s with heap := h'.push { cls := .type "tuple", data := .seq its.toArray } } :=
      I1.laid (t' := s.toks) (fun b o e => Heap.get?_push_of_some _ e) (Nat.le_refl _) (show ObjOk X.prog X.w _ _ _ (.tup ys) from ⟨hz, its, r', IsTup.new _ _⟩)
    exact ⟨.ref h'.objs.size, _, I2, rfl, q _ (I1.hok.fresh (Nat.le_refl _))⟩
  · obtain ⟨its, r', pl, hz⟩ := I.tuple hq
    exact call_tuple_same pl ⟨.ref p, H, I, rfl, q⟩
noncomputable def tyV (K : PySem.W.Frag) (T : String) (x : V) (H : Hp) : Prop := match x with
  | .str _ => T = "str"
  | .int _ => T = "int"
  | .ref p => (T = "list" ∧ ∃ xs, SqL K H p xs) ∨ (T = "tuple" ∧ ∃ o, K.lookup p = some o ∧ o.cls = .type "tuple" ∧ o.dict = none) ∨
      (T = "dict" ∧ ((∃ kvs, H p = some (.dK kvs)) ∨ ∃ kvs, H p = some (.dT kvs))) ∨ (T = "set" ∧ ∃ S n, H p = some (.set S n))
  | _ => False
theorem tyV_is {pins : List (Addr × Obj)} {σ : St} {H : Hp} {s : Shared} {T : String} {x : V} {v : Value} (I : Inv X pins σ H s) (r : RelV x v) (ty : tyV X.K T x H) :
    s.TypeIs v T ∧ ∀ a, v = .ref a → ∃ ob, s.heap.get? a = some ob ∧ ob.dict = none := by
  cases x with
  | str z =>
    obtain ⟨t, rfl⟩ := r
    cases (show T = "str" from ty)
    exact ⟨typeIs_str s z t, fun _ e => nomatch e⟩
  | int i =>
    obtain ⟨t, rfl⟩ := r
    cases (show T = "int" from ty)
    exact ⟨typeIs_int s i t, fun _ e => nomatch e⟩
  | ref p =>
    cases r
    rcases ty with ⟨rfl, xs, hq⟩ | ⟨rfl, o, hk, hc, hd⟩ | ⟨rfl, hk⟩ | ⟨rfl, S, n, hk⟩
    · obtain ⟨its, _, pl, _⟩ := I.list hq
      refine ⟨pl.isList.typeIs, fun a e => ?_⟩
      cases e
      obtain ⟨o, n, e, c, hd, _⟩ := pl
      exact ⟨o, e, hd⟩
    · refine ⟨⟨o, I.kIn p o hk, hc⟩, fun a e => ?_⟩
      cases e
      exact ⟨o, I.kIn _ o hk, hd⟩
    · have z : ∃ o, s.heap.get? p = some o ∧ o.ExactDict := by
        rcases hk with ⟨kvs, hk⟩ | ⟨kvs, hk⟩
        · obtain ⟨_, _, _, _, o, _, _, e, ex, _⟩ := I.hok p _ hk
          exact ⟨o, e, ex⟩
        · obtain ⟨_, _, _, _, o, _, _, e, ex, _⟩ := I.hok p _ hk
          exact ⟨o, e, ex⟩
      obtain ⟨o, e, ex⟩ := z
      refine ⟨⟨o, e, ex.1⟩, fun a e2 => ?_⟩
      cases e2
      exact ⟨o, e, ex.2.1⟩
    · obtain ⟨o, _, _, _, e, ex, _⟩ := I.hok p _ hk
      refine ⟨⟨o, e, ex.1⟩, fun a e2 => ?_⟩
      cases e2
      exact ⟨o, e, ex.2.1⟩
  | _ => exact False.elim ty
noncomputable def tBM (K : PySem.W.Frag) (T : String) (r : V → List V → Hp → VK → Prop) (to : TE) (t : TA) : TE := fun σ H Q => to σ H fun x H1 => tyV K T x H1 ∧ t σ H1 fun xs H2 => r x xs H2 Q
variable {o e : Expr} {es : List Expr} {to : TE} {t : TA} {name : Str} {apos cpos : Pos} {T id : String} {r : V → List V → Hp → VK → Prop}
theorem pe_bm (pa : PlainAttrs T) (slot : Slot T name id) (hty : typeOf (.builtin id) = pure (.type "method_descriptor")) (hm : MtR X id r) (ho : PE X o to) (ha : PA X (e :: es) t)
    (hbase : attributeBase o name X.env (eval o X.env) = eval o X.env := by rfl)
    (hfew : ((backTo cpos (starEach (e :: es) X.env)).all (fun x => !x.1) && (backToKw cpos (keywordEach [] X.env)).all (fun x => x.1.isSome)
      && decide ((e :: es).length + ([] : List Keyword).length + (if ([] : List Keyword).isEmpty then 0 else 1) < 30)) = true := by rfl)
    (hline : (apos.endLine == cpos.line) = true := by rfl) (hs : starEach (e :: es) X.env = (false, eval e X.env) :: starEach es X.env := by rfl) (hplain : (backTo cpos (starEach es X.env)).any (·.1) = false := by rfl) :
    PE X (.Call (.Attribute o name apos) (e :: es) [] cpos) (tBM X.K T r to t) := by
  intro pins s σ H Q I h
  refine wpAny_Call_method_late hbase hfew hline rfl (thn (ho pins s σ H _ I h) fun v s1 ⟨x, H1, I1, r1, ty, q1⟩ => ?_)
  obtain ⟨h1, h2⟩ := tyV_is I1 r1 ty
  refine ⟨T, id, pa, slot, hty, h1, h2, ?_⟩
  have hA := ha cpos pins s1 σ H1 _ I1 q1
  rw [hs] at hA ⊢
  refine Calls.callWith_builtin (by show (false || (backTo cpos (starEach es X.env)).any (·.1)) = false; rw [hplain] <;> rfl) (Calls.evalArgs_plain ?_)
  exact thn hA fun us s2 ⟨vs, H2, I2, r2, q2⟩ => hm pins s2 σ H2 x vs v us Q I2 r1 r2 q2
/- xs.append(e), list.index on a module's tuple .. are MtR facts of 06m -/
end
end L2
namespace L2
open PySem PySem.Spec PyProof.Rows
noncomputable def MtM (X : Cx) (id : String) (r : V → List V → Hp → VK → Prop) : Prop :=
  ∀ (pins : List (Addr × Obj)) (s : Shared) (σ : St) (H : Hp) (x : V) (xs : List V) (v : Value) (us : List Value) (Q : VK), Inv X pins σ H s → RelV x v → Vals xs us → r x xs H Q →
    wpAny (model X.prog X.w) X.A (call (.builtin id) (v :: us)) (EP X pins σ Q) X.xe s
theorem Vals.one : ∀ {x : V} {us : List Value}, Vals [x] us → ∃ u, us = [u] ∧ RelV x u
  | _, _, .cons r .nil => ⟨_, rfl, r⟩
theorem Vals.eraseIdx : ∀ {xs : List V} {us : List Value} (i : Nat), Vals xs us → Vals (xs.eraseIdx i) (us.eraseIdx i)
  | _, _, _, .nil => .nil
  | _, _, 0, .cons _ t => t
  | _, _, i + 1, .cons r t => .cons r (Vals.eraseIdx i t)
theorem Vals.rep {xs : List V} {us : List Value} (h : Vals xs us) : ∀ k : Nat, Vals (List.replicate k xs).flatten (List.replicate k us).flatten
  | 0 => .nil
  | k + 1 => by
    rw [List.replicate_succ, List.replicate_succ, List.flatten_cons, List.flatten_cons]
    exact Vals.append h (Vals.rep h k)
theorem len_erase {α : Type} : ∀ (l : List α) (i : Nat), (l.eraseIdx i).length ≤ l.length
  | [], _ => Nat.le_refl _
  | _ :: _, 0 => Nat.le_succ _
  | _ :: r, i + 1 => Nat.succ_le_succ (len_erase r i)
theorem foldl_rep (its : List Value) : ∀ (k : Nat) (acc : List Value),
    List.foldl (fun x1 x2 => x1 ++ x2) acc.toArray (List.replicate k its.toArray) = (acc ++ (List.replicate k its).flatten).toArray
  | 0, acc => by simp
  | k + 1, acc => by
    have e : acc.toArray ++ its.toArray = (acc ++ its).toArray := by simp
    have e2 : (acc ++ its) ++ (List.replicate k its).flatten = acc ++ (List.replicate (k + 1) its).flatten := by
      rw [List.replicate_succ, List.flatten_cons, List.append_assoc]
    rw [← e2, ← foldl_rep its k (acc ++ its), ← e, List.replicate_succ, List.foldl_cons]
section
variable {X : Cx} {pins : List (Addr × Obj)} {σ : St} {H : Hp} {s : Shared} {l b : Addr} {xs ys zs : List V}
theorem Inv.lset {its its' : List Value} {n : Nat} {f : Array Value → Array Value} {t' : Nat} (I : Inv X pins σ H s) (hH : H l = some (.lst xs))
    (e : s.heap.get? l = some { cls := .type "list", data := .seq its.toArray n }) (hf : f its.toArray = its'.toArray) (hv : Vals ys its') (hz : ys.length ≤ sizeLine) :
    Inv X pins σ (upd H l (.lst ys)) { s with heap := s.heap.update l (Obj.mapSeq f), toks := t' } := by
  have q := PySem.IsL.update e f
  rw [hf] at q
  refine I.write (x := l) (e := l) (by rw [hH]; exact trivial) (.inl rfl) (fun b' u hb hu => (Heap.get?_update_other s.heap (Obj.mapSeq f) (Ne.symm hb)).trans hu) ⟨_, q⟩ ?_
  exact ⟨hz, its', _, hv, q⟩
theorem Inv.lnew {its : List Value} {t' : Nat} (I : Inv X pins σ H s) (hv : Vals ys its) (hz : ys.length ≤ sizeLine) :
    Inv X pins σ (upd H s.heap.objs.size (.lst ys)) { s with heap := s.heap.push { cls := .type "list", data := .seq its.toArray }, toks := t' } :=
  I.laid (fun _ _ q => Heap.get?_push_of_some _ q) (Nat.le_refl _) ⟨hz, its, 0, hv, Heap.get?_push_size _ rfl⟩
theorem Inv.fresh (I : Inv X pins σ H s) : H s.heap.objs.size = none := I.hok.fresh (Nat.le_refl _)
theorem Inv.lstM (I : Inv X pins σ H s) (hH : H l = some (.lst xs)) : xs.length ≤ sizeLine ∧ ∃ (its : List Value) (n : Nat), Vals xs its ∧ xs.length = its.length ∧ s.heap.get? l = some { cls := .type "list", data := .seq its.toArray n } := by
  obtain ⟨z, its, n, r, e⟩ := I.hok l _ hH
  exact ⟨z, its, n, r, r.length, e⟩
theorem notLongL {n : Nat} (h : n ≤ sizeLine) : Builtin.List.listTooLong n = false := by
  unfold Builtin.List.listTooLong
  exact decide_eq_false (by omega)
end
section
variable {X : Cx}
noncomputable def rAppend : V → List V → Hp → VK → Prop := fun x vs H Q => ∃ l xs y, x = .ref l ∧ vs = [y] ∧ H l = some (.lst xs) ∧ xs.length < sizeLine ∧ Q .non (upd H l (.lst (xs ++ [y])))
theorem mt_append : MtM X "list.append" rAppend := by
  intro pins s σ H x vs v us Q I rx rv h
  obtain ⟨l, xs, y, rfl, rfl, hH, hz, q⟩ := h
  cases rx
  obtain ⟨u, rfl, ru⟩ := rv.one
  obtain ⟨z, its, n, r, hl, e⟩ := I.lstM hH
  refine call_meets F.slot_list_append ⟨_, e, rfl⟩ F.entry_list_append (F.args_list_append_2 _ _) (PySem.list_append l its.toArray n u (by rw [List.size_toArray]; omega)) ⟨e, ?_⟩
  refine ⟨.non, _, I.lset (its' := its ++ [u]) hH e (by simp) (r.append (.cons ru .nil)) ?_, rfl, q⟩
  rw [List.length_append, List.length_singleton]
  omega
noncomputable def rExtend : V → List V → Hp → VK → Prop := fun x vs H Q => ∃ l b xs zs, x = .ref l ∧ vs = [.ref b] ∧ H l = some (.lst xs) ∧ H b = some (.lst zs) ∧ xs.length + zs.length ≤ sizeLine ∧ Q .non (upd H l (.lst (xs ++ zs)))
theorem mt_extend : MtM X "list.extend" rExtend := by
  intro pins s σ H x vs v us Q I rx rv h
  obtain ⟨l, b, xs, zs, rfl, rfl, hH, hB, hz, q⟩ := h
  cases rx
  obtain ⟨u, rfl, ru⟩ := rv.one
  cases ru
  obtain ⟨z, its, n, r, hl, e⟩ := I.lstM hH
  obtain ⟨z2, its2, n2, r2, hl2, e2⟩ := I.lstM hB
  have hsz : its.toArray.size + its2.toArray.size ≤ sizeLine := by rw [List.size_toArray, List.size_toArray]; omega
  have hlong : ¬ (!its.toArray.isEmpty && Builtin.List.listTooLong (its.toArray.size + its2.toArray.size)) = true := by
    rw [notLongL hsz, Bool.and_false]
    exact Bool.false_ne_true
  refine call_meets F.slot_list_extend ⟨_, e, rfl⟩ F.entry_list_extend (F.args_list_extend_2 _ _)
    (AutoSeq1.list_extend_list_list_0 l its.toArray n b its2.toArray n2 hlong (by rw [List.size_toArray]; omega) (by omega)) ⟨e, e2, ?_⟩
  refine ⟨.non, _, I.lset (its' := its ++ its2) hH e (by simp) (r.append r2) ?_, rfl, q⟩
  rw [List.length_append]
  omega
noncomputable def rPopAt : V → List V → Hp → VK → Prop := fun x vs H Q => ∃ l xs i k y, x = .ref l ∧ vs = [.int i] ∧ H l = some (.lst xs) ∧ -(2 ^ 63) ≤ i ∧ i < 2 ^ 63 ∧ seqIndex? i xs.length = some k ∧ xs[k]? = some y ∧ Q y (upd H l (.lst (xs.eraseIdx k)))
theorem mt_popAt : MtM X "list.pop" rPopAt := by
  intro pins s σ H x vs v us Q I rx rv h
  obtain ⟨l, xs, i, k, y, rfl, rfl, hH, h1, h2, hk, hy, q⟩ := h
  cases rx
  obtain ⟨u, rfl, ru⟩ := rv.one
  obtain ⟨t, rfl⟩ := ru
  obtain ⟨z, its, n, r, hl, e⟩ := I.lstM hH
  obtain ⟨w, hw, rw'⟩ := r.get hy
  refine call_meets F.slot_list_pop ⟨_, e, rfl⟩ F.entry_list_pop (F.args_list_pop_2 _ _)
    (MeetsSeq.list_pop_at l its.toArray n i t k w (fitsIndex_both h1 h2) (by rw [List.size_toArray, ← hl]; exact hk) (by rw [← Array.getElem?_toList]; exact hw) (by rw [List.size_toArray]; omega)) ⟨e, ?_⟩
  refine ⟨y, _, I.lset (its' := its.eraseIdx k) hH e ?_ (r.eraseIdx k) ?_, rw', q⟩
  · show its.toArray.eraseIdxIfInBounds k = (its.eraseIdx k).toArray
    rw [List.eraseIdxIfInBounds_toArray]
  · have := len_erase xs k
    omega
noncomputable def rCat : R2 := fun x y H Q => ∃ l b xs zs, x = .ref l ∧ y = .ref b ∧ H l = some (.lst xs) ∧ H b = some (.lst zs) ∧ xs.length + zs.length ≤ sizeLine ∧ ∀ p, H p = none → Q (.ref p) (upd H p (.lst (xs ++ zs)))
theorem op_cat : OpR X (binaryOp .Add) rCat := by
  intro pins s σ H x y v u Q I rx ry h
  obtain ⟨l, b, xs, zs, rfl, rfl, hH, hB, hz, q⟩ := h
  cases rx
  cases ry
  obtain ⟨z, its, n, r, hl, e⟩ := I.lstM hH
  obtain ⟨z2, its2, n2, r2, hl2, e2⟩ := I.lstM hB
  refine PySem.P.add_list e e2 ?_ (by rw [List.size_toArray, List.size_toArray]; omega)
  have ea : its.toArray ++ its2.toArray = (its ++ its2).toArray := by simp
  rw [ea]
  exact ⟨.ref _, _, I.lnew (t' := s.toks) (r.append r2) (by rw [List.length_append]; omega), rfl, q _ I.fresh⟩
noncomputable def rRep : R2 := fun x y H Q => ∃ l k xs, x = .ref l ∧ y = .int k ∧ H l = some (.lst xs) ∧ -(2 ^ 63) ≤ k ∧ k < 2 ^ 63 ∧ xs.length * k.toNat ≤ sizeLine ∧
  ∀ p, H p = none → Q (.ref p) (upd H p (.lst (List.replicate k.toNat xs).flatten))
theorem len_rep {α : Type} (xs : List α) (k : Nat) : (List.replicate k xs).flatten.length = k * xs.length := by
  induction k with
  | zero => simp
  | succ k ih => rw [List.replicate_succ, List.flatten_cons, List.length_append, ih, Nat.succ_mul, Nat.add_comm]
theorem op_rep : OpR X (binaryOp .Mult) rRep := by
  intro pins s σ H x y v u Q I rx ry h
  obtain ⟨l, k, xs, rfl, rfl, hH, h1, h2, hz, q⟩ := h
  cases rx
  obtain ⟨t, rfl⟩ := ry
  obtain ⟨z, its, n, r, hl, e⟩ := I.lstM hH
  have hlen : its.toArray.size * k.toNat ≤ sizeLine := by rw [List.size_toArray, ← hl]; exact hz
  have hcap : ¬ its.toArray.size * k.toNat > (2 ^ 63 - 1) / 8 := by
    have : (sizeLine : Nat) ≤ (2 ^ 63 - 1) / 8 := by decide
    omega
  have hfit : ¬ (!Builtin.List.listFitsIndex k) = true := by
    rw [fitsIndex_both h1 h2]
    exact Bool.false_ne_true
  have hlong : ¬ Builtin.List.listTooLong (its.toArray.size * k.toNat) = true := by
    rw [notLongL hlen]
    exact Bool.false_ne_true
  have hnew : List.foldl (fun x1 x2 => x1 ++ x2) #[] (List.replicate (if its.toArray.isEmpty = true then 0 else k.toNat) its.toArray) = (List.replicate k.toNat its).flatten.toArray := by
    have f0 : ∀ m : Nat, List.foldl (fun x1 x2 => x1 ++ x2) #[] (List.replicate m its.toArray) = (List.replicate m its).flatten.toArray := fun m => by
      have := foldl_rep its m []
      rw [List.nil_append] at this
      exact this
    rw [f0]
    cases its with
    | nil => simp
    | cons a r' => rw [if_neg (by simp)]
  refine wpAny_binaryOp_repeat_ref (T := "list") (U := "int") (by decide) ⟨_, e, rfl⟩ (fun s' => typeIs_int s' k t) noFill_list_mul F.fills_int_mul F.slot_int_rmul repeat_list F.slot_int_index.lookup
    (call_meets F.slot_int_rmul (typeIs_int s k t) F.entry_int_rmul (F.args_int_rmul_2 _ _) (int___rmul___int_list k t l its.toArray n)
      ⟨e, rfl, ⟨_, e, rfl⟩, call_meets F.slot_list_mul ⟨_, e, rfl⟩ F.entry_list_mul (F.args_list_mul_2 _ _) (AutoListH.list___mul___list_int_3 l its.toArray n k t hfit hcap hlong) ⟨e, ?_⟩⟩)
  rw [hnew]
  exact ⟨.ref _, _, I.lnew (t' := s.toks) (r.rep k.toNat) (by rw [len_rep, Nat.mul_comm]; exact hz), rfl, q _ I.fresh⟩
end
section
variable {prog : Program} {w : World} {A : Around} {E : Value → Shared → Prop} {s : Shared}
end
section
variable {X : Cx}
end
end L2
namespace L2
open PySem PySem.Spec PyProof.Rows
section
variable {κ : Type} [DecidableEq κ]
noncomputable def valV (kvs : List (κ × V)) (k : κ) : Option V := (kvs.find? fun kv => decide (kv.1 = k)).map (·.2)
noncomputable def putK (kvs : List (κ × V)) (k : κ) (v : V) : List (κ × V) :=
  if (kvs.any fun kv => decide (kv.1 = k)) = true then kvs.map (fun kv => if kv.1 = k then (kv.1, v) else kv) else kvs ++ [(k, v)]
theorem valV_pos {p : κ × V} {r : List (κ × V)} {k : κ} (e : p.1 = k) : valV (p :: r) k = some p.2 := by simp [valV, List.find?_cons, e]
theorem valV_neg {p : κ × V} {r : List (κ × V)} {k : κ} (e : ¬ p.1 = k) : valV (p :: r) k = valV r k := by simp [valV, List.find?_cons, e]
theorem valV_any (k : κ) : ∀ kvs : List (κ × V), (kvs.any fun kv => decide (kv.1 = k)) = (valV kvs k).isSome
  | [] => rfl
  | p :: r => by
    rw [List.any_cons]
    by_cases e : p.1 = k
    · simp only [valV_pos e, decide_eq_true e, Bool.true_or, Option.isSome_some]
    · rw [valV_neg e, decide_eq_false e, Bool.false_or]; exact valV_any k r
theorem length_putK (kvs : List (κ × V)) (k : κ) (v : V) : (putK kvs k v).length ≤ kvs.length + 1 := by
  unfold putK
  split
  · rw [List.length_map]; omega
  · rw [List.length_append, List.length_cons, List.length_nil]; omega
theorem RelO.isSome_eq {o : Option V} {u : Option Value} (r : RelO o u) : o.isSome = u.isSome := by
  cases o with
  | none => cases u with
    | none => rfl
    | some _ => exact (show False from r).elim
  | some _ => cases u with
    | none => exact (show False from r).elim
    | some _ => rfl
theorem RelO.getD {o : Option V} {u : Option Value} {d : V} {d' : Value} (r : RelO o u) (rd : RelV d d') : RelV (o.getD d) (u.getD d') := by
  cases o with
  | none => cases u with
    | none => exact rd
    | some _ => exact (show False from r).elim
  | some _ => cases u with
    | none => exact (show False from r).elim
    | some _ => exact r
theorem KV.val {kvs : List (κ × V)} {vs : List (κ × Value)} (r : KV kvs vs) (k : κ) : RelO (valV kvs k) (valueAt vs k) := by
  unfold KV at r
  induction r with
  | nil => exact True.intro
  | @cons p q ps qs h t ih =>
    obtain ⟨h1, h2⟩ := h
    by_cases e : p.1 = k
    · have e' : q.1 = k := h1.symm.trans e
      have b : valueAt (q :: qs) k = some q.2 := by simp [valueAt, List.find?_cons, e']
      rw [valV_pos e, b]; exact h2
    · have e' : ¬ q.1 = k := fun z => e (h1.trans z)
      have b : valueAt (q :: qs) k = valueAt qs k := by simp [valueAt, List.find?_cons, e']
      rw [valV_neg e, b]; exact ih
theorem KV.any {kvs : List (κ × V)} {vs : List (κ × Value)} (r : KV kvs vs) (k : κ) : (kvs.any fun kv => decide (kv.1 = k)) = vs.any fun kv => decide (kv.1 = k) := by
  unfold KV at r
  induction r with
  | nil => rfl
  | cons h t ih => rw [List.any_cons, List.any_cons, ih, h.1]
theorem KV.repl {kvs : List (κ × V)} {vs : List (κ × Value)} (r : KV kvs vs) (k : κ) {y : V} {u : Value} (ry : RelV y u) :
    KV (kvs.map fun kv => if kv.1 = k then (kv.1, y) else kv) (vs.map fun kv => if kv.1 = k then (kv.1, u) else kv) := by
  unfold KV at r ⊢
  induction r with
  | nil => exact .nil
  | @cons p q ps qs h t ih =>
    rw [List.map_cons, List.map_cons]
    refine .cons ?_ ih
    obtain ⟨h1, h2⟩ := h
    by_cases e : p.1 = k
    · rw [if_pos e, if_pos (h1.symm.trans e)]; exact ⟨h1, ry⟩
    · rw [if_neg e, if_neg (fun z => e (h1.trans z))]; exact ⟨h1, h2⟩
theorem KV.put {kvs : List (κ × V)} {vs : List (κ × Value)} (r : KV kvs vs) (k : κ) {y : V} {u : Value} (ry : RelV y u) : KV (putK kvs k y) (stored vs k u) := by
  unfold putK stored
  rw [r.any k]
  by_cases e : (vs.any fun kv => decide (kv.1 = k)) = true
  · rw [if_pos e, if_pos e]; exact r.repl k ry
  · rw [if_neg e, if_neg e]; exact Paired.snoc r ⟨rfl, ry⟩
theorem KV.length {kvs : List (κ × V)} {vs : List (κ × Value)} (r : KV kvs vs) : kvs.length = vs.length := Paired.length r
end
theorem kV_is {P : Program} {w : World} {k : Key} {u : Value} (r : RelV (kV k) u) : (mixKind P w).is k u = true := by
  cases k with
  | inl i => obtain ⟨t, e⟩ := (show ∃ t, u = Value.int i t from r); subst e; exact mixKind_int P w i t
  | inr x => obtain ⟨t, e⟩ := (show ∃ t, u = Value.str x t from r); subst e; exact mixKind_str P w x t
theorem items_are {P : Program} {w : World} : ∀ {ks : List Key} {us : List Value}, Vals (ks.map kV) us → ItemsAre (mixKind P w) ks us
  | [], _, r => by rw [List.map_nil] at r; cases r; exact .nil
  | k :: ks, _, r => by
    rw [List.map_cons] at r
    cases r with
    | cons h t => exact .cons (kV_is h) (items_are t)
noncomputable abbrev KT (H : Hp) : List (List Key × V) → List (List Key × Addr × Value) → Prop := Paired fun p q => p.1 = q.1 ∧ H q.2.1 = some (.tup (p.1.map kV)) ∧ RelV p.2 q.2.2
theorem KT.val {H : Hp} {kvs : List (List Key × V)} {xs : List (List Key × Addr × Value)} (r : KT H kvs xs) (k : List Key) : RelO (valV kvs k) ((atKey xs k).map (·.2)) := by
  induction r with
  | nil => exact True.intro
  | @cons p q ps qs h t ih =>
    obtain ⟨h1, _, h2⟩ := h
    by_cases e : p.1 = k
    · have e' : q.1 = k := h1.symm.trans e
      have b : atKey (q :: qs) k = some q.2 := by simp [atKey, List.find?_cons, e']
      rw [valV_pos e, b]; exact h2
    · have e' : ¬ q.1 = k := fun z => e (h1.trans z)
      have b : atKey (q :: qs) k = atKey qs k := by simp [atKey, List.find?_cons, e']
      rw [valV_neg e, b]; exact ih
theorem KT.repl {H : Hp} {kvs : List (List Key × V)} {xs : List (List Key × Addr × Value)} (r : KT H kvs xs) (k : List Key) {y : V} {u : Value} (ry : RelV y u) :
    KT H (kvs.map fun kv => if kv.1 = k then (kv.1, y) else kv) (xs.map (putAt k u)) := by
  induction r with
  | nil => exact .nil
  | @cons p q ps qs h t ih =>
    rw [List.map_cons, List.map_cons]
    refine .cons ?_ ih
    obtain ⟨h1, h2, h3⟩ := h
    unfold putAt
    by_cases e : p.1 = k
    · rw [if_pos e, if_pos (h1.symm.trans e)]; exact ⟨h1, h2, ry⟩
    · rw [if_neg e, if_neg (fun z => e (h1.trans z))]; exact ⟨h1, h2, h3⟩
theorem KT.put {H : Hp} {kvs : List (List Key × V)} {xs : List (List Key × Addr × Value)} (r : KT H kvs xs) (k : List Key) {b : Addr} {y : V} {u : Value} (hb : H b = some (.tup (k.map kV))) (ry : RelV y u) :
    KT H (putK kvs k y) (storedH xs k b u) := by
  have e : (kvs.any fun kv => decide (kv.1 = k)) = (atKey xs k).isSome := by
    rw [valV_any, (r.val k).isSome_eq, Option.isSome_map]
  unfold putK storedH
  rw [e]
  by_cases q : (atKey xs k).isSome = true
  · rw [if_pos q, if_pos q]; exact r.repl k ry
  · rw [if_neg q, if_neg q]; exact Paired.snoc r ⟨rfl, hb, ry⟩
theorem KT.keeps {H H' : Hp} {kvs : List (List Key × V)} {xs : List (List Key × Addr × Value)} (r : KT H kvs xs) (ht : ∀ b ys, H b = some (.tup ys) → H' b = some (.tup ys)) : KT H' kvs xs :=
  Paired.mapP r fun _ _ z => ⟨z.1, ht _ _ z.2.1, z.2.2⟩
section
variable {P : Program} {w : World} {H : Hp} {h : Heap} {a : Addr}
theorem rd_of {u : HO} (ok : HOk P w H h) (e : Rd H a u) : ObjOk P w H h a u := e.ok ok
theorem dk_rd {kvs : List (Key × V)} (ok : HOk P w H h) (e : Rd H a (.dK kvs)) : kvs.length ≤ sizeLine ∧ (a == sysModules) = false ∧ ∃ vs, KV kvs vs ∧ h.DictOf (mixKind P w) a vs :=
  show ObjOk P w H h a (.dK kvs) from rd_of ok e
theorem dk_of {kvs : List (Key × V)} (ok : HOk P w H h) (e : H a = some (.dK kvs)) : kvs.length ≤ sizeLine ∧ (a == sysModules) = false ∧ ∃ vs, KV kvs vs ∧ h.DictOf (mixKind P w) a vs := dk_rd ok (.inl e)
theorem key_of {ks : List Key} (ok : HOk P w H h) (e : H a = some (.tup (ks.map kV))) : (tupleKind (mixKind P w)).is h ks a := by
  obtain ⟨_, its, r, o, h1, h2, n, h3⟩ := (show ObjOk P w H h a (.tup (ks.map kV)) from ok a _ e)
  exact ⟨o, its.toArray, n, h1, h2, h3, by simpa using items_are r⟩
theorem dt_rd {kvs : List (List Key × V)} (ok : HOk P w H h) (e : Rd H a (.dT kvs)) : kvs.length ≤ sizeLine ∧ (a == sysModules) = false ∧
    ∃ xs, KT H kvs xs ∧ h.DictOfH (tupleKind (mixKind P w)) a xs := by
  obtain ⟨z, y, xs, r, o, es, ep, h1, h2, h3, h4, h5⟩ := (show ObjOk P w H h a (.dT kvs) from rd_of ok e)
  refine ⟨z, y, xs, r, o, es, ep, h1, h2, h3, h4, fun x hx => ?_, h5⟩
  have all : ∀ {l : List (List Key × V)} {m : List (List Key × Addr × Value)}, KT H l m → ∀ x ∈ m, (tupleKind (mixKind P w)).is h x.1 x.2.1 := by
    intro l m q
    induction q with
    | nil => intro x hx; exact nomatch hx
    | @cons p q ps qs hq t ih =>
      intro x hx
      rcases List.mem_cons.mp hx with e | hx
      · subst e
        exact key_of ok (by rw [← hq.1]; exact hq.2.1)
      · exact ih x hx
  exact all r x hx
theorem dt_of {kvs : List (List Key × V)} (ok : HOk P w H h) (e : H a = some (.dT kvs)) : kvs.length ≤ sizeLine ∧ (a == sysModules) = false ∧
    ∃ xs, KT H kvs xs ∧ h.DictOfH (tupleKind (mixKind P w)) a xs := dt_rd ok (.inl e)
end
noncomputable def DGet (H : Hp) (a : Addr) (y : V) (r : Option V) : Prop :=
  (∃ kvs k, Rd H a (.dK kvs) ∧ y = kV k ∧ r = valV kvs k) ∨ ∃ kvs k b, Rd H a (.dT kvs) ∧ y = .ref b ∧ H b = some (.tup (k.map kV)) ∧ r = valV kvs k
noncomputable def DPut (H : Hp) (a : Addr) (y v : V) (H' : Hp) : Prop :=
  (∃ kvs k, H a = some (.dK kvs) ∧ y = kV k ∧ kvs.length < sizeLine ∧ H' = upd H a (.dK (putK kvs k v))) ∨
  ∃ kvs k b, H a = some (.dT kvs) ∧ y = .ref b ∧ H b = some (.tup (k.map kV)) ∧ kvs.length < sizeLine ∧ H' = upd H a (.dT (putK kvs k v))
theorem DGet.k {H : Hp} {a : Addr} {kvs : List (Key × V)} {k : Key} (e : H a = some (.dK kvs)) : DGet H a (kV k) (valV kvs k) := .inl ⟨kvs, k, .inl e, rfl, rfl⟩
theorem DGet.t {H : Hp} {a b : Addr} {kvs : List (List Key × V)} {k : List Key} (e : H a = some (.dT kvs)) (eb : H b = some (.tup (k.map kV))) : DGet H a (.ref b) (valV kvs k) := .inr ⟨kvs, k, b, .inl e, rfl, eb, rfl⟩
theorem DPut.k {H : Hp} {a : Addr} {kvs : List (Key × V)} {k : Key} {v : V} (e : H a = some (.dK kvs)) (hl : kvs.length < sizeLine) : DPut H a (kV k) v (upd H a (.dK (putK kvs k v))) := .inl ⟨kvs, k, e, rfl, hl, rfl⟩
theorem DPut.t {H : Hp} {a b : Addr} {kvs : List (List Key × V)} {k : List Key} {v : V} (e : H a = some (.dT kvs)) (eb : H b = some (.tup (k.map kV))) (hl : kvs.length < sizeLine) :
    DPut H a (.ref b) v (upd H a (.dT (putK kvs k v))) := .inr ⟨kvs, k, b, e, rfl, eb, hl, rfl⟩
section
variable {X : Cx} {pins : List (Addr × Obj)} {σ : St} {H : Hp} {s : Shared} {a : Addr} {y v : V} {u r : Value} {o : Option V} {A : Around} {E : Value → Shared → Prop}
theorem Inv.big (I : Inv X pins σ H s) : sysModules < s.heap.objs.size := by
  have h : mainGlobals < s.heap.objs.size := (I.mod.glob.keeps I.bk).lt
  exact Nat.lt_trans (by decide) h
theorem d_getItem {Q : Value → Shared → Prop} (hu : A.units + 1 < cLine) (I : Inv X pins σ H s) (g : DGet H a y (some v)) (ry : RelV y u) (h : ∀ w' s', Inv X pins σ H s' → RelV v w' → Q w' s') :
    wpAny (model X.prog X.w) A (getItem (.ref a) u) Q E s := by
  rcases g with ⟨kvs, k, e, ey, l⟩ | ⟨kvs, k, b, e, ey, eb, l⟩
  · subst ey
    obtain ⟨z, hd, vs, rel, dd⟩ := dk_rd I.hok e
    obtain ⟨w', hw, rw'⟩ := RelO.some_of (v := v) (o := valueAt vs k) (by rw [l]; exact rel.val k)
    exact wpAny_getItem_of (kV_is ry) dd.mapOf hw (h w' _ (I.tok _) rw')
  · subst ey
    cases (show u = Value.ref b from ry)
    obtain ⟨z, hd, xs, rel, dd⟩ := dt_rd I.hok e
    obtain ⟨w', hw, rw'⟩ := RelO.some_of (v := v) (o := (atKey xs k).map (·.2)) (by rw [l]; exact rel.val k)
    obtain ⟨p, hp, hp2⟩ := Option.map_eq_some_iff.mp hw
    refine wpAny_getItem_heap (tupleKind_room_in1 hu) (key_of I.hok eb) dd hp ?_
    rw [hp2]
    exact h w' _ (I.tok _) rw'
theorem d_notIn {Q : Value → Shared → Prop} (hu : A.units + 1 < cLine) (I : Inv X pins σ H s) (g : DGet H a y o) (ry : RelV y u) (h : ∀ s', Inv X pins σ H s' → Q (.bool (!o.isSome)) s') :
    wpAny (model X.prog X.w) A (compareOp .NotIn u (.ref a)) Q E s := by
  rcases g with ⟨kvs, k, e, ey, l⟩ | ⟨kvs, k, b, e, ey, eb, l⟩
  · subst ey
    obtain ⟨z, hd, vs, rel, dd⟩ := dk_rd I.hok e
    refine wpAny_notIn_of (kV_is ry) hd dd.mapOf ?_
    rw [← (rel.val k).isSome_eq, ← l]
    exact h _ (I.tok _)
  · subst ey
    cases (show u = Value.ref b from ry)
    obtain ⟨z, hd, xs, rel, dd⟩ := dt_rd I.hok e
    refine wpAny_notIn_heap (tupleKind_room_in1 hu) (key_of I.hok eb) hd dd ?_
    have q := (rel.val k).isSome_eq
    rw [Option.isSome_map] at q
    rw [← q, ← l]
    exact h _ (I.tok _)
theorem d_write {h' : Heap} {t' : Nat} {ob : HO} (I : Inv X pins σ H s) (mu : Mut (H a)) (hs : Heap.SameBut a s.heap h') (he : ∃ q, h'.get? a = some q) (new : ObjOk X.prog X.w (upd H a ob) h' a ob) :
    Inv X pins σ (upd H a ob) { s with heap := h', toks := t' } :=
  I.write (x := a) (e := a) mu (.inl rfl) (fun b q hb z => (hs.2 b hb).trans z) he new
theorem dk_new {P : Program} {w : World} {H' : Hp} {h' : Heap} {kvs : List (Key × V)} {vs : List (Key × Value)} (z : kvs.length ≤ sizeLine) (hd : (a == sysModules) = false) (rel : KV kvs vs) (dd : h'.DictOf (mixKind P w) a vs) :
    ObjOk P w H' h' a (.dK kvs) := ⟨z, hd, vs, rel, dd⟩
theorem d_setItem {H' : Hp} {Q : Unit → Shared → Prop} (hu : A.units + 1 < cLine) (I : Inv X pins σ H s) (g : DPut H a y v H') (ry : RelV y u) (rv : RelV v r) (h : ∀ s', Inv X pins σ H' s' → Q () s') :
    wpAny (model X.prog X.w) A (setItem (.ref a) u r) Q E s := by
  rcases g with ⟨kvs, k, e, ey, l, eH⟩ | ⟨kvs, k, b, e, ey, eb, l, eH⟩
  · subst ey eH
    obtain ⟨z, hd, vs, rel, dd⟩ := dk_of I.hok e
    have hz : vs.length ≤ sizeLine := by rw [← rel.length]; exact z
    have hl : (putK kvs k v).length ≤ sizeLine := by have := length_putK kvs k v; omega
    refine wpAny_setItem_pairs (hsz := hz) (kV_is ry) dd fun h' dd' hs => h _ ?_
    have he : ∃ q, h'.get? a = some q := let ⟨q, _, _, hq, _⟩ := dd'; ⟨q, hq⟩
    exact d_write I (by rw [e]; exact True.intro) hs he (dk_new hl hd (rel.put k rv) dd')
  · subst ey eH
    cases (show u = Value.ref b from ry)
    obtain ⟨z, hd, xs, rel, dd⟩ := dt_of I.hok e
    have hz : xs.length ≤ sizeLine := by rw [← Paired.length rel]; exact z
    have hl : (putK kvs k v).length ≤ sizeLine := by have := length_putK kvs k v; omega
    refine wpAny_setItem_heap (hsz := hz) (tupleKind_room_in1 hu) (key_of I.hok eb) dd fun h' dd' hs => h _ ?_
    obtain ⟨q, es, ep, hq, h2, h3, h4, _, h5⟩ := dd'
    refine d_write I (by rw [e]; exact True.intro) hs ⟨q, hq⟩ ⟨hl, hd, _, (rel.put k eb rv).keeps fun c ys ec => ?_, q, es, ep, hq, h2, h3, h4, h5⟩
    rw [upd_ne (ne_of ec e (fun z => nomatch z))]
    exact ec
end
section
variable {X : Cx} {pins : List (Addr × Obj)} {σ : St} {H : Hp} {s : Shared} {a : Addr} {kvs : List (Key × V)} {k : Key} {u : Value} {A : Around} {E : Value → Shared → Prop}
theorem d_len {Q : Value → Shared → Prop} (I : Inv X pins σ H s) (e : Rd H a (.dK kvs)) (h : ∀ t s', Inv X pins σ H s' → Q (.int kvs.length t) s') : wpAny (model X.prog X.w) A (call (.builtin "len") [.ref a]) Q E s := by
  obtain ⟨z, hd, vs, rel, dd⟩ := dk_rd I.hok e
  refine call_len_dict hd dd (by rw [← rel.length]; rw [sizeLine_eq] at z; omega) ?_
  rw [← rel.length]
  exact h _ _ (I.tok _)
end
theorem dict_typeIs {X : Cx} {pins : List (Addr × Obj)} {σ : St} {H : Hp} {s : Shared} {a : Addr} {y : V} {o : Option V} (I : Inv X pins σ H s) (g : DGet H a y o) : s.TypeIs (.ref a) "dict" := by
  rcases g with ⟨kvs, k, e, _, _⟩ | ⟨kvs, k, b, e, _, _, _⟩
  · obtain ⟨_, _, vs, _, dd⟩ := dk_rd I.hok e
    exact dd.typeIs
  · obtain ⟨_, _, xs, _, dd⟩ := dt_rd I.hok e
    exact dd.typeIs
section
variable {X : Cx} {o i e value : Expr} {pos pos' tpos : Pos} {td ty tv : TE}
end
theorem dk_empty {P : Program} {w : World} {H : Hp} (h : Heap) (hb : sysModules < h.objs.size) : ObjOk P w H (h.push { cls := .type "dict", data := .dict #[] }) h.objs.size (.dK []) :=
  ⟨Nat.zero_le _, beq_eq_false_iff_ne.mpr (Ne.symm (Nat.ne_of_lt hb)), [], .nil, Heap.DictOf.new h⟩
noncomputable def tDNewK : TE := fun _ H Q => ∀ p, H p = none → Q (.ref p) (upd H p (.dK []))
section
variable {X : Cx} {pos : Pos}
theorem pe_dnewK : PE X (.Dict [] [] pos) tDNewK := fun pins s σ H Q I h =>
  wpAny_Dict_empty ⟨.ref s.heap.objs.size, _, I.laid (a := s.heap.objs.size) (o := .dK []) (t' := s.toks) (fun _ _ q => Heap.get?_push_of_some _ q) (Nat.le_refl _) (dk_empty s.heap I.big), rfl, h _ (I.hok.fresh (Nat.le_refl _))⟩
end
noncomputable def mergeK (kvs more : List (Key × V)) : List (Key × V) := more.foldl (fun acc kv => putK acc kv.1 kv.2) kvs
theorem KV.merge : ∀ {more : List (Key × V)} {rs : List (Key × Value)} {kvs : List (Key × V)} {vs : List (Key × Value)}, KV more rs → KV kvs vs → KV (mergeK kvs more) (merged vs rs) := by
  intro more rs kvs vs r
  unfold KV at r
  induction r generalizing kvs vs with
  | nil => intro q; exact q
  | @cons p q ps qs h t ih =>
    intro r0
    have e : KV (putK kvs p.1 p.2) (stored vs q.1 q.2) := by
      have := r0.put p.1 h.2
      rw [← h.1]; exact this
    exact ih e
theorem length_mergeK : ∀ (more kvs : List (Key × V)), (mergeK kvs more).length ≤ kvs.length + more.length
  | [], kvs => by show kvs.length ≤ kvs.length + 0; omega
  | p :: r, kvs => by
    have h1 := length_mergeK r (putK kvs p.1 p.2)
    have h2 := length_putK kvs p.1 p.2
    show (mergeK (putK kvs p.1 p.2) r).length ≤ _
    rw [List.length_cons]; omega
structure M1 (X : Cx) (o : Expr) (m : Str) (apos : Pos) (e : Expr) (cpos : Pos) : Prop where
  base : attributeBase o m X.env (eval o X.env) = eval o X.env
  few : ((backTo cpos (starEach [e] X.env)).all (fun x => !x.1) && (backToKw cpos (keywordEach [] X.env)).all (fun x => x.1.isSome)
    && decide (([e] : List Expr).length + ([] : List Keyword).length + (if ([] : List Keyword).isEmpty then 0 else 1) < 30)) = true
  line : (apos.endLine == cpos.line) = true
  trees : backTo cpos (starEach [e] X.env) = [(false, eval e X.env)]
structure M2 (X : Cx) (o : Expr) (m : Str) (apos : Pos) (e f : Expr) (cpos : Pos) : Prop where
  base : attributeBase o m X.env (eval o X.env) = eval o X.env
  few : ((backTo cpos (starEach [e, f] X.env)).all (fun x => !x.1) && (backToKw cpos (keywordEach [] X.env)).all (fun x => x.1.isSome)
    && decide (([e, f] : List Expr).length + ([] : List Keyword).length + (if ([] : List Keyword).isEmpty then 0 else 1) < 30)) = true
  line : (apos.endLine == cpos.line) = true
  trees : backTo cpos (starEach [e, f] X.env) = [(false, eval e X.env), (false, eval f X.env)]
noncomputable def IsD (H : Hp) (a : Addr) : Prop := (∃ kvs, Rd H a (.dK kvs)) ∨ ∃ kvs, Rd H a (.dT kvs)
theorem isD_at {X : Cx} {pins : List (Addr × Obj)} {σ : St} {H : Hp} {s : Shared} {a : Addr} (I : Inv X pins σ H s) (d : IsD H a) :
    s.TypeIs (.ref a) "dict" ∧ (∀ b, Value.ref a = .ref b → ∃ ob, s.heap.get? b = some ob ∧ ob.dict = none) ∧ (a == sysModules) = false := by
  rcases d with ⟨kvs, e⟩ | ⟨kvs, e⟩
  · obtain ⟨_, hd, vs, _, dd⟩ := dk_rd I.hok e
    refine ⟨dd.typeIs, fun b q => ?_, hd⟩
    cases q
    obtain ⟨ob, _, _, h1, h2, _⟩ := dd
    exact ⟨ob, h1, h2.2.1⟩
  · obtain ⟨_, hd, xs, _, dd⟩ := dt_rd I.hok e
    refine ⟨dd.typeIs, fun b q => ?_, hd⟩
    cases q
    obtain ⟨ob, _, _, h1, h2, _⟩ := dd
    exact ⟨ob, h1, h2.2.1⟩
section
variable {X : Cx} {pins : List (Addr × Obj)} {σ : St} {H : Hp} {s : Shared} {a : Addr} {y d : V} {u r : Value} {o : Option V} {A : Around} {E : Value → Shared → Prop}
theorem d_get2 {Q : Value → Shared → Prop} (hu : A.units + 1 < cLine) (I : Inv X pins σ H s) (g : DGet H a y o) (ry : RelV y u) (rd : RelV d r) (h : ∀ w' s', Inv X pins σ H s' → RelV (o.getD d) w' → Q w' s') :
    wpAny (model X.prog X.w) A (call (.builtin "dict.get") [.ref a, u, r]) Q E s := by
  rcases g with ⟨kvs, k, e, ey, l⟩ | ⟨kvs, k, b, e, ey, eb, l⟩
  · subst ey
    obtain ⟨z, hd, vs, rel, dd⟩ := dk_rd I.hok e
    refine call_meetsIn PySem.F.slot_dict_get dd.typeIs PySem.F.entry_dict_get (PySem.F.args_dict_get_3 _ _ _) (meets_dict_get_default (mixKind X.prog X.w) a (kV_is ry) hd r) ⟨_, dd.mapOf, h _ _ (I.tok _) ?_⟩
    rw [l]
    exact (rel.val k).getD rd
  · subst ey
    cases (show u = Value.ref b from ry)
    obtain ⟨z, hd, xs, rel, dd⟩ := dt_rd I.hok e
    refine call_meetsIn PySem.F.slot_dict_get dd.typeIs PySem.F.entry_dict_get (PySem.F.args_dict_get_3 _ _ _) (meetsH_dict_get_default (tupleKind (mixKind X.prog X.w)) a b hd r) ⟨tupleKind_room_in1 hu, k, xs, key_of I.hok eb, dd, h _ _ (I.tok _) ?_⟩
    rw [l]
    exact (rel.val k).getD rd
end
noncomputable def tDGet2 (td ty tx : TE) : TE := fun σ H Q => td σ H fun x H1 => ∃ a, x = .ref a ∧ IsD H1 a ∧ ty σ H1 fun y H2 => tx σ H2 fun z H3 => ∃ o, DGet H3 a y o ∧ Q (o.getD z) H3
section
variable {X : Cx} {o e f : Expr} {apos cpos : Pos} {td ty tx : TE}
theorem pe_dget2 (hu : X.A.units + 1 < cLine) (ho : PE X o td) (he : PE X e ty) (hf : PE X f tx) (m : M2 X o "get" apos e f cpos) : PE X (.Call (.Attribute o "get" apos) [e, f] [] cpos) (tDGet2 td ty tx) := by
  intro pins s σ H Q I h
  refine wpAny_Call_method m.base m.few m.line PySem.F.plainAttrs_dict PySem.F.slot_dict_get PySem.F.type_dict_get (thn (ho pins s σ H _ I h) fun u s1 ⟨x, H1, I1, rx, a, ex, d, q1⟩ => ?_)
  subst ex
  obtain rfl : u = Value.ref a := rx
  obtain ⟨t1, t2, _⟩ := isD_at I1 d
  refine ⟨t1, t2, ?_⟩
  rw [m.trees]
  refine Calls.callWith_builtin rfl (Calls.evalArgs_plain (Calls.spliced_cons (thn (he pins s1 σ H1 _ I1 q1) fun iv s2 ⟨y, H2, I2, ry, q2⟩ =>
    Calls.spliced_cons (thn (hf pins s2 σ H2 _ I2 q2) fun fv s3 ⟨z, H3, I3, rz, ov, g, q3⟩ => Calls.spliced_nil ?_))))
  exact d_get2 hu I3 g ry rz fun w' s4 I4 rw' => ⟨_, H3, I4, rw', q3⟩
end
section
variable {X : Cx} {pins : List (Addr × Obj)} {σ : St} {H : Hp} {s : Shared} {a : Addr} {kvs : List (Key × V)} {A : Around} {E : Value → Shared → Prop}
theorem d_copyOf {Q : Value → Shared → Prop} (I : Inv X pins σ H s) (e : Rd H a (.dK kvs)) (h : ∀ p s', H p = none → Inv X pins σ (upd H p (.dK kvs)) s' → Q (.ref p) s') : wpAny (model X.prog X.w) A (call (.type "dict") [.ref a]) Q E s := by
  obtain ⟨z, hd, vs, rel, dd⟩ := dk_rd I.hok e
  refine kt_call_dict hd dd (by rw [← rel.length]; exact z) fun h' dd' hs => ?_
  refine h _ _ (I.hok.fresh (Nat.le_refl _)) (I.laid (a := s.heap.objs.size) (o := .dK kvs) (t' := s.toks) (fun b q hq => ?_) (Nat.le_refl _) (dk_new z (beq_eq_false_iff_ne.mpr (Ne.symm (Nat.ne_of_lt I.big))) rel dd'))
  exact (hs.2 b (Nat.ne_of_lt (Heap.lt_size hq))).trans (Heap.get?_push_of_some _ hq)
end
section
variable {X : Cx} {pins : List (Addr × Obj)} {σ : St} {H : Hp} {s : Shared} {a : Addr} {y : V} {u : Value} {A : Around} {E : Value → Shared → Prop}
end
end L2
namespace Att
open PySem PySem.W PySem.Calls PyProof.Rows
theorem ints_of_wellAll {P : Params} {h : Heap} : ∀ (ns : List Int) (vs : List Value), WellAll P h vs (ns.map WData.int) → IntsAre vs ns := by
  intro ns
  induction ns with
  | nil =>
    intro vs w
    rw [List.map_nil] at w
    cases w
    exact .nil
  | cons n ns ih =>
    intro vs w
    rw [List.map_cons] at w
    cases w with
    | cons a b =>
      cases a
      exact .cons _ _ (ih _ b)
theorem script_of {l : OpenLaw} {n : Nat} (hn : l.most = some n) {P : Params} {h : Heap} {args : List WData} {vals : List Value}
    (hpre : l.row.toRowW.claim.pre args = true) (hwl : WellAll P h vals args) :
    ∃ a vs ns, vals = [Value.ref a] ∧ args = [WData.list (ns.map WData.int)] ∧ h.get? a = some { cls := .type "list", data := .seq vs.toArray } ∧ IntsAre vs ns ∧ ns.length ≤ n := by
  have hsh : WShape.hasAll [] args [.list .int] = true := (pre_splitW hpre).1
  have hc : l.pre.holds [] { args := args } = true := (pre_splitW hpre).2
  obtain ⟨d, r, rfl, h1, h2⟩ := hasAllW_cons hsh
  obtain rfl := hasAllW_nil h2
  obtain ⟨xs, rfl, h3⟩ := hasW_list h1
  obtain ⟨ns, rfl⟩ := items_int h3
  have hlen : ns.length ≤ n := by
    unfold OpenLaw.pre at hc
    have h4 : (WTm.not (.lt (.lit (.int (n : Int))) (.len (.arg 0)))).holds [] { args := [.list (ns.map .int)] } = true := by
      have h4 := (holds_andW hc).1
      rw [hn] at h4
      exact h4
    have h5 := condW_of h4 (w_not (w_lt w_lit (w_len_list (w_arg rfl))))
    rw [List.length_map] at h5
    refine Nat.le_of_not_lt fun q => ?_
    have q' : (n : Int) < ((ns.length : Nat) : Int) := by omega
    first
      | (rw [decide_eq_true q'] at h5; exact absurd h5 (by decide))
      | (simp at h5; omega)
  cases hwl with
  | cons w1 w2 =>
    cases w2
    cases w1 with
    | list ho hall => exact ⟨_, _, ns, rfl, rfl, ho, ints_of_wellAll ns _ hall, hlen⟩
theorem post_true (l : OpenLaw) (args : List WData) : l.row.toRowW.claim.post args (.bool true) args = true :=
  postW_of (r := l.row.toRowW) (X := (true == true))
    (show WShape.has [] (.bool true) .bool = true by first | rfl | decide | simp [WShape.has, WShape.arms, WShape.armsAll])
    (show (WTm.eq .res (.lit (.bool true))).value [] { args := args, res := some (.bool true), after := args } = some (.bool (true == true)) from w_eq_bool (w_res rfl) w_lit) rfl
theorem attach_call {l : OpenLaw} {n : Nat} {q : Program} {loose : List Str} {XP : (Str → Option Value) → Heap → Prop} {YP : World → Heap → Prop} {d : DefRec}
    (hn : l.most = some n) (hdf : d.params.defaults = [])
    (call : ∀ (w : World) (s₀ s₁ : Shared) (mg mb : Str → Option Value) (fa : Addr) (o : Obj) (pm cd doc : Value) (a : Addr) (vs : List Value) (ns : List Int),
      Ground q loose [] XP w s₀ mg mb s₁.heap → YP w s₁.heap →
      s₁.heap.get? fa = some o → o.data = .func (docDef d.name d.params d.body d.scope pm cd doc) → s₁.heap.CodeRec cd d.name → mg d.name = some (.ref fa) →
      s₁.heap.get? a = some { cls := .type "list", data := .seq vs.toArray } → IntsAre vs ns → ns.length ≤ n → s₁.gens = #[] →
      codeAny (model l.prog w) callerA (.call (.ref fa) ⟨[.ref a], []⟩) (fun r s' => r = .ok (.ret (.bool true)) ∧ OldK s₁.heap s'.heap ∧ s'.os = s₁.os ∧ AllBare s'.gens) s₁) :
    WalkO q loose XP YP l.row.toRowW d [] (fun f vs => PySem.call f vs) := by
  intro w s₀ s₁ mg mb G Y fa o pm cd doc dV kV ho hd hcd hD hmg hg args vals as hpre hlay hrd hwl hlo
  obtain rfl : dV = .none := Dflts.none hD hdf
  obtain rfl : kV = .none := Dflts.noKw hD
  obtain ⟨a, vs, ns, rfl, rfl, hobj, hints, hlen⟩ := script_of hn hpre hwl
  refine enter_call (codeAny_mono (call w s₀ s₁ mg mb fa o pm cd doc a vs ns G Y ho (fd_plain hd) hcd hmg hobj hints hlen hg) fun r s' hq => ?_)
  obtain ⟨rfl, h2, h3, h4⟩ := hq
  exact ⟨.inl ⟨.bool true, .bool true, [], rfl, fun _ => rfl, .bool true, post_true l _, fun _ => ⟨List.Pairwise.nil, fun _ hm => (nomatch hm)⟩⟩, h2, h3, h4⟩
section
variable {prog : Program} {w : World} {A : Around} {E : Value → Shared → Prop} {s : Shared} {K : Frag}
end
end Att
namespace L2
open PySem PySem.Spec PyProof.Rows
theorem vals_ints : ∀ {vs : List Value} {ns : List Int}, IntsAre vs ns → Vals (ns.map V.int) vs
  | _, _, .nil => .nil
  | _, _, .cons n t h => .cons ⟨t, rfl⟩ (vals_ints h)
noncomputable def Only (H : Hp) : Prop := ∀ b, H b = none ∨ ∃ o xs, H b = some (.frz o (.lst xs))
theorem law_call {P : Program} {w : World} {K : PySem.W.Frag} {mg mb : Str → Option Value} {CX : CXT} {k : Nat} {fa a : Addr} {fd : FuncData} {x : Str} {sp : Sp} {s₁ : Shared} {vs : List Value} {ns : List Int}
    (KX : K.In s₁.heap) (hns : s₁.heap.Ns mainGlobals mg) (hb : s₁.heap.Ns builtinsNs mb) (hbb : ∀ x : Str, x ≠ "__name__" → mb x = bootBuiltins x) (hlim : s₁.heap.NoLimit) (hg : s₁.gens = #[])
    (ha : s₁.heap.get? a = some { cls := .type "list", data := .seq vs.toArray }) (hi : IntsAre vs ns) (hl : ns.length ≤ sizeLine) (hr : Room k callerA)
    (F : ∀ base : Heap, K.In base → base.Ns mainGlobals mg → FnOk P w K mg base CX k fa fd [x] sp) (hbind : ∀ (s : Shared) (u : Value), BindsTo s fd ⟨[u], []⟩ [(x, u)])
    (hsp : ∀ H : Hp, Only H → SqL K H a (ns.map V.int) → sp [.ref a] H (fun v _ => v = .bl true) fun _ _ _ => False)
    (hCX : ∀ H e s', CX [] H s₁ (fun _ _ _ => False) e s' → False) :
    codeAny (model P w) callerA (.call (.ref fa) ⟨[.ref a], []⟩) (fun r s' => r = .ok (.ret (.bool true)) ∧ OldK s₁.heap s'.heap ∧ s'.os = s₁.os ∧ AllBare s'.gens) s₁ := by
  have rv := vals_ints hi
  have lenV := hi.length
  have core : ∀ H : Hp, Only H → SqL K H a (ns.map V.int) → HOk P w H s₁.heap → (∀ b, H b ≠ none → b = a) → (H a ≠ none → K.lookup a = none) →
      codeAny (model P w) callerA (.call (.ref fa) ⟨[.ref a], []⟩) (fun r s' => r = .ok (.ret (.bool true)) ∧ OldK s₁.heap s'.heap ∧ s'.os = s₁.os ∧ AllBare s'.gens) s₁ := by
    intro H hO hS hok hA hK
    have base_of : ∀ {b : Addr} {o : Obj}, s₁.heap.get? b = some o → H b = none → (hidT s₁.heap H).get? b = some o := fun e n => hidT_get e n
    have noA : ∀ {b : Addr} {o : Obj} {es : Array DictEntry} {ep : Nat}, s₁.heap.get? b = some o → o.data = .dict es ep → H b = none := fun {b o es ep} e d => by
      cases q : H b with
      | none => rfl
      | some u =>
        have e' : b = a := hA b (by rw [q]; simp)
        subst e'
        rw [ha] at e; cases e
        have d' : Data.seq vs.toArray _ = Data.dict es ep := d
        cases d'
    have nsK : ∀ {b : Addr} {m : Str → Option Value}, s₁.heap.Ns b m → (hidT s₁.heap H).Ns b m := fun {b m} ⟨o, es, ep, e, d, r⟩ => ⟨o, es, ep, base_of e (noA e d), d, r⟩
    have hKb : K.In (hidT s₁.heap H) := fun b o e => base_of (KX b o e) (by
      cases q : H b with
      | none => rfl
      | some u =>
        have e' : b = a := hA b (by rw [q]; simp)
        subst e'
        rw [hK (by rw [q]; simp)] at e; cases e)
    have hM : Mod K mg (hidT s₁.heap H) := ⟨hKb, nsK hns, ⟨mb, nsK hb, hbb⟩, let ⟨mc, h1, h2⟩ := hlim; ⟨mc, nsK h1, h2⟩⟩
    have e0 : Env0 P w K mg (hidT s₁.heap H) callerA [] s₁ H := ⟨rfl, hM, fun b o e => of_hidT e, Nat.le_of_eq (hidT_size _ _), trivial, fun b hb => absurd (show b ∈ ([] : List Addr) from hb) (by simp), hok, .of_eq hg⟩
    refine codeAny_mono ((F _ hKb (nsK hns)).run callerA [] s₁ H ⟨[.ref a], []⟩ [.ref a] [.ref a] _ _ hr e0 (hbind s₁ (.ref a)) (.cons rfl .nil) (hsp H hO hS)) fun r s' h => ?_
    cases r with
    | error e => exact (hCX H e s' h).elim
    | ok fl =>
      cases fl with
      | next => exact False.elim h
      | brk => exact False.elim h
      | cont => exact False.elim h
      | ret u =>
        obtain ⟨v, H', os, bare, un, hok', r', q⟩ := h
        have q' : v = .bl true := q
        subst q'
        obtain rfl : u = Value.bool true := r'
        refine ⟨rfl, OldK.of_keep fun b o e => ?_, os, bare⟩
        cases q : H b with
        | none => exact un.keep b o e q (by intro z; exact absurd (show b ∈ ([] : List Addr) from z) (by simp)) (by simp)
        | some u =>
          rcases hO b with z | ⟨ob, xs, z⟩
          · rw [q] at z; cases z
          · have z2 := un.frzs b ob _ z
            obtain ⟨e1, _⟩ := hok b _ z
            obtain ⟨e2, _⟩ := hok' b _ z2
            rw [e] at e1; cases e1
            exact e2
  cases hk : K.lookup a with
  | some o =>
    have e := KX a o hk
    rw [ha] at e
    cases e
    refine core (fun _ => none) (fun _ => .inl rfl) (.inr ⟨_, vs.toArray, _, hk, rfl, rfl, rfl, by rw [List.size_toArray, lenV]; exact hl, by simpa using rv⟩) (fun b u z => by have z' : (none : Option HO) = some u := z; cases z') (fun b z => absurd rfl z) fun z => absurd rfl z
  | none =>
    refine core (fun b => if b = a then some (.frz { cls := .type "list", data := .seq vs.toArray } (.lst (ns.map V.int))) else none) (fun b => ?_) (.inl (.inr ⟨{ cls := .type "list", data := .seq vs.toArray }, if_pos rfl⟩)) (fun b u z => ?_) (fun b z => ?_) fun _ => hk
    · by_cases hb : b = a
      · exact .inr ⟨_, _, if_pos hb⟩
      · exact .inl (if_neg hb)
    · by_cases hb : b = a
      · have z' := (if_pos hb).symm.trans z
        cases z'
        subst hb
        exact ⟨ha, by rw [List.length_map]; exact hl, vs, _, rv, ha⟩
      · have z' := (if_neg hb).symm.trans z
        cases z'
    · by_cases hb : b = a
      · exact hb
      · exact absurd (if_neg hb) z
end L2
namespace L2
open PySem PySem.Spec PyProof.Rows
theorem walk_of {l : PySem.W.OpenLaw} {n k : Nat} {q : Program} {loose : List Str} {XP : (Str → Option Value) → Heap → Prop} {YP : World → Heap → Prop} {d : DefRec} {K : Params → PySem.W.Frag} {CX : World → CXT} {sp : World → Sp} {x : Str}
    (hn : l.most = some n) (hn2 : n ≤ sizeLine) (hdf : d.params.defaults = []) (hr : Room k callerA)
    (hY : ∀ (w : World) (h : Heap), YP w h → (K w.params).In h)
    (F : ∀ (w : World) (mg : Str → Option Value) (fa : Addr) (h : Heap), (K w.params).In h → h.Ns mainGlobals mg → mg d.name = some (.ref fa) →
      ∃ fd : FuncData, (∀ (s : Shared) (u : Value), BindsTo s fd ⟨[u], []⟩ [(x, u)]) ∧
        ∀ base : Heap, (K w.params).In base → base.Ns mainGlobals mg → FnOk l.prog w (K w.params) mg base (CX w) k fa fd [x] (sp w))
    (hsp : ∀ (w : World) (H : Hp) (a : Addr) (ns : List Int), ns.length ≤ n → Only H → SqL (K w.params) H a (ns.map V.int) → sp w [.ref a] H (fun v _ => v = .bl true) fun _ _ _ => False)
    (hCX : ∀ (w : World) (H : Hp) (s : Shared) (e : Value) (s' : Shared), CX w [] H s (fun _ _ _ => False) e s' → False) :
    PySem.W.WalkO q loose XP YP l.row.toRowW d [] (fun f vs => PySem.call f vs) := by
  refine Att.attach_call hn hdf fun w s₀ s₁ mg mb fa o pm cd doc a vs ns G Y ho hd hcd hmg hobj hints hlen hg => ?_
  have KX := hY w _ Y
  obtain ⟨fd, hb, hF⟩ := F w mg fa _ KX G.T.g hmg
  exact law_call KX G.T.g G.T.b G.T.builtins G.T.nolimit hg hobj hints (Nat.le_trans hlen hn2) hr hF hb (fun H hO hS => hsp w H a ns hlen hO hS) fun H e s' => hCX w H s₁ e s'
end L2
namespace L2
open PySem PySem.Spec PyProof.Rows
noncomputable def defArgs (s : Stmt) : Arguments := match s with
  | .FunctionDef _ a _ _ _ _ _ _ _ _ => a
  | _ => { posonlyargs := [], args := [], vararg := none, kwonlyargs := [], kw_defaults := [], kwarg := none, defaults := [] }
noncomputable def defBody (s : Stmt) : List Stmt := match s with
  | .FunctionDef _ _ b _ _ _ _ _ _ _ => b
  | _ => []
noncomputable def defScope (s : Stmt) : Scope := match s with
  | .FunctionDef _ _ _ _ _ _ sc _ _ _ => sc
  | _ => { kind := .function, names := [], isGenerator := false, isCoroutine := false }
noncomputable abbrev CX0 : CXT := fun _ _ _ _ _ _ => False
noncomputable abbrev E0 : XK := fun _ _ _ => False
theorem pass0 {X : Cx} : Passes CX0 X E0 := fun _ _ _ _ _ _ _ h => h.elim
structure Fun (K : PySem.W.Frag) (x qual : Str) (st : Stmt) (f : Addr) (fd : FuncData) : Prop where
  ex : ∃ (oc : Value) (od : Option Addr) (kV doc pm : Value) (an : Option Addr) (cdv ct : Value) (osl : Array (Option Value)),
    fd = PySem.W.fnOf x qual (defArgs st) (defBody st) (defScope st) .none kV doc pm an cdv ct ∧ K.lookup f = some ⟨oc, od, .func fd, osl⟩ ∧ PySem.W.codeIn K cdv qual = true
  kp : PySem.W.keepIn K (.ref f) = true
section
variable {P : Program} {w : World} {K : PySem.W.Frag} {mg : Str → Option Value} {base : Heap}
theorem Fun.ok {x qual : Str} {st : Stmt} {f : Addr} {fd : FuncData} {N ps : List Str} {k : Nat} {sp : Sp} (F : Fun K x qual st f fd) (S : FnScope N ps (defScope st)) (len : ∀ vs H Q E, sp vs H Q E → vs.length = ps.length)
    (hbody : ∀ (cdv : Value) (A : Around) (outer : List Env) (s : Shared) (H : Hp) (vs : List V) (Q : VK) (E : XK), Room k (A.deeper (envOfC qual (defScope st) s.heap.objs.size f cdv)) → sp vs H Q E →
      ∃ t, PSs (cxOf CX0 P w K mg base N qual (defScope st) f cdv A outer s H E).nox (defBody st) t ∧ t { nx := fun _ H' => Q .non H', rt := Q } (start N vs) H) : FnOk P w K mg base CX0 (k + 1) f fd ps sp := by
  obtain ⟨oc, od, kV, doc, pm, an, cdv, ct, osl, rfl, lk, hcd⟩ := F.ex
  refine fn_of lk hcd S len fun A outer s H vs Q E hr hsp => ?_
  obtain ⟨t, h, q⟩ := hbody cdv A outer s H vs Q E hr hsp
  exact ⟨t, h.nox, q⟩
theorem Fun.binds {x qual : Str} {st : Stmt} {f : Addr} {fd : FuncData} {ps : List Str} (F : Fun K x qual st f fd)
    (h : ∀ (kV doc pm : Value) (an : Option Addr) (cdv ct : Value) (us : List Value), us.length = ps.length → bindArgs (PySem.W.fnOf x qual (defArgs st) (defBody st) (defScope st) .none kV doc pm an cdv ct) ⟨us, []⟩ = pure (ps.zip us)) : Binds K fd ps [] := by
  obtain ⟨oc, od, kV, doc, pm, an, cdv, ct, osl, rfl, lk, hcd⟩ := F.ex
  exact .all (h kV doc pm an cdv ct)
theorem fun_mk {x qual : Str} {st : Stmt} {f : Addr} {oc : Value} {od an : Option Addr} {osl : Array (Option Value)} {kV doc pm cdv ct : Value} (l : K.lookup f = some ⟨oc, od, .func (PySem.W.fnOf x qual (defArgs st) (defBody st) (defScope st) .none kV doc pm an cdv ct), osl⟩)
    (c : PySem.W.codeIn K cdv qual = true) (k : PySem.W.keepIn K (.ref f) = true) : Fun K x qual st f (PySem.W.fnOf x qual (defArgs st) (defBody st) (defScope st) .none kV doc pm an cdv ct) := ⟨⟨oc, od, kV, doc, pm, an, cdv, ct, osl, rfl, l, c⟩, k⟩
end
theorem hu_of {A : Around} {k : Nat} (hr : Room k A) : A.units + 1 < cLine := Nat.lt_of_le_of_lt (Nat.add_le_add_left (by decide : 1 ≤ 64) _) hr.units
section
variable {X : Cx}
theorem pv (i : Nat) {x : Str} {pos : Pos} (hN : X.N[i]? = some x := by rfl) (hv : Vis X.env.scope x := by first | exact Or.inl rfl | exact Or.inr (Or.inl rfl) | exact Or.inr (Or.inr rfl)) (hd : (x == ("__debug__" : Str)) = false := by decide)
    (hcd : (x == ("__classdict__" : Str)) = false := by decide) : PE X (.Name x pos) (tVar i) := pe_var hN hv hd hcd
theorem call_lenD : CallR X (.builtin "len") (fun xs H Q => ∃ a kvs, xs = [V.ref a] ∧ H a = some (.dK kvs) ∧ Q (.int kvs.length) H) := by
  intro pins s σ H xs us Q I r h
  obtain ⟨a, kvs, rfl, ha, q⟩ := h
  obtain ⟨u, rfl, ru⟩ := vals1 r
  cases ru
  exact d_len I (.inl ha) fun t s' I' => ⟨.int kvs.length, H, I', ⟨t, rfl⟩, q⟩
end
theorem iteF {A B : Prop} (h : B) : if false = true then A else B := by
  rw [if_neg Bool.false_ne_true]
  exact h
theorem ite2 {c A B : Prop} [Decidable c] (h1 : c → A) (h2 : ¬ c → B) : if c then A else B := by
  by_cases h : c
  · rw [if_pos h]
    exact h1 h
  · rw [if_neg h]
    exact h2 h
noncomputable def Same (H H' : Hp) : Prop := ∀ b o, H b = some o → H' b = some o
theorem Same.trans {H H1 H2 : Hp} (a : Same H H1) (b : Same H1 H2) : Same H H2 := fun c o h => b c o (a c o h)
theorem Same.free {H H' : Hp} (e : Same H H') {l : Addr} (h : H' l = Option.none) : H l = Option.none := by
  cases q : H l with
  | none => rfl
  | some o =>
    rw [e l o q] at h
    cases h
theorem Same.seq {K : PySem.W.Frag} {H H' : Hp} {a : Addr} {xs : List V} (e : Same H H') (h : SqL K H a xs) : SqL K H' a xs := by
  rcases h with (h | ⟨o, h⟩) | h
  · exact .inl (.inl (e _ _ h))
  · exact .inl (.inr ⟨o, e _ _ h⟩)
  · exact .inr h
section
variable {κ : Type} [DecidableEq κ]
theorem nd_snoc : ∀ {l : List κ} {k : κ}, l.Nodup → ¬ k ∈ l → (l ++ [k]).Nodup
  | [], k, _, _ => by simp
  | a :: r, k, h, hk => by
    obtain ⟨h1, h2⟩ := List.nodup_cons.mp h
    show (a :: (r ++ [k])).Nodup
    refine List.nodup_cons.mpr ⟨fun m => ?_, nd_snoc h2 fun m => hk (List.mem_cons.mpr (Or.inr m))⟩
    rcases List.mem_append.mp m with q | q
    · exact h1 q
    · exact hk (List.mem_cons.mpr (Or.inl (List.mem_singleton.mp q).symm))
end
end L2
namespace PySem
structure XAt (h : Heap) (e : Addr) (cls : Value) (od : Option Addr) (T : Addr) (fl : Value) : Prop where
  ex : ∃ oe vs oT ts, h.get? e = some oe ∧ oe.cls = cls ∧ oe.dict = od ∧ oe.data = .fields vs ∧ vs[1]? = some (.ref T) ∧ T ≠ e ∧ h.get? T = some oT ∧ oT.data = .fields ts ∧ ts[3]? = some fl
structure XKeep (fs xs : List Addr) (h h' : Heap) : Prop where
  keep : ∀ b o, h.get? b = some o → b ∉ xs → b ∉ fs → h'.get? b = some o
  slot : ∀ b o, h.get? b = some o → b ∉ xs → ∃ sl, h'.get? b = some { o with slots := sl }
  there : ∀ b o, h.get? b = some o → ∃ o', h'.get? b = some o'
section
variable {M : Model} {A : Around} {E : Value → Shared → Prop} {s : Shared}
end
end PySem
namespace PySem
section
variable {prog : Program} {w : World} {A : Around} {E : Value → Shared → Prop} {h : Heap} {g : Array GenState} {d : Drawn} {t : Nat} {os : OsState}
variable {nm q : Str} {C N : Addr} {bs bm bmB : List Value} {hdct : Bool} {sn : List Str} {sub : List Value} {ab : Bool} {col : Option Bool} {dd : Option Addr} {k0 k1 k2 k3 k5 : Option Value} {B Bn newId nid initId inN : String} {bmN : List Value}
end
end PySem
namespace L2
open PySem PySem.Spec PyProof.Rows
section
variable {P : Program} {w : World} {K : PySem.W.Frag} {mg : Str → Option Value} {base : Heap} {N : List Str} {qual : Str} {scope : Scope} {f : Addr} {cd : Value} {A : Around} {outer : List Env} {s0 : Shared} {H0 : Hp} {E E1 : XK}
end
end L2
namespace PySem.W
open PySem PySem.Calls PyProof.Rows Builtin Builtin.ObjectAttr
section
variable {prog : Program} {w : World} {A : Around} {E : Value → Shared → Prop} {s : Shared} {K : Frag} {x C : Addr} {ox : Obj} {od : Option Obj} {name : Str} {expr : Bool} {Q : Value → Shared → Prop}
end
end PySem.W
namespace PySem.W
open PySem PySem.Calls PyProof.Rows Builtin Builtin.ObjectAttr
section
variable {prog : Program} {w : World} {A : Around} {E : Value → Shared → Prop} {s : Shared} {K : Frag} {x C : Addr} {ox : Obj} {name : Str}
end
end PySem.W
namespace PySem
section
variable {prog : Program} {w : World} {A : Around} {E : Value → Shared → Prop} {h : Heap} {g : Array GenState} {d : Drawn} {t : Nat} {os : OsState}
variable {nm q : Str} {C N : Addr} {bs bm bmB : List Value} {hdct : Bool} {sn : List Str} {sub : List Value} {ab : Bool} {col : Option Bool} {dd : Option Addr} {k0 k1 k2 k3 k5 : Option Value} {B Bn newId nid initId inN : String} {bmN : List Value}
end
end PySem
namespace L2
open PySem PySem.Spec PyProof.Rows
section
variable {X : Cx}
theorem ints_items {K : PySem.W.Frag} : ∀ {ns : List Int} {its : List Value}, Vals (ns.map V.int) its → ∃ xs : Array (Int × Tok), its.toArray = intItems xs ∧ ns = xs.toList.map (·.1)
  | [], _, .nil => ⟨#[], by simp [intItems], rfl⟩
  | n :: ns, _, .cons r rr => by
    obtain ⟨t, rfl⟩ := r
    obtain ⟨xs, e1, e2⟩ := ints_items (K := K) rr
    refine ⟨(⟨(n, t) :: xs.toList⟩ : Array (Int × Tok)), ?_, by rw [e2]; rfl⟩
    have : (intItems xs).toList = _ := (congrArg Array.toList e1).symm
    unfold intItems at this ⊢
    refine Array.toList_inj.mp ?_
    simp only [Array.toList_map] at this ⊢
    rw [List.map_cons, this]
theorem num_at {ys : Array (Int × Tok)} {ns : List Int} (en : ns = ys.toList.map (·.1)) {j : Nat} (hj : j < ys.size) : ∃ h : j < ns.length, numAt ys j = ns[j] := by
  subst en
  refine ⟨by simpa using hj, ?_⟩
  simp [numAt, hj]
theorem call_sum (hc : X.calm = true) : CallR X (.builtin "sum") (fun xs H Q => ∃ (p : Addr) (ns : List Int), xs = [.ref p] ∧ SqL X.K H p (ns.map V.int) ∧ Q (.int ns.sum) H) := by
  intro pins s σ H xs us Q I r h
  obtain ⟨p, ns, rfl, hq, q⟩ := h
  obtain ⟨u, rfl, rx⟩ := vals1 r
  cases rx
  obtain ⟨its, r', pl, hz⟩ := I.list hq
  obtain ⟨ys, e, en⟩ := ints_items (K := X.K) r'
  refine sum_intListG (xs := ys) (I.ok.hd hc) (e ▸ pl.isList) fun h' tk t' hk => ⟨.int ns.sum, H, I.kept hk, ⟨t', ?_⟩, q⟩
  rw [preSum_eq, List.take_of_length_le (by simp), en]
theorem call_minL (hc : X.calm = true) : CallR X (.builtin "min") (fun xs H Q => ∃ (p : Addr) (ns : List Int), xs = [.ref p] ∧ SqL X.K H p (ns.map V.int) ∧ ns ≠ [] ∧ ∀ m : Int, m ∈ ns → (∀ a ∈ ns, m ≤ a) → Q (.int m) H) := by
  intro pins s σ H xs us Q I r h
  obtain ⟨p, ns, rfl, hq, hne, q⟩ := h
  obtain ⟨u, rfl, rx⟩ := vals1 r
  cases rx
  obtain ⟨its, r', pl, hz⟩ := I.list hq
  obtain ⟨ys, e, en⟩ := ints_items (K := X.K) r'
  have hsz : 0 < ys.size := by
    rcases Nat.eq_zero_or_pos ys.size with z | z
    · exfalso; apply hne; rw [en]; simp [Array.size_eq_zero_iff.mp z]
    · exact z
  refine min_intList (xs := ys) (I.ok.hd hc) (e ▸ pl.isList) hsz fun v h' tk hv hk => ?_
  obtain ⟨t, rfl⟩ := intItems_at (xs := ys) hv
  have best := argBest_lt (numAt ys) (ys.size - 1)
  obtain ⟨p1, e1⟩ := num_at en (Nat.lt_of_le_of_lt best.1 (show ys.size - 1 < ys.size by omega))
  refine ⟨.int _, H, I.kept hk, ⟨t, rfl⟩, q _ (e1 ▸ List.getElem_mem p1) fun a ha => ?_⟩
  obtain ⟨j, p2, rfl⟩ := List.getElem_of_mem ha
  have lj : j < ys.size := by rw [en] at p2; simpa using p2
  obtain ⟨p3, e3⟩ := num_at en lj
  exact e3 ▸ best.2 j (by omega)
theorem call_maxL (hc : X.calm = true) : CallR X (.builtin "max") (fun xs H Q => ∃ (p : Addr) (ns : List Int), xs = [.ref p] ∧ SqL X.K H p (ns.map V.int) ∧ ns ≠ [] ∧ ∀ m : Int, m ∈ ns → (∀ a ∈ ns, a ≤ m) → Q (.int m) H) := by
  intro pins s σ H xs us Q I r h
  obtain ⟨p, ns, rfl, hq, hne, q⟩ := h
  obtain ⟨u, rfl, rx⟩ := vals1 r
  cases rx
  obtain ⟨its, r', pl, hz⟩ := I.list hq
  obtain ⟨ys, e, en⟩ := ints_items (K := X.K) r'
  have hsz : 0 < ys.size := by
    rcases Nat.eq_zero_or_pos ys.size with z | z
    · exfalso; apply hne; rw [en]; simp [Array.size_eq_zero_iff.mp z]
    · exact z
  refine max_intList (xs := ys) (I.ok.hd hc) (e ▸ pl.isList) hsz fun v h' tk hv hk => ?_
  obtain ⟨t, rfl⟩ := intItems_at (xs := ys) hv
  have best := argBest_gt (numAt ys) (ys.size - 1)
  obtain ⟨p1, e1⟩ := num_at en (Nat.lt_of_le_of_lt best.1 (show ys.size - 1 < ys.size by omega))
  refine ⟨.int _, H, I.kept hk, ⟨t, rfl⟩, q _ (e1 ▸ List.getElem_mem p1) fun a ha => ?_⟩
  obtain ⟨j, p2, rfl⟩ := List.getElem_of_mem ha
  have lj : j < ys.size := by rw [en] at p2; simpa using p2
  obtain ⟨p3, e3⟩ := num_at en lj
  exact e3 ▸ best.2 j (by omega)
noncomputable def rIndex (K : PySem.W.Frag) : V → List V → Hp → VK → Prop := fun x vs H Q => ∃ (l : Addr) (xs : List V) (y : V) (j : Nat), x = .ref l ∧ vs = [y] ∧ SqL K H l xs ∧ xs.all flatV = true ∧ flatV y = true ∧ j < xs.length ∧
  (∀ z, xs[j]? = some z → eqV z y = true) ∧ (∀ (m : Nat) z, m < j → xs[m]? = some z → eqV z y = false) ∧ Q (.int j) H
theorem mt_index : MtR X "list.index" (rIndex X.K) := by
  intro pins s σ H x vs v us Q I rx rv h
  obtain ⟨l, xs, y, j, rfl, rfl, hq, fx, fy, hj, h1, h2, q⟩ := h
  cases rx
  obtain ⟨u, rfl, ru⟩ := rv.one
  obtain ⟨its, r, pl, hz⟩ := I.list hq
  have hlen := r.length
  obtain ⟨⟨cls, dd, data, sl⟩, ho, hc, n, hd⟩ := pl.isList
  simp only at hc hd
  subst hc hd
  have hu : ∀ (i : Nat) (hi : i < its.toArray.size), ∃ z, xs[i]? = some z ∧ eqU y its.toArray[i] = eqV z y := fun i hi => by
    have hi' : i < its.length := by simpa using hi
    have hx : xs[i]? = some (xs[i]'(by omega)) := List.getElem?_eq_getElem (by omega)
    obtain ⟨w', hw, rw'⟩ := r.get hx
    have e : its.toArray[i] = w' := by
      rw [List.getElem?_eq_getElem hi'] at hw
      simpa using Option.some.inj hw
    refine ⟨_, hx, ?_⟩
    rw [e]
    exact eqU_of rw' (List.all_eq_true.mp fx _ (List.mem_of_getElem? hx))
  have hjs : j < its.toArray.size := by rw [List.size_toArray]; omega
  have hline : sizeLine < 2 ^ 63 - 1 := by decide
  refine call_meets PySem.F.slot_list_index ⟨_, ho, rfl⟩ PySem.F.entry_list_index (PySem.F.args_list_index_2 _ _)
    (SeqAt.list_indexAt l its.toArray n dd sl u (eqU y) j hjs (by omega) ?_ ?_) ⟨ho, fun w' hw => mem_eqAt ru fy r fx w' (by simpa using hw), ⟨.int j, H, I.tok _, ⟨_, rfl⟩, q⟩⟩
  · obtain ⟨z, hz', ez⟩ := hu j hjs
    show eqU y its.toArray[j] = true
    rw [ez]; exact h1 z hz'
  · intro m hm hlt
    obtain ⟨z, hz', ez⟩ := hu m hm
    show eqU y its.toArray[m] = false
    rw [ez]; exact h2 m z hlt hz'
theorem strs_are : ∀ {ys : List Str} {its : List Value}, Vals (ys.map V.str) its → StrsAre its ys := by
  intro ys
  induction ys with
  | nil => intro its r; cases r; exact .nil
  | cons y r ih =>
    intro its h
    cases h with
    | cons a b =>
      obtain ⟨t, rfl⟩ := a
      exact .cons _ _ (ih b)
noncomputable def rJoin (K : PySem.W.Frag) : V → List V → Hp → VK → Prop := fun x vs H Q => ∃ (z : Str) (l : Addr) (ys : List Str), x = .str z ∧ vs = [.ref l] ∧ (SqL K H l (ys.map V.str) ∨ SqT K H l (ys.map V.str)) ∧
  (ys.map (·.length)).sum + ys.length * z.length ≤ 16777216 ∧ Q (.str (Txt.join z ys)) H
theorem mt_join : MtR X "str.join" (rJoin X.K) := by
  intro pins s σ H x vs v us Q I rx rv h
  obtain ⟨z, l, ys, rfl, rfl, hq, hz, q⟩ := h
  obtain ⟨t, rfl⟩ := rx
  obtain ⟨u, rfl, ru⟩ := rv.one
  cases ru
  rcases hq with hq | hq
  · obtain ⟨its, r, pl, _⟩ := I.list hq
    exact join_list pl.isList (by simpa using strs_are r) hz fun t' k => ⟨.str _, H, I.tok _, ⟨_, rfl⟩, q⟩
  · obtain ⟨its, r, pl, _⟩ := I.tuple hq
    exact join_tuple pl (by simpa using strs_are r) hz fun t' k => ⟨.str _, H, I.tok _, ⟨_, rfl⟩, q⟩
end
end L2
namespace L2
open PySem PySem.Spec PyProof.Rows
mutual
inductive DatV (K : PySem.W.Frag) (H : Hp) : V → PyData → Prop where
  | non : DatV K H .non .none
  | bl (b : Bool) : DatV K H (.bl b) (.bool b)
  | int (i : Int) : DatV K H (.int i) (.int i)
  | str (x : Str) : DatV K H (.str x) (.str x)
  | lst {a : Addr} {xs : List V} {ds : List PyData} : SqL K H a xs → DatVs K H xs ds → DatV K H (.ref a) (.list ds)
  | tup {a : Addr} {xs : List V} {ds : List PyData} : SqT K H a xs → DatVs K H xs ds → DatV K H (.ref a) (.tuple ds)
inductive DatVs (K : PySem.W.Frag) (H : Hp) : List V → List PyData → Prop where
  | nil : DatVs K H [] []
  | cons {x : V} {d : PyData} {xs : List V} {ds : List PyData} : DatV K H x d → DatVs K H xs ds → DatVs K H (x :: xs) (d :: ds)
end
section
variable {X : Cx} {pins : List (Addr × Obj)} {σ : St} {H : Hp} {s : Shared}
mutual
theorem DatV.reads (I : Inv X pins σ H s) : ∀ {x : V} {d : PyData} {u : Value}, DatV X.K H x d → RelV x u → ∃ as, Reads s.heap u d as
  | _, _, _, .non, r => by cases r; exact ⟨_, .none⟩
  | _, _, _, .bl b, r => by cases r; exact ⟨_, .bool b⟩
  | _, _, _, .int i, r => by obtain ⟨t, rfl⟩ := r; exact ⟨_, .int i t⟩
  | _, _, _, .str x, r => by obtain ⟨t, rfl⟩ := r; exact ⟨_, .str x t⟩
  | _, _, _, .lst hq hs, r => by
    cases r
    obtain ⟨its, rv, ⟨o, n, e, c, _, d⟩, _⟩ := I.list hq
    obtain ⟨as, h⟩ := DatVs.reads I hs rv
    exact ⟨_, .list e c d (by simpa using h)⟩
  | _, _, _, .tup hq hs, r => by
    cases r
    obtain ⟨its, rv, ⟨o, e, c, n, d⟩, _⟩ := I.tuple hq
    obtain ⟨as, h⟩ := DatVs.reads I hs rv
    exact ⟨_, .tuple e c d (by simpa using h)⟩
theorem DatVs.reads (I : Inv X pins σ H s) : ∀ {xs : List V} {ds : List PyData} {us : List Value}, DatVs X.K H xs ds → Vals xs us → ∃ as, ReadsAll s.heap us ds as
  | _, _, _, .nil, .nil => ⟨_, .nil⟩
  | _, _, _, .cons h hs, .cons r rs => by
    obtain ⟨as, h1⟩ := DatV.reads I h r
    obtain ⟨bs, h2⟩ := DatVs.reads I hs rs
    exact ⟨_, .cons h1 h2⟩
end
end
section
variable {X : Cx}
noncomputable def rEqD (K : PySem.W.Frag) (neg : Bool) : R2 := fun x y H Q => ∃ da db, DatV K H x da ∧ DatV K H y db ∧ da.canLay0 = true ∧ db.canLay0 = true ∧ min da.depth db.depth ≤ 60 ∧ Q (.bl (if neg then !PyData.eqv da db else PyData.eqv da db)) H
theorem op_eqD (hu : X.A.units + 64 < cLine) : OpR X (compareOp .Eq) (rEqD X.K false) := by
  intro pins s σ H x y v u Q I rx ry h
  obtain ⟨da, db, h1, h2, l1, l2, dp, q⟩ := h
  obtain ⟨as, r1⟩ := h1.reads I rx
  obtain ⟨bs, r2⟩ := h2.reads I ry
  exact SeqAt.compareEq_reads r1 r2 l1 l2 (by omega) ⟨.bl _, H, I, rfl, q⟩
theorem op_neD (hu : X.A.units + 64 < cLine) : OpR X (compareOp .NotEq) (rEqD X.K true) := by
  intro pins s σ H x y v u Q I rx ry h
  obtain ⟨da, db, h1, h2, l1, l2, dp, q⟩ := h
  obtain ⟨as, r1⟩ := h1.reads I rx
  obtain ⟨bs, r2⟩ := h2.reads I ry
  exact SeqAt.compareNe_reads r1 r2 l1 l2 (by omega) ⟨.bl _, H, I, rfl, q⟩
noncomputable def rEqNil (K : PySem.W.Frag) (neg : Bool) : R2 := fun x y H Q => ∃ (a b : Addr) (xs : List V), x = .ref a ∧ y = .ref b ∧ SqL K H a xs ∧ SqL K H b [] ∧ Q (.bl (if neg then !xs.isEmpty else xs.isEmpty)) H
theorem op_eqNil (hu : X.A.units + 64 < cLine) : OpR X (compareOp .Eq) (rEqNil X.K false) := by
  intro pins s σ H x y v u Q I rx ry h
  obtain ⟨a, b, xs, rfl, rfl, h1, h2, q⟩ := h
  cases rx
  cases ry
  obtain ⟨its, r1, p1, _⟩ := I.list h1
  obtain ⟨its2, r2, p2, _⟩ := I.list h2
  cases r2
  have q' : ∀ b', b' = xs.isEmpty → EP X pins σ Q (.bool b') s := fun b' e => ⟨.bl b', H, I, rfl, by subst e; exact q⟩
  cases r1 with
  | nil => exact SeqAt.RcAt.lists (e := fun _ => true) p1.isList p2.isList rfl (by omega) (fun i h1 _ => by simp at h1) X.prog X.w _ _ (q' _ (by simp))
  | cons r rr => exact SeqAt.RcAt.lists_lengths p1.isList p2.isList (by simp) (by omega) X.prog X.w _ _ (q' _ rfl)
end
end L2
namespace L2
open PySem PySem.Spec PyProof.Rows
section
variable {X : Cx}
noncomputable def cutS (z : Str) (lo hi : Option Int) : Str := ⟨((z.cps.toList.drop (HT.sIx z.length 0 lo)).take (HT.sIx z.length z.length hi - HT.sIx z.length 0 lo)).toArray⟩
theorem indices_cut (lo hi : Option Int) (n : Nat) : Builtin.Str.strSliceIndices lo hi 1 n = (List.range (HT.sIx n n hi - HT.sIx n 0 lo)).map (HT.sIx n 0 lo + ·) := by
  unfold Builtin.Str.strSliceIndices
  rw [← sliceRange_one]
  have h1 : ∀ (v : Option Int) (d : Nat), d ≤ n → (match v with | none => ((d : Nat) : Int) | some i => if (1 : Int) > 0 then max 0 (min (if i < 0 then i + (n : Int) else i) (n : Int)) else max (-1) (min (if i < 0 then i + (n : Int) else i) ((n : Int) - 1))) = ((HT.sIx n d v : Nat) : Int) := by
    intro v d hd
    cases v with
    | none => rfl
    | some i =>
      simp only [HT.sIx, show (1 : Int) > 0 by decide, if_true]
      by_cases h : i < 0
      · simp only [h, if_true] <;> omega
      · simp only [h, if_false] <;> omega
  have e1 := h1 lo 0 (Nat.zero_le _)
  have e2 := h1 hi n (Nat.le_refl _)
  simp only [show (1 : Int) > 0 by decide, if_true] at e1 e2 ⊢
  rw [← e1, ← e2]
  cases lo <;> cases hi <;> rfl
noncomputable def rSlS : V → Option Int → Option Int → Hp → VK → Prop := fun x lo hi H Q => ∃ z : Str, x = .str z ∧ z.length ≤ sizeLine ∧ Q (.str (cutS z lo hi)) H
theorem part_pair {v : Value} {o : Option Int} (p : IsPart v o) : ∃ l : Option (Int × Tok), v = partValue l ∧ o = l.map (·.1) := by
  cases p with
  | none => exact ⟨none, rfl, rfl⟩
  | int i t => exact ⟨some (i, t), rfl, rfl⟩
theorem str_len_list (z : Str) : z.cps.toList.length = z.length := by
  rw [Array.length_toList]; rfl
theorem str_ext {a b : Str} (h : a.cps.toList = b.cps.toList) : a = b := by
  obtain ⟨a⟩ := a; obtain ⟨b⟩ := b
  congr
  exact Array.toList_inj.mp h
theorem sl_str : SlR X rSlS := by
  intro pins s σ H x v vl vu lo hi sl Q I rx hs pl pu h
  obtain ⟨z, rfl, hz, q⟩ := h
  obtain ⟨t, rfl⟩ := rx
  obtain ⟨l, rfl, rfl⟩ := part_pair pl
  obtain ⟨u, rfl, rfl⟩ := part_pair pu
  refine ⟨"str", _, PySem.F.slot_str_getitem.lookup, typeIs_str _ z t, ?_⟩
  refine wpAny_getItem_str_slice (l := l) (u := u) (st := none) hs rfl ?_
  have e : slicePicked z l u none = (List.range (HT.sIx z.length z.length (u.map (·.1)) - HT.sIx z.length 0 (l.map (·.1)))).map (HT.sIx z.length 0 (l.map (·.1)) + ·) := indices_cut _ _ _
  have e2 : (⟨((slicePicked z l u none).filterMap (z.cps[·]?)).toArray⟩ : Str) = cutS z (l.map (·.1)) (u.map (·.1)) := by
    rw [e, pick_run]; rfl
  have hle := HT.sIx_le z.length z.length (Nat.le_refl _) (u.map (·.1))
  have hle0 := HT.sIx_le z.length 0 (Nat.zero_le _) (l.map (·.1))
  unfold sliceMade
  split
  · rename_i hc
    have hc' : (slicePicked z l u none).length = z.length := by
      have := (Bool.and_eq_true _ _).mp hc
      exact eq_of_beq this.2
    have e3 : cutS z (l.map (·.1)) (u.map (·.1)) = z := by
      rw [e, List.length_map, List.length_range] at hc'
      apply str_ext
      show ((z.cps.toList.drop _).take _) = z.cps.toList
      have h0 : HT.sIx z.length 0 (l.map (·.1)) = 0 := by omega
      rw [h0] at hc' ⊢
      rw [List.drop_zero, List.take_of_length_le]
      rw [str_len_list]; omega
    rw [e3] at q
    exact ⟨.str z, H, I, ⟨t, rfl⟩, q⟩
  · rw [e2]
    refine ⟨?_, .str _, H, I.tok _, ⟨_, rfl⟩, q⟩
    have : (cutS z (l.map (·.1)) (u.map (·.1))).length ≤ z.length := by
      show ((z.cps.toList.drop _).take _).toArray.size ≤ _
      rw [List.size_toArray, List.length_take, List.length_drop, str_len_list]
      omega
    omega
theorem call_dictOf : CallR X (.type "dict") (fun xs H Q => ∃ (a : Addr) (kvs : List (Key × V)), xs = [.ref a] ∧ H a = some (.dK kvs) ∧ ∀ p, H p = none → Q (.ref p) (upd H p (.dK kvs))) := by
  intro pins s σ H xs us Q I r h
  obtain ⟨a, kvs, rfl, ha, q⟩ := h
  obtain ⟨u, rfl, ru⟩ := vals1 r
  cases ru
  exact d_copyOf I (.inl ha) fun p s' hp I' => ⟨.ref p, _, I', rfl, q p hp⟩
theorem call_isi : CallR X (.builtin "isinstance") (fun xs H Q => ∃ (x c : V) (t cv : Value) (b : Bool), xs = [x, c] ∧ RelV c cv ∧ TyOf X.K H x t ∧ PySem.W.kitOne X.K t cv = some b ∧ Q (.bl b) H) := by
  intro pins s σ H xs us Q I r h
  obtain ⟨x, c, t, cv, b, rfl, rc, ty, e, q⟩ := h
  obtain ⟨u, w', rfl, r1, r2⟩ := vals2 r
  have : w' = cv := by
    cases c with
    | ref a => cases rc; cases r2; rfl
    | ty n => cases rc; cases r2; rfl
    | non => cases rc; cases r2; rfl
    | bl b => cases rc; cases r2; rfl
    | int i => obtain ⟨z, rfl⟩ := rc; exact absurd e (by unfold PySem.W.kitOne PySem.W.kitCls; cases ty <;> simp)
    | str i => obtain ⟨z, rfl⟩ := rc; exact absurd e (by unfold PySem.W.kitOne PySem.W.kitCls; cases ty <;> simp)
    | byt i => obtain ⟨z, rfl⟩ := rc; exact absurd e (by unfold PySem.W.kitOne PySem.W.kitCls; cases ty <;> simp)
    | flt i => obtain ⟨z, rfl⟩ := rc; exact absurd e (by unfold PySem.W.kitOne PySem.W.kitCls; cases ty <;> simp)
  subst this
  exact isinst_ok I r1 ty e fun tk => ⟨.bl b, H, I.tok _, rfl, q⟩
end
end L2
namespace HT
open PySem PyProof.Rows
section
variable {prog : Program} {w : World} {A : Around} {E : Value → Shared → Prop} {s : Shared}
end
end HT
namespace L2
open PySem PySem.Spec PyProof.Rows
section
variable {X : Cx} {e st : Expr} {te ts : TE} {p2 pos : Pos}
end
noncomputable def Its (z : Str) : It := ⟨fun i _ => i < z.length, fun i H x H' => H' = H ∧ ∃ c, z.cps[i]? = some c ∧ x = .str ⟨#[c]⟩, fun i _ => z.length ≤ i⟩
theorem turn_str {P : Program} {w : World} {K : PySem.W.Frag} {tg : Expr} (z : Str) (t : Tok) (it : Addr) : Turn P w K tg (Its z) [it] it (fun i h => h.IsStrIter it "str_ascii_iterator" z t i) where
  mem := by simp
  obj := fun i h st b hb => by
    have e : b = it := by simpa using hb
    subst e
    obtain ⟨o, e, c, d⟩ := st
    exact ⟨o, e, fun v z => by rw [d] at z; cases z⟩
  keep := fun i h h' st k => by
    obtain ⟨o, e, r⟩ := st
    exact ⟨o, k it (by simp) o e, r⟩
  item := by
    intro X hP hw hK hc i pins s σ H E I hf st hg
    subst hP hw hK
    have hg : i < z.length := hg
    obtain ⟨f0, f1, f2, f3, f4, f5⟩ := hf it (by simp)
    have hz : z.cps[i]? = some (z.cps[i]'hg) := Array.getElem?_eq_getElem hg
    refine wpAny_pyNext_ascii_item st hz fun h' st' sb => ?_
    have I1 : Inv X pins σ H { s with heap := h', toks := s.toks + 1 } := I.turned (t' := s.toks + 1) (fun b o hb e => (sb.2 b hb).trans e) f0 f1 f3 f4 f5
    obtain ⟨o, e, c, d⟩ := id st'
    exact ⟨_, rfl, go_of (s := { s with heap := h', toks := s.toks + 1 }) e c d (by decide) ⟨.str ⟨#[z.cps[i]'hg]⟩, H, I1, ⟨_, rfl⟩, ⟨rfl, _, hz, rfl⟩, st', fun b hb => (hf b hb).1⟩⟩
  done := by
    intro X hP hw hK hc i pins s σ H E I hf st hg
    subst hP hw hK
    have hg : z.length ≤ i := hg
    obtain ⟨f0, f1, f2, f3, f4, f5⟩ := hf it (by simp)
    exact wpAny_pyNext_ascii_end (I.ok.hd hc) st (Array.getElem?_eq_none (by exact hg)) fun h' eb => ⟨rfl, I.turned (t' := s.toks) (fun b o hb e => eb b o hb e) f0 f1 f3 f4 f5⟩
  self := fun _ _ _ _ _ st h => wpAny_pyIter_striter_ascii st h
section
variable {X : Cx} {tg : Expr}
noncomputable def iStr (tl : TE) : TI := fun σ H R => tl σ H fun x H1 => ∃ z : Str, x = .str z ∧ z.cps.all (· < 128) = true ∧ R (Its z) H1
theorem pi_str {l : Expr} {tl : TE} (hl : PE X l tl) : PI X tg l (iStr tl) := by
  intro pins s σ H R I h
  refine thn (hl pins s σ H _ I h) fun v s1 ⟨x, H1, I1, r1, z, e1, ha, q⟩ => ?_
  subst e1
  obtain ⟨t, rfl⟩ := r1
  refine wpAny_pyIter_ascii ha ?_
  have I2 : Inv X pins σ H1 { s1 with heap := s1.heap.push { cls := .type "str_ascii_iterator", data := .fields #[.str z t, .int 0 0] } } := I1.kept (t' := s1.toks) fun b ob q => Heap.get?_push_of_some _ q
  refine ⟨s1.heap.objs.size, [s1.heap.objs.size], _, Its z, H1, rfl, I2, turn_str z t _, ⟨_, Heap.get?_push_size _ rfl, rfl, rfl⟩, fun b hb => ?_, q⟩
  have e : b = s1.heap.objs.size := by simpa using hb
  subst e
  exact I1.fpOk (Nat.le_refl _) (I1.hok.fresh (Nat.le_refl _))
end
end L2
namespace L2
open PySem PySem.Spec PyProof.Rows
noncomputable def dedS (acc : List Str) (x : Str) : List Str := if x ∈ acc then acc else acc ++ [x]
noncomputable def ddS (l : List Str) : List Str := l.foldl dedS []
theorem ddS_snoc (l : List Str) (x : Str) : ddS (l ++ [x]) = dedS (ddS l) x := by unfold ddS; rw [List.foldl_append]; rfl
theorem mem_dedS (acc : List Str) (x y : Str) : y ∈ dedS acc x ↔ y ∈ acc ∨ y = x := by
  unfold dedS
  split
  · rename_i h
    constructor
    · exact .inl
    · rintro (q | q)
      · exact q
      · rw [q]; exact h
  · simp [List.mem_append]
theorem len_dedS (acc : List Str) (x : Str) : (dedS acc x).length = if x ∈ acc then acc.length else acc.length + 1 := by
  unfold dedS
  split <;> simp
theorem ddS_le (l : List Str) : ∀ k, (ddS (l.take k)).length ≤ k := by
  intro k
  induction k with
  | zero => simp [ddS]
  | succ k ih =>
    rw [List.take_add_one]
    cases e : l[k]? with
    | none => simp; omega
    | some x =>
      simp only [Option.toList_some]
      rw [ddS_snoc, len_dedS]
      split <;> omega
theorem dedS_mono (r : List Str) : ∀ acc, acc.length ≤ (r.foldl dedS acc).length ∧ (r.foldl dedS acc).length ≤ acc.length + r.length := by
  induction r with
  | nil => intro acc; simp
  | cons x r ih =>
    intro acc
    have h := ih (dedS acc x)
    rw [len_dedS] at h
    simp only [List.foldl_cons, List.length_cons]
    split at h <;> omega
theorem dedS_nodup : ∀ (r acc : List Str), acc.Nodup → (r.foldl dedS acc).length = acc.length + r.length → (acc ++ r).Nodup := by
  intro r
  induction r with
  | nil => intro acc h _; simpa using h
  | cons x r ih =>
    intro acc h e
    simp only [List.foldl_cons, List.length_cons] at e
    have hb := dedS_mono r (dedS acc x)
    rw [len_dedS] at hb
    by_cases hx : x ∈ acc
    · rw [if_pos hx] at hb; omega
    · have e1 : dedS acc x = acc ++ [x] := by unfold dedS; rw [if_neg hx]
      rw [e1] at e
      have := ih (acc ++ [x]) (nd_snoc h hx) (by rw [e]; simp; omega)
      simpa using this
theorem ddS_nodup {l : List Str} (h : (ddS l).length = l.length) : l.Nodup := by
  have := dedS_nodup l [] List.nodup_nil (by simpa [ddS] using h)
  simpa using this
theorem strSet_congr {P : Program} {w : World} {h : Heap} {a : Addr} {S S' : Str → Bool} {n n' : Nat} (z : h.SetOf (PySem.strKind P w) a S n) (e : ∀ k, S k = S' k) (en : n = n') : h.SetOf (PySem.strKind P w) a S' n' := by
  have : S = S' := funext e
  subst this en
  exact z
section
variable {prog : Program} {w : World} {A : Around} {R : Result → Shared → Prop} {J : Addr} {fp wr : List Addr} {G : Array GenState → Array GenState → Prop} {n : Nat} {P : Nat → Value → Prop} {St : Nat → Shared → Prop}
theorem strs_loop (W : WalksS prog w A.in1 J fp wr G n P St) (a : Addr) (haf : a ∉ fp) (ys : List Str) (hys : ys.length = n) (hp : ∀ i v, P i v → ∃ x t, ys[i]? = some x ∧ v = .str x t) (hb : n + 1 < scanBound) :
    ∀ (k i : Nat) (s : Shared), n - i = k → i ≤ n → St i s → s.heap.SetOf (PySem.strKind prog w) a (fun x => decide (x ∈ ddS (ys.take i))) (ddS (ys.take i)).length →
      (∀ s', Moved (a :: wr) G s s' → s'.heap.SetOf (PySem.strKind prog w) a (fun x => decide (x ∈ ddS ys)) (ddS ys).length → R (.ok (.ret .none)) s') →
      codeAny (model prog w) A (.builtin "set.update.loop" ⟨[.ref a, .ref J], []⟩) R s := by
  have haw : a ∉ wr := fun z => haf (W.sub _ z)
  have hsub : ∀ b ∈ wr, b ∈ a :: wr := fun b z => List.mem_cons_of_mem _ z
  intro k
  induction k with
  | zero =>
    intro i s hk hi st hS hR
    have ei : i = n := by omega
    subst ei
    rw [List.take_of_length_le (by omega)] at hS
    refine codeAny_builtin PyProof.Rows.F.entry_set_update_loop ?_
    rw [Around.under_plainId PyProof.Rows.F.plain_set_update_loop _]
    show wpAny _ A.in1 (pyNext (.ref J) >>= _) _ _ s
    refine wpAny_bind (W.done s _ _ st fun s' mv => ?_)
    show wpAny _ A.in1 (ret Value.none) _ _ s'
    obtain ⟨o, es, ep, t, ho, rest⟩ := hS
    exact wpAny_pure (hR s' (mv.mono hsub) ⟨o, es, ep, t, mv.heap a _ haw ho, rest⟩)
  | succ k ih =>
    intro i s hk hi st hS hR
    have hlt : i < n := by omega
    refine codeAny_builtin PyProof.Rows.F.entry_set_update_loop ?_
    rw [Around.under_plainId PyProof.Rows.F.plain_set_update_loop _]
    show wpAny _ A.in1 (pyNext (.ref J) >>= _) _ _ s
    refine wpAny_bind (W.item i s _ _ hlt st fun v s' hv st' mv => ?_)
    obtain ⟨x, t, hx, rfl⟩ := hp i v hv
    have hS1 : s'.heap.SetOf (PySem.strKind prog w) a (fun x => decide (x ∈ ddS (ys.take i))) (ddS (ys.take i)).length := by
      obtain ⟨o, es, ep, tb, ho, rest⟩ := hS
      exact ⟨o, es, ep, tb, mv.heap a _ haw ho, rest⟩
    show wpAny _ A.in1 (holding [Value.str x t] (setAdd a (.str x t)) >>= _) _ _ s'
    refine wpAny_bind (wpAny_holding ?_)
    unfold setAdd
    refine wpAny_holding ?_
    have hk' : (PySem.strKind prog w).is x (.str x t) = true := by simp [PySem.strKind, Value.isStrOf]
    refine wpAny_bind ((PySem.strKind prog w).pyHash (k := x) hk' ?_)
    have hroom : (ddS (ys.take i)).length + 1 < scanBound := by have := ddS_le ys i; omega
    refine wpAny_setAddHashed_of (knd := strKind prog w) (s := { s' with toks := s'.toks + 1 }) hk' rfl hS1 hroom fun h' sb hS2 => ?_
    have et : ys.take (i + 1) = ys.take i ++ [x] := by rw [List.take_add_one, hx]; rfl
    have hS3 : h'.SetOf (PySem.strKind prog w) a (fun x => decide (x ∈ ddS (ys.take (i + 1)))) (ddS (ys.take (i + 1))).length := by
      refine strSet_congr hS2 (fun y => ?_) ?_
      · rw [et, ddS_snoc]
        have := mem_dedS (ddS (ys.take i)) x y
        by_cases h1 : y ∈ ddS (ys.take i) <;> by_cases h2 : y = x <;> simp only [h1, h2, true_or, or_true, or_false, false_or] at this <;> simp [this, h1, h2]
        all_goals (subst h2; simp [this])
      · rw [et, ddS_snoc, len_dedS]
        by_cases h1 : x ∈ ddS (ys.take i) <;> simp [h1]
    refine wpAny_pure ⟨plainId_quiet PyProof.Rows.F.plain_set_update_loop _, ih (i + 1) _ (by omega) hlt (W.frame _ s' _ _ st' (Nat.le_succ _) fun b hb o e => ?_) hS3 fun s'' mv'' hS'' => ?_⟩
    · rw [sb.2 b (fun z : b = a => haf (by rw [← z]; exact hb))]; exact e
    · refine hR s'' (Moved.trans W.gtrans ((mv.mono hsub).then_heap (Nat.le_succ _) fun b o hb e => ?_) mv'') hS''
      rw [sb.2 b (fun z : b = a => hb (by rw [z]; exact List.mem_cons_self))]; exact e
end
end L2
namespace PySem
open PyProof.Rows L2
section
variable {prog : Program} {w : World} {A : Around}
theorem make_set {E : Value → Shared → Prop} {s : Shared} {x : Value} {Q : Value → Shared → Prop}
    (fill : ∀ g, wpAny (model prog w) A.in1.in1 (Builtin.«set.__init__» ⟨[.ref s.heap.objs.size, x], []⟩)
      (fun f s1 => f = .done (.ret .none) ∧ Q (.ref s.heap.objs.size) s1) E { s with heap := s.heap.push { cls := .type "set", dict := none, data := .set #[] 0 (.fresh 0 0 g) } }) :
    wpAny (model prog w) A (call (.type "set") [x]) Q E s := by
  obtain ⟨c, r, mro⟩ := F.called_set.mro
  refine wpAny_call (codeAny_of_tree (wpAny_pure ⟨Code.quiet_builtin _ (by decide +kernel), codeAny_builtin F.entry_type_call ?_⟩))
  have it := F.called_set
  have body : wpAny (model prog w) A.in1 (Builtin.«type.__call__» ⟨[.type "set", x], []⟩) (fun f s1 => match f with | .done f => wants Q E (.ok f) s1 | .again c' => c'.quiet = true ∧ codeAny (model prog w) A c' (wants Q E) s1) (fun e s1 => wants Q E (.error e) s1) s := by
    unfold Builtin.«type.__call__»
    dsimp only
    rw [it.notType]
    simp only [Bool.false_eq_true, if_false, it.canCreate]
    refine wpAny_bind (wpAny_of_eq (F.typeCall_set_1 x) (wpAny_bind (wpAny_of_eq mro ?_)))
    rw [if_neg (show ¬ (c :: r).isEmpty = true from Bool.false_ne_true)]
    refine wpAny_bind (wpAny_of_eq it.made (wpAny_bind (wpAny_pure (wpAny_bind (wpAny_holding (wpAny_call (code_set_new_1 x fun g => ?_)))))))
    have isSet : Shared.TypeIs { s with heap := s.heap.push { cls := .type "set", dict := none, data := .set #[] 0 (.fresh 0 0 g) } } (.ref s.heap.objs.size) "set" := ⟨_, Heap.get?_push_size _ rfl, rfl⟩
    refine wpAny_bind (wpAny_isInstance isSet it.sub ?_)
    rw [if_neg (show ¬ (!true) = true from Bool.false_ne_true)]
    refine wpAny_bind (wpAny_holding (wpAny_callSpecial?_slot isSet it.init (wpAny_call (codeAny_call_builtin it.init.plain F.entry_set_init (check_set_init_1 isSet ?_)))))
    refine wpAny_mono (fill g) (fun f s1 q => ?_) fun _ _ q => q
    obtain ⟨rfl, q⟩ := q
    exact wpAny_pure q
  exact body
theorem fill_from {E : Value → Shared → Prop} {s : Shared} {S l : Addr} {its : Array Value} {Q : Unit → Shared → Prop} (hl : s.heap.IsList l its)
    (loop : codeAny (model prog w) A (.builtin "set.update.loop" ⟨[.ref S, .ref s.heap.objs.size], []⟩) (fun r s1 => match r with | .ok (.ret _) => Q () s1 | .ok _ => False | .error e => E e s1)
      { s with heap := s.heap.push { cls := .type "list_iterator", data := .fields #[.ref l, .int 0 0] } }) :
    wpAny (model prog w) A (Builtin.Frozenset.updateFrom "set.__init__" S (.ref l)) Q E s := by
  have noset : wpAny (model prog w) A (Builtin.Frozenset.isAnySet (.ref l)) (fun b s1 => b = false ∧ s1 = s) E s :=
    wpAny_bind (wpAny_isInstance hl.typeIs F.sub_list_set (wpAny_isInstance hl.typeIs F.sub_list_frozenset ⟨rfl, rfl⟩))
  refine wpAny_bind (wpAny_mono noset (fun b s1 q => ?_) fun _ _ q => q)
  obtain ⟨rfl, rfl⟩ := q
  refine wpAny_bind (wpAny_typeOf hl.typeIs (wpAny_bind (wpAny_pyIter_list hl (wpAny_bind (wpAny_runValue ?_)))))
  exact codeAny_mono loop fun r s1 q => by
    match r, q with
    | .ok (.ret v), q => exact wpAny_pure q
    | .error e, q => exact q
noncomputable abbrev newSetO (g : Bool) : Obj := { cls := .type "set", dict := none, data := .set #[] 0 (.fresh 0 0 g) }
theorem init_fill {E : Value → Shared → Prop} {s : Shared} {S : Addr} {g : Bool} {x : Value} {Q : Fin → Shared → Prop} (hS : s.heap.get? S = some (newSetO g))
    (fill : wpAny (model prog w) A (Builtin.Frozenset.updateFrom "set.__init__" S x) (fun _ s1 => Q (.done (.ret .none)) s1) E s) :
    wpAny (model prog w) A (Builtin.«set.__init__» ⟨[.ref S, x], []⟩) Q E s := by
  unfold Builtin.«set.__init__»
  generalize Builtin.Frozenset.updateFrom = up at fill ⊢
  wp_walk
  exact wpAny_mono fill (fun _ _ q => wpAny_pure q) fun _ _ q => q
theorem strs_len {us : List Value} {zs : List Str} (z : StrsAre us zs) : zs.length = us.length := by
  induction z with
  | nil => rfl
  | cons _ _ _ ih => rw [List.length_cons, List.length_cons, ih]
theorem strs_get {us : List Value} {zs : List Str} (z : StrsAre us zs) : ∀ {i : Nat} {v : Value}, us[i]? = some v → ∃ x t, zs[i]? = some x ∧ v = .str x t := by
  induction z with
  | nil => intro i v e; cases e
  | cons x t _ ih =>
    intro i v e
    match i, e with
    | 0, e => exact ⟨x, t, rfl, (Option.some.inj e).symm⟩
    | i + 1, e => exact ih (i := i) e
theorem same_but {s s' : Shared} (a : s'.gens = s.gens) (b : s'.drawn = s.drawn) (c : s'.os = s.os) : s' = { s with heap := s'.heap, toks := s'.toks } := by
  cases s
  cases s'
  cases a
  cases b
  cases c
  rfl
set_option maxHeartbeats 800000 in
theorem call_set_strs {E : Value → Shared → Prop} {s : Shared} {l : Addr} {items : Array Value} {ys : List Str} {Q : Value → Shared → Prop} (hh : A.handled = none) (hl : s.heap.IsList l items) (hi : StrsAre items.toList ys) (hb : items.size + 1 < scanBound)
    (h : ∀ (h' : Heap) (tk : Nat), h'.SetOf (PySem.strKind prog w) s.heap.objs.size (fun x => decide (x ∈ ddS ys)) (ddS ys).length → (∀ b o, b < s.heap.objs.size → s.heap.get? b = some o → h'.get? b = some o) →
      Q (.ref s.heap.objs.size) { s with heap := h', toks := tk }) : wpAny (model prog w) A (call (.type "set") [.ref l]) Q E s := by
  refine make_set fun g => init_fill (Heap.get?_push_size _ rfl) (fill_from (hl.push _) ?_)
  have two : (s.heap.push (newSetO g)).objs.size = s.heap.objs.size + 1 := Heap.size_push ..
  have lt : l < s.heap.objs.size := by
    obtain ⟨o, e, _⟩ := hl
    exact Heap.lt_size e
  have ne1 : l ≠ (s.heap.push (newSetO g)).objs.size := by
    rw [two]
    exact Nat.ne_of_lt (Nat.lt_succ_of_lt lt)
  have ne2 : s.heap.objs.size ∉ [(s.heap.push (newSetO g)).objs.size, l] := fun z => by
    rw [two] at z
    rcases List.mem_cons.mp z with q | q
    · exact Nat.ne_of_lt (Nat.lt_succ_self _) q
    · exact Nat.ne_of_gt lt (List.mem_singleton.mp q)
  have len : ys.length = items.size := by rw [strs_len hi, Array.length_toList]
  have item : ∀ (i : Nat) (v : Value), items[i]? = some v → ∃ x t, ys[i]? = some x ∧ v = .str x t := fun i v e => strs_get hi (by rw [Array.getElem?_toList]; exact e)
  have empty : ((s.heap.push (newSetO g)).push { cls := .type "list_iterator", data := .fields #[.ref l, .int 0 0] }).SetOf (PySem.strKind prog w) s.heap.objs.size (fun x => decide (x ∈ ddS (ys.take 0))) (ddS (ys.take 0)).length :=
    strSet_congr ((setObjOf_fresh (knd := PySem.strKind prog w) g).setOf (Heap.get?_push_of_some _ (Heap.get?_push_size _ rfl)) (by unfold scanBound; omega)) (fun _ => by simp [ddS]) (by simp [ddS])
  refine strs_loop ((Walks.list (by simp [hh]) _ l ne1 items).toS) s.heap.objs.size ne2 ys len item hb items.size 0 _ (by omega) (Nat.zero_le _) ⟨⟨_, Heap.get?_push_size _ rfl, rfl, rfl⟩, (hl.push _).push _⟩ empty fun s' mv fin => ?_
  have res := h s'.heap s'.toks fin fun b o lb e => mv.heap b o (fun z => ?_) (Heap.get?_push_of_some _ (Heap.get?_push_of_some _ e))
  · rw [show s' = { s with heap := s'.heap, toks := s'.toks } from same_but mv.gens mv.drawn mv.os]
    exact ⟨rfl, res⟩
  · rcases List.mem_cons.mp z with q | q
    · exact Nat.ne_of_lt lb q
    · have q := List.mem_singleton.mp q
      rw [two] at q
      exact Nat.ne_of_lt (Nat.lt_succ_of_lt lb) q
end
end PySem
namespace L2
open PySem PySem.Spec PyProof.Rows
section
variable {X : Cx}
noncomputable def SetN (P : Program) (w : World) (a : Addr) (n : Nat) : HO := .ext fun h => ∃ S, h.SetOf (PySem.strKind P w) a S n
theorem call_setS (hc : X.calm = true) : CallR X (.type "set") (fun xs H Q => ∃ (p : Addr) (ys : List Str), xs = [.ref p] ∧ SqL X.K H p (ys.map V.str) ∧ ys.length ≤ 4000 ∧ ∀ a, H a = none → Q (.ref a) (upd H a (SetN X.prog X.w a (ddS ys).length))) := by
  intro pins s σ H xs us Q I r h
  obtain ⟨p, ys, rfl, hq, hz, q⟩ := h
  obtain ⟨u, rfl, ru⟩ := vals1 r
  cases ru
  obtain ⟨its, r', pl, _⟩ := I.list hq
  have hlen := r'.length
  rw [List.length_map] at hlen
  refine call_set_strs (I.ok.hd hc) pl.isList (by simpa using strs_are r') (by rw [List.size_toArray]; unfold scanBound; omega) fun h' tk hS hk => ?_
  have hex : ∃ o, h'.get? s.heap.objs.size = some o := by obtain ⟨o, _, _, _, e, _⟩ := hS; exact ⟨o, e⟩
  refine ⟨.ref s.heap.objs.size, _, I.laid (a := s.heap.objs.size) (o := SetN X.prog X.w s.heap.objs.size (ddS ys).length) (t' := tk) (fun b o e => hk b o (Heap.lt_size e) e) (Nat.le_refl _) ?_, rfl, q _ I.fresh⟩
  refine ⟨⟨_, hS⟩, hex, fun h1 h2 ⟨S, z⟩ k => ⟨S, ?_⟩⟩
  obtain ⟨o, es, ep, t, e, rest⟩ := z
  exact ⟨o, es, ep, t, k o e, rest⟩
theorem call_lenS : CallR X (.builtin "len") (fun xs H Q => ∃ (a : Addr) (n : Nat), xs = [.ref a] ∧ H a = some (SetN X.prog X.w a n) ∧ Q (.int n) H) := by
  intro pins s σ H xs us Q I r h
  obtain ⟨a, n, rfl, ha, q⟩ := h
  obtain ⟨u, rfl, ru⟩ := vals1 r
  cases ru
  obtain ⟨⟨S, o, es, ep, t, e, ex, hd, _, _, hb, hf, rfl⟩, _⟩ := I.hok a _ ha
  refine call_len_set e ex hd hf ?_ ⟨.int es.size, H, I.tok _, ⟨_, rfl⟩, q⟩
  have : scanBound = 4096 := rfl
  omega
end
end L2
namespace PySem
open PyProof.Rows L2
theorem entry_dict_update_loop : entryFor table "dict.update.loop" = some Builtin.«dict.update.loop» := entryFor_of_tree (by kernel_rfl)
theorem plain_dict_update_loop : plainId "dict.update.loop" = true := by decide +kernel
theorem no_keys : typeLookup (.type "list") "keys" = pure none := am_miss_of_fast (by decide +kernel)
section
variable {prog : Program} {w : World} {A : Around}
theorem own_lookup {E : Value → Shared → Prop} {s : Shared} {a : Addr} {its : Array Value} {n : Nat} {sl : Array (Option Value)} {u : Tok} {Q : Value → Shared → Prop}
    (l : s.heap.get? a = some { cls := .type "list", dict := none, data := .seq its n, slots := sl }) (calm : A.handled = none) (out : ∀ h' tk e, Heap.NewAttrErr s.heap h' e (.ref a) "keys" → E (.ref e) { s with heap := h', toks := tk }) :
    wpAny (model prog w) A (boundAndCalled (.builtin "list.__getattribute__") (.ref a) (.str "keys" u)) Q E s := by
  have ask : wpAny (model prog w) A (call (.builtin "list.__getattribute__") [.ref a, .str "keys" u]) Q E s :=
    call_meets F.slot_list_getattribute ⟨_, l, rfl⟩ am_entry_list_getattribute (F.args_list_getattribute_2 _ _) (meets_getattribute_miss_list a its n sl "keys" u no_keys (by decide +kernel)) ⟨l, calm, out⟩
  unfold boundAndCalled
  rw [F.slot_list_getattribute.bind (.ref a)]
  exact wpAny_bind (wpAny_pure ask)
theorem goes_on {E : Value → Shared → Prop} {s : Shared} {o name : Value} {e : Addr} {Q : Value → Shared → Prop} (t : s.TypeIs (.ref e) "AttributeError") (out : E (.ref e) s) :
    wpAny (model prog w) A (getattributeRaised o name (.type "list") (.ref e) none false false) Q E s := by
  have last : wpAny (model prog w) A (hookOrError o name (.ref e) false false none) Q E s := wpAny_bind (wpAny_throw out)
  have none' : hookBehind (.type "list") none = pure none := am_list_getattr_none
  unfold getattributeRaised
  refine wpAny_bind (wpAny_isInstance t sub_AttributeError ?_)
  rw [if_pos rfl, none']
  exact wpAny_bind (wpAny_pure last)
theorem keys_missed {E : Value → Shared → Prop} {s : Shared} {a : Addr} {its : Array Value} {n : Nat} {sl : Array (Option Value)} {Q : Option Value → Shared → Prop}
    (l : s.heap.get? a = some { cls := .type "list", dict := none, data := .seq its n, slots := sl }) (calm : A.handled = none) (out : ∀ h' tk e, Heap.NewExcOf s.heap h' e "AttributeError" → Q none { s with heap := h', toks := tk }) :
    wpAny (model prog w) A (getAttr? (.ref a) "keys") Q E s := by
  have ends : ∀ h' tk e, Heap.NewAttrErr s.heap h' e (.ref a) "keys" → (∃ o, h'.get? e = some o ∧ o.cls = .type "AttributeError") ∧ Q none { s with heap := h', toks := tk } := fun h' tk e x => by
    obtain ⟨_, _, y⟩ := x.there
    exact ⟨⟨_, y, rfl⟩, out h' tk e x.of⟩
  let s1 : Shared := { s with toks := s.toks + 1 }
  let got : Except Value Value → Shared → Prop := fun r s2 => wpAny (model prog w) A (match r with | .ok v => pure (some v) | .error e => do if ← isInstance e (.type "AttributeError") then pure none else throw e) Q E s2
  have look : wpAny (model prog w) A (getAttrBy (.ref a) (.str "keys" s.toks) false) (fun v => got (.ok v)) (fun e => got (.error e)) s1 := by
    refine wpAny_holding (wpAny_bind (wpAny_typeOf (T := "list") ⟨_, l, rfl⟩ (wpAny_bind (wpAny_of_eq F.slot_list_getattribute.lookup ?_))))
    have own : wpAny (model prog w) A (getAttrByItsOwn (.ref a) (.str "keys" s.toks) (.type "list") (.builtin "list.__getattribute__") false false) (fun v => got (.ok v)) (fun e => got (.error e)) s1 := by
      refine wpAny_bind (wpAny_pure (wpAny_bind (wpAny_attempt (wpAny_holding (own_lookup (s := s1) l calm fun h' tk e x => ?_)))))
      obtain ⟨⟨o, y1, y2⟩, q⟩ := ends h' tk e x
      exact goes_on ⟨o, y1, y2⟩ (wpAny_bind (wpAny_isInstance (T := "AttributeError") ⟨o, y1, y2⟩ sub_AttributeError (wpAny_pure q)))
    exact own
  exact wpAny_bind (wpAny_mkText (wpAny_bind (wpAny_attempt look)))
end
section
variable {prog : Program} {w : World} {K : Type} [DecidableEq K] {knd : KeyKind prog w K} {A : Around} {E : Value → Shared → Prop} {R : Result → Shared → Prop} {J : Addr} {fp wr : List Addr} {G : Array GenState → Array GenState → Prop} {n : Nat} {P : Nat → Value → Prop} {St : Nat → Shared → Prop}
theorem pairs_loop (W : WalksS prog w A.in1 J fp wr G n P St) (d : Addr) (hdf : d ∉ fp) (h0 : Heap) (more : List (K × Value)) (hn : more.length = n)
    (hT : ∀ i v, P i v → ∃ (t : Addr) (o : Obj) (m : Nat) (k : K) (kv x : Value), v = .ref t ∧ t ∉ d :: wr ∧ h0.get? t = some o ∧ o.cls = .type "tuple" ∧ o.data = .seq #[kv, x] m ∧ knd.is k kv = true ∧ more[i]? = some (k, x)) (hb : n ≤ sizeLine) :
    ∀ (k i : Nat) (s : Shared), n - i = k → i ≤ n → St i s → (∀ b o, b ∉ d :: wr → h0.get? b = some o → s.heap.get? b = some o) → s.heap.DictOf knd d (merged [] (more.take i)) →
      (∀ s', Moved (d :: wr) G s s' → s'.heap.DictOf knd d (merged [] more) → R (.ok (.ret .none)) s') →
      codeAny (model prog w) A (.builtin "dict.update.loop" ⟨[.ref d, .ref J, .int (i : Int) 0, .none], []⟩) R s := by
  have hdw : d ∉ wr := fun z => hdf (W.sub _ z)
  have hsub : ∀ b ∈ wr, b ∈ d :: wr := fun b z => List.mem_cons_of_mem _ z
  intro k
  induction k with
  | zero =>
    intro i s hk hi st hkeep hS hR
    have ei : i = n := by omega
    subst ei
    rw [List.take_of_length_le (by omega)] at hS
    refine codeAny_builtin entry_dict_update_loop ?_
    rw [Around.under_plainId plain_dict_update_loop _]
    show wpAny _ A.in1 (pyNext (.ref J) >>= _) _ _ s
    refine wpAny_bind (W.done s _ _ st fun s' mv => ?_)
    show wpAny _ A.in1 (Builtin.Dict.addKeywords d [] >>= _) _ _ s'
    refine wpAny_bind (wpAny_pure ?_)
    obtain ⟨o, es, ep, ho, rest⟩ := hS
    exact wpAny_pure (hR s' (mv.mono hsub) ⟨o, es, ep, mv.heap d _ hdw ho, rest⟩)
  | succ k ih =>
    intro i s hk hi st hkeep hS hR
    have hlt : i < n := by omega
    refine codeAny_builtin entry_dict_update_loop ?_
    rw [Around.under_plainId plain_dict_update_loop _]
    show wpAny _ A.in1 (pyNext (.ref J) >>= _) _ _ s
    refine wpAny_bind (W.item i s _ _ hlt st fun v s' hv st' mv => ?_)
    obtain ⟨t, o, m, ky, kv, x, rfl, ht, hto, htc, htd, hkey, hmore⟩ := hT i v hv
    have hS1 : s'.heap.DictOf knd d (merged [] (more.take i)) := by
      obtain ⟨o, es, ep, ho, rest⟩ := hS
      exact ⟨o, es, ep, mv.heap d _ hdw ho, rest⟩
    have hto' : s'.heap.get? t = some o := mv.heap t o (fun z => ht (hsub _ z)) (hkeep t o ht hto)
    show wpAny _ A.in1 (holding [Value.ref t] _ >>= _) _ _ s'
    refine wpAny_bind (wpAny_holding ?_)
    refine wpAny_bind (wpAny_tryCatch ?_)
    unfold Builtin.Dict.pairItems
    refine wpAny_bind (wpAny_typeOf (T := "tuple") ⟨o, hto', htc⟩ ?_)
    rw [if_pos (by decide)]
    refine wpAny_bind (wpAny_seqItems hto' htd ?_)
    refine wpAny_pure ?_
    show wpAny _ A.in1 (holding [kv, x] (dictSet d kv x)) _ _ s'
    refine wpAny_holding ?_
    have hroom : (merged [] (more.take i)).length ≤ sizeLine := by
      have e1 := merged_length_le ([] : List (K × Value)) (more.take i)
      rw [List.length_nil, List.length_take] at e1
      omega
    refine wpAny_dictSet_pairs (hsz := hroom) hkey hS1 fun h' hS2 sb => ?_
    rw [← merged_take_succ [] more i (ky, x) hmore] at hS2
    refine wpAny_pure ⟨plainId_quiet plain_dict_update_loop _, ?_⟩
    have e1 : (rawInt ((i : Int) + 1)) = Value.int ((i + 1 : Nat) : Int) 0 := by rfl
    rw [e1]
    refine ih (i + 1) _ (by omega) hlt (W.frame _ s' _ _ st' (Nat.le_succ _) fun b hb o e => ?_) (fun b o hb e => ?_) hS2 fun s'' mv'' hS'' => ?_
    · rw [sb.2 b (fun z : b = d => hdf (by rw [← z]; exact hb))]; exact e
    · rw [sb.2 b (fun z : b = d => hb (by rw [z]; exact List.mem_cons_self))]
      exact mv.heap b o (fun z => hb (hsub _ z)) (hkeep b o hb e)
    · refine hR s'' (Moved.trans W.gtrans ((mv.mono hsub).then_heap (Nat.le_succ _) fun b o hb e => ?_) mv'') hS''
      rw [sb.2 b (fun z : b = d => hb (by rw [z]; exact List.mem_cons_self))]; exact e
end
section
variable {prog : Program} {w : World} {K : Type} [DecidableEq K] {knd : KeyKind prog w K} {A : Around}
noncomputable abbrev listIt (l : Addr) : Obj := { cls := .type "list_iterator", data := .fields #[.ref l, .int 0 0] }
noncomputable abbrev plainList (its : Array Value) (n : Nat) (sl : Array (Option Value)) : Obj := { cls := .type "list", dict := none, data := .seq its n, slots := sl }
theorem init_on {E : Value → Shared → Prop} {s : Shared} {d l : Addr} {its : Array Value} {n : Nat} {sl : Array (Option Value)} {Q : Fin → Shared → Prop} (t : s.TypeIs (.ref d) "dict") (hl : s.heap.get? l = some (plainList its n sl)) (calm : A.handled = none)
    (on : ∀ h2 tk e, Heap.NewExcOf s.heap h2 e "AttributeError" → Q (.again (.builtin "dict.update.loop" ⟨[.ref d, .ref h2.objs.size, .int 0 0, .none], []⟩)) { s with heap := h2.push (listIt l), toks := tk }) :
    wpAny (model prog w) A (Builtin.«dict.__init__» ⟨[.ref d, .ref l], []⟩) Q E s := by
  have first : wpAny (model prog w) A (Builtin.Dict.selfAndRest "__init__" ⟨[.ref d, .ref l], []⟩) (fun p s1 => p = (d, [Value.ref l]) ∧ s1 = s) E s := wpAny_bind (wpAny_notOrdered_dict t (wpAny_pure ⟨rfl, rfl⟩))
  have pairs : wpAny (model prog w) A (Builtin.Dict.updateFrom "dict.__init__" d (.ref l) [] .none) Q E s := by
    refine wpAny_bind (wpAny_typeOf (T := "list") ⟨_, hl, rfl⟩ ?_)
    rw [if_pos (by decide)]
    refine wpAny_bind (keys_missed hl calm fun h2 tk e x => ?_)
    exact wpAny_bind (wpAny_rule (wpAny_bind (wpAny_pyIter_list ⟨_, x.keeps _ _ hl, rfl, n, rfl⟩ (wpAny_pure (on h2 tk e x)))))
  exact wpAny_bind (wpAny_mono first (fun p s1 q => by obtain ⟨rfl, rfl⟩ := q; exact pairs) fun _ _ q => q)
noncomputable def withDict (s : Shared) : Shared := { s with heap := s.heap.push { cls := .type "dict", data := .dict #[] } }
set_option maxHeartbeats 800000 in
theorem call_dict_pairs {E : Value → Shared → Prop} {s : Shared} {l : Addr} {o : Obj} {items : Array Value} {nl : Nat} {more : List (K × Value)} {Q : Value → Shared → Prop} (hh : A.handled = none) (hl : s.heap.get? l = some o) (hc : o.cls = .type "list") (hd : o.dict = none) (hda : o.data = .seq items nl)
    (hn : more.length = items.size)
    (hT : ∀ (i : Nat) v, items[i]? = some v → ∃ (t : Addr) (o : Obj) (m : Nat) (k : K) (kv x : Value), v = .ref t ∧ s.heap.get? t = some o ∧ o.cls = .type "tuple" ∧ o.data = .seq #[kv, x] m ∧ knd.is k kv = true ∧ more[i]? = some (k, x)) (hb : items.size ≤ sizeLine)
    (h : ∀ (h' : Heap) (tk : Nat), h'.DictOf knd s.heap.objs.size (merged [] more) → (∀ b o, s.heap.get? b = some o → h'.get? b = some o) → Q (.ref s.heap.objs.size) { s with heap := h', toks := tk }) :
    wpAny (model prog w) A (call (.type "dict") [.ref l]) Q E s := by
  obtain ⟨oc, od, oda, osl⟩ := o
  cases hc
  cases hd
  cases hda
  let D := s.heap.objs.size
  have made : (withDict s).heap.DictOf knd D [] := Heap.DictOf.new s.heap
  have old : ∀ b o, s.heap.get? b = some o → (withDict s).heap.get? b = some o := fun b o e => Heap.get?_push_of_some _ e
  refine callType_codes F.kt_called_dict (F.kt_typeCall_dict_1 _) F.entry_dict_init (kt_code_dict_new _ (Q₁ := fun v s1 => v = .ref D ∧ s1 = withDict s) ⟨rfl, rfl⟩) fun v s1 q => ?_
  obtain ⟨rfl, rfl⟩ := q
  refine ⟨made.typeIs, F.args_dict_init_2 _ _, init_on made.typeIs (old _ _ hl) (by simp [hh]) fun h2 tk e x => ⟨plainId_quiet plain_dict_update_loop _, ?_⟩⟩
  have at2 : h2.DictOf knd D [] := by
    obtain ⟨o, es, ep, p, r⟩ := made
    exact ⟨o, es, ep, x.keeps _ _ p, r⟩
  have ltD : D < h2.objs.size := by
    obtain ⟨o, es, ep, p, r⟩ := at2
    exact Heap.lt_size p
  have ltL : l < D := Heap.lt_size hl
  have keeps : ∀ b o, s.heap.get? b = some o → (h2.push (listIt l)).get? b = some o := fun b o e => Heap.get?_push_of_some _ (x.keeps _ _ (old b o e))
  have apart : ∀ {b : Addr}, b < D → b ∉ [D, h2.objs.size] := fun {b} hb' z => by
    rcases List.mem_cons.mp z with q | q
    · exact Nat.ne_of_lt hb' q
    · exact Nat.ne_of_lt (Nat.lt_trans hb' ltD) (List.mem_singleton.mp q)
  have notIn : D ∉ [h2.objs.size, l] := fun z => by
    rcases List.mem_cons.mp z with q | q
    · exact Nat.ne_of_lt ltD q
    · exact Nat.ne_of_gt ltL (List.mem_singleton.mp q)
  have list2 : (h2.push (listIt l)).IsList l items := ⟨_, keeps _ _ hl, rfl, nl, rfl⟩
  refine pairs_loop (knd := knd) ((Walks.list (by simp [hh]) h2.objs.size l (Nat.ne_of_lt (Nat.lt_trans ltL ltD)) items).toS) D notIn s.heap more hn (fun i v hv => ?_) hb items.size 0 _ (by omega) (Nat.zero_le _) ⟨⟨_, Heap.get?_push_size _ rfl, rfl, rfl⟩, list2⟩ (fun b o _ e => keeps b o e) ?_ fun s' mv fin => ?_
  · obtain ⟨t, ot, m, k, kv, y, rfl, ht, r⟩ := hT i v hv
    exact ⟨t, ot, m, k, kv, y, rfl, apart (Heap.lt_size ht), ht, r⟩
  · simpa [merged] using at2.push _
  · have res := h s'.heap s'.toks fin fun b o e => mv.heap b o (apart (Heap.lt_size e)) (keeps b o e)
    rw [show s' = { s with heap := s'.heap, toks := s'.toks } from same_but mv.gens mv.drawn mv.os]
    exact ⟨rfl, res⟩
end
end PySem
namespace L2
open PySem PySem.Spec PyProof.Rows
section
variable {X : Cx}
noncomputable def PairsAt (H : Hp) (ts : List Addr) (kvs : List (Key × V)) : Prop := Paired (fun t (kv : Key × V) => H t = some (.tup [kV kv.1, kv.2])) ts kvs
theorem pairs_more {P : Program} {w : World} {H : Hp} {h : Heap} (hok : HOk P w H h) : ∀ {ts : List Addr} {kvs : List (Key × V)}, PairsAt H ts kvs → ∃ more : List (Key × Value), KV kvs more ∧
    ∀ (i : Nat) t, ts[i]? = some t → ∃ (o : Obj) (m : Nat) (k : Key) (kv x : Value), h.get? t = some o ∧ o.cls = .type "tuple" ∧ o.data = .seq #[kv, x] m ∧ (mixKind P w).is k kv = true ∧ more[i]? = some (k, x) := by
  intro ts kvs r
  unfold PairsAt at r
  induction r with
  | nil => exact ⟨[], .nil, fun i t e => by simp at e⟩
  | @cons t kv ts kvs h1 h2 ih =>
    obtain ⟨more, rk, hm⟩ := ih
    obtain ⟨z, its, rv, ⟨o, ho, hc, n, hdt⟩⟩ := hok t _ h1
    cases rv with
    | @cons _ u1 _ us r1 rv =>
      cases rv with
      | @cons _ u2 _ us2 r2 rv =>
        cases rv
        refine ⟨(kv.1, u2) :: more, .cons ⟨rfl, r2⟩ rk, fun i t' e => ?_⟩
        cases i with
        | zero =>
          simp at e
          subst e
          exact ⟨o, n, kv.1, u1, u2, ho, hc, hdt, kV_is r1, rfl⟩
        | succ i => simpa using hm i t' (by simpa using e)
theorem call_dictPairs (hcalm : X.calm = true) : CallR X (.type "dict") (fun xs H Q => ∃ (p : Addr) (ts : List Addr) (kvs : List (Key × V)), xs = [.ref p] ∧ SqL X.K H p (ts.map V.ref) ∧ PairsAt H ts kvs ∧ kvs.length ≤ 1000 ∧ ∀ d, H d = none → Q (.ref d) (upd H d (.dK (mergeK [] kvs)))) := by
  intro pins s σ H xs us Q I r h
  obtain ⟨p, ts, kvs, rfl, hq, hp, hz, q⟩ := h
  obtain ⟨u, rfl, ru⟩ := vals1 r
  cases ru
  obtain ⟨its, r', ⟨o, n, e, e1, e2, e3⟩, _⟩ := I.list hq
  have hlen := r'.length
  rw [List.length_map] at hlen
  have hkl : ts.length = kvs.length := hp.length
  obtain ⟨more, rk, hm⟩ := pairs_more I.hok hp
  have hml := rk.length
  have hrefs : ∀ (i : Nat) v, its[i]? = some v → ∃ t, ts[i]? = some t ∧ v = .ref t := by
    intro i v hv
    have hi : i < its.length := (List.getElem?_eq_some_iff.mp hv).1
    have : i < ts.length := by omega
    obtain ⟨u, hu, ru⟩ := r'.get (i := i) (x := V.ref ts[i]) (by simp [this])
    rw [hu] at hv
    cases hv
    cases ru
    exact ⟨ts[i], by simp [this], rfl⟩
  refine call_dict_pairs (knd := mixKind X.prog X.w) (more := more) (I.ok.hd hcalm) e e1 e2 e3 (by rw [List.size_toArray]; omega) ?_ (by rw [List.size_toArray]; exact Nat.le_of_lt (Nat.lt_of_le_of_lt (show its.length ≤ 1000 by omega) (by decide))) fun h' tk hD hk => ?_
  · intro i v hv
    obtain ⟨t, ht, rfl⟩ := hrefs i v (by simpa using hv)
    obtain ⟨o, m, k, kv, x, h1, h2, h3, h4, h5⟩ := hm i t ht
    exact ⟨t, o, m, k, kv, x, rfl, h1, h2, h3, h4, h5⟩
  · have hz2 : (mergeK [] kvs).length ≤ sizeLine := by
      have h1 := length_mergeK kvs []
      rw [List.length_nil] at h1
      exact Nat.le_of_lt (Nat.lt_of_le_of_lt (show (mergeK [] kvs).length ≤ 1000 by omega) (by decide))
    refine ⟨.ref s.heap.objs.size, _, I.laid (a := s.heap.objs.size) (o := .dK (mergeK [] kvs)) (t' := tk) hk (Nat.le_refl _) ?_, rfl, q _ I.fresh⟩
    exact dk_new hz2 (beq_eq_false_iff_ne.mpr (Ne.symm (Nat.ne_of_lt I.big))) (rk.merge .nil) hD
end
end L2
namespace L2
open PySem PySem.Spec PyProof.Rows
structure XCls (h : Heap) (C N : Addr) (bm : List Value) (init : Option Value) : Prop where
  ex : ∃ nm q bs sn sub ab col dd k0 k1 k2 k3 k5 mN, h.get? C = some (excClassObj nm q C N bs bm true sn sub ab col dd k0 k1 k2 k3 k5 "ValueError.__new__") ∧ h.Ns N mN ∧ mN "__init__" = init
  tail : OwnTail h vMro bm
section
variable {X : Cx}
end
end L2
namespace L2
open PySem PySem.Spec PyProof.Rows
section
variable {X : Cx}
end
end L2
namespace L2
open PySem PySem.Spec PyProof.Rows
section
variable {X : Cx} {k : Nat} {f C N : Addr} {bm : List Value} {fd : FuncData} {ps : List Str} {sp : Sp} {x : Str} {p pos : Pos} {e : Expr} {es : List Expr} {t : TA}
end
section
variable {P : Program} {w : World} {K : PySem.W.Frag} {mg : Str → Option Value} {base : Heap} {Nm : List Str} {qual : Str} {scope : Scope} {f : Addr} {cd : Value} {A : Around} {outer : List Env} {s0 : Shared} {H0 : Hp} {E : XK}
end
end L2
namespace L2
open PySem PySem.Spec PyProof.Rows
section
variable {X : Cx} {pins : List (Addr × Obj)} {σ : St} {H : Hp} {s : Shared}
end
section
variable {X : Cx} {P : Program} {w : World} {K : PySem.W.Frag} {k : Nat} {f CE : Addr} {fd : FuncData} {ps : List Str} {sp : Sp} {ta : TA}
end
end L2
namespace PySem.W
open PySem PySem.Calls PyProof.Rows Builtin Builtin.ObjectAttr
structure XFacts (K : Frag) (C : Addr) : Prop where
  ga : findIn K (.ref C) "__getattribute__" = some (some (.builtin "BaseException.__getattribute__"))
  gh : findIn K (.ref C) "__getattr__" = some none
  mb : mroIn K C (.type "BaseException") = some true
  mo : mroIn K C (.type "object") = some true
  cl : findIn K (.ref C) "__class__" = some (some (.builtin "object.__class__"))
  cg : specialIn K (.builtin "object.__class__") "__get__" = some (some (.builtin "getset_descriptor.__get__"))
  ct : takesIn K (.builtin "object.__class__") = some true
section
variable {prog : Program} {w : World} {A : Around} {E : Value → Shared → Prop} {s : Shared} {K : Frag} {x C : Addr} {ox : Obj} {od : Option Obj}
end
end PySem.W
namespace L2
open PySem PySem.Spec PyProof.Rows
section
variable {X : Cx}
end
end L2
namespace PySem
section
variable {prog : Program} {w : World} {A : Around} {E : Value → Shared → Prop} {h : Heap} {g : Array GenState} {d : Drawn} {t : Nat} {os : OsState}
variable {nm q : Str} {C N : Addr} {bs bm bmB : List Value} {hdct : Bool} {sn : List Str} {sub : List Value} {ab : Bool} {col : Option Bool} {dd : Option Addr} {k0 k1 k2 k3 k5 : Option Value} {B Bn newId nid initId inN : String} {bmN : List Value}
end
end PySem
namespace L2
open PySem PySem.Spec PyProof.Rows
section
variable {X : Cx} {C N : Addr} {bm : List Value} {x : Str} {p pos : Pos} {e : Expr} {es : List Expr} {t : TA}
end
end L2
namespace L2
open PySem PySem.Spec PyProof.Rows
noncomputable def lcOk (N : List Str) (kind : Str → Option NameKind) (scope : Scope) (T capN : List Str) (caps : List Nat) : Bool :=
  scope.names.all (fun p => p.2 != .cell) && scope.names.all (fun p => p.2 != .free || kind p.1 == some .cell) &&
  scope.names.all (fun p => p.2 != .local || scope.names.lookup p.1 == some .local) &&
  (capN.zip caps).all (fun p => decide (N[p.2]? = some p.1) && scope.names.lookup p.1 == some .free) && capN.length == caps.length
noncomputable def lcs (T : List Str) (caps : List Nat) (σ : St) : St := T.map (fun _ => none) ++ caps.map (fun i => (σ[i]?).join)
noncomputable def lcx (X : Cx) (N' : List Str) (scope : Scope) (cl : List (Str × Addr)) (C : Addr) (s₀ : Shared) (H₀ : Hp) (fp : List Addr) : Cx :=
  { prog := X.prog, w := X.w, K := X.K, mg := X.mg, base := X.base, A := X.A, N := N', s₀ := s₀, H₀ := H₀, env := compEnvC scope cl C X.env, outer := X.stack, stack := X.stack, ex := fp,
    fn := fun x => (cl.lookup x).isNone, calm := X.calm, pn := [], xe := fun _ _ => False }
noncomputable def PIfs (X : Cx) (ifs : List Expr) (t : TT) : Prop :=
  ∀ (pins : List (Addr × Obj)) (s : Shared) (σ : St) (H : Hp) (Q : Bool → Hp → Prop), Inv X pins σ H s → t σ H Q →
    wpAny (model X.prog X.w) X.A (forIn ifs true fun c r => if r = true then do let ok ← isTrue c X.env (eval c X.env); pure (ForInStep.yield ok) else pure (ForInStep.yield r)) (TP X pins σ Q) X.xe s
noncomputable def tYes : TT := fun _ H Q => Q true H
theorem pifs_nil {X : Cx} : PIfs X [] tYes := fun pins s σ H Q I h => wpAny_tests_nil ⟨H, I, h⟩
theorem pifs_one {X : Cx} {c : Expr} {t : TT} (h : PT X c t) : PIfs X [c] t := fun pins s σ H Q I hw => wpAny_tests_one (h pins s σ H Q I hw)
noncomputable def LCW (T : List Str) (caps : List Nat) (J : It) (g : TG) (tt : TT) (te : TE) (σ : St) (H1 : Hp) (Q : VK) (D : Addr) : Prop :=
  ∃ W : Nat → Nat → List V → St → Hp → Prop, (∃ m, W 0 m [] (lcs T caps σ) (upd H1 D (.lst []))) ∧ ∀ i m ys σ' H', W i m ys σ' H' →
    (J.stop i H' ∧ Q (.ref D) H') ∨ (J.go i H' ∧ ∃ (N : St → V → Hp → Prop) (F : St → Hp → Prop),
      (∀ σ2 v H5, N σ2 v H5 → H5 D = some (.lst ys) ∧ ys.length < sizeLine ∧ ∃ m', m' < m ∧ W (i + 1) m' (ys ++ [v]) σ2 (upd H5 D (.lst (ys ++ [v])))) ∧ (∀ σ2 H4, F σ2 H4 → ∃ m', m' < m ∧ W (i + 1) m' ys σ2 H4) ∧
      ∀ x H2, J.yld i H' x H2 → g x σ' H2 fun σ2 H3 => tt σ2 H3 fun b H4 => if b = true then te σ2 H4 (N σ2) else F σ2 H4)
noncomputable def tLC (T : List Str) (caps : List Nat) (wi : TI) (g : TG) (tt : TT) (te : TE) : TE := fun σ H Q => wi σ H fun J H1 => ∀ D, H1 D = none → LCW T caps J g tt te σ H1 Q D
theorem closure_ok {env : Env} : ∀ (names : List (Str × NameKind)) (acc : List (Str × Addr)), (∀ p ∈ names, p.2 = .free → ∃ c, env.cells.lookup p.1 = some c) →
    (∀ x c, acc.lookup x = some c → env.cells.lookup x = some c) →
    ∃ cl, (forIn names acc fun x r => if (x.2 == NameKind.free) = true then (cellOf env x.1 >>= fun a => pure (ForInStep.yield ((x.1, a) :: r))) else pure (ForInStep.yield r) : Sem (List (Str × Addr))) = pure cl ∧
      (∀ x c, cl.lookup x = some c → env.cells.lookup x = some c) ∧ (∀ x, (x, NameKind.free) ∈ names → (cl.lookup x).isSome = true) ∧ (∀ x, (acc.lookup x).isSome = true → (cl.lookup x).isSome = true)
  | [], acc, _, ha => ⟨acc, rfl, ha, fun x h => by simp at h, fun _ h => h⟩
  | (n, k) :: r, acc, hf, ha => by
    by_cases hk : k = .free
    · subst hk
      obtain ⟨c, hc⟩ := hf (n, .free) List.mem_cons_self rfl
      have ha' : ∀ x c', ((n, c) :: acc).lookup x = some c' → env.cells.lookup x = some c' := by
        intro x c' h
        rw [List.lookup_cons] at h
        cases e : x == n with
        | true => rw [e] at h; have := beq_iff_eq.mp e; subst this; cases h; exact hc
        | false => rw [e] at h; exact ha x c' h
      obtain ⟨cl, e1, h1, h2, h3⟩ := closure_ok r ((n, c) :: acc) (fun p hp => hf p (List.mem_cons_of_mem _ hp)) ha'
      have hn : (((n, c) :: acc).lookup n).isSome = true := by rw [List.lookup_cons]; simp
      refine ⟨cl, ?_, h1, fun x hx => ?_, fun x hx => h3 x ?_⟩
      · rw [List.forIn_cons]
        simp only [beq_self_eq_true, if_true]
        have : cellOf env n = pure c := by unfold cellOf; rw [hc]
        rw [this]
        exact e1
      · rcases List.mem_cons.mp hx with q | q
        · cases q; exact h3 _ hn
        · exact h2 x q
      · rw [List.lookup_cons]
        cases e : x == n with
        | true => rfl
        | false => exact hx
    · obtain ⟨cl, e1, h1, h2, h3⟩ := closure_ok r acc (fun p hp => hf p (List.mem_cons_of_mem _ hp)) ha
      refine ⟨cl, ?_, h1, fun x hx => ?_, h3⟩
      · rw [List.forIn_cons]
        have : (k == NameKind.free) = false := by simpa using hk
        simp only [this, Bool.false_eq_true, if_false]
        exact e1
      · rcases List.mem_cons.mp hx with q | q
        · cases q; exact absurd rfl hk
        · exact h2 x q
theorem closureFor_ok {scope : Scope} {env : Env} (hf : ∀ p ∈ scope.names, p.2 = .free → ∃ c, env.cells.lookup p.1 = some c) :
    ∃ cl, closureFor scope env = pure cl ∧ (∀ x c, cl.lookup x = some c → env.cells.lookup x = some c) ∧ (∀ x, (x, NameKind.free) ∈ scope.names → (cl.lookup x).isSome = true) := by
  obtain ⟨cl, e, h1, h2, _⟩ := closure_ok (env := env) scope.names [] hf (fun x c h => by simp at h)
  refine ⟨cl, ?_, h1, h2⟩
  simp only [closureFor]
  have e' : (forIn scope.names [] fun x r => if (x.2 == NameKind.free) = true then (cellOf env x.1 >>= fun a => pure (ForInStep.yield ((x.1, a) :: r))) else pure (ForInStep.yield r) : Sem (List (Str × Addr))) = pure cl := e
  first
    | exact e'
    | (simp only [bind_pure]; exact e')
theorem relabel_lookup {scope : Scope} {env : Env} {x : Str} {k : NameKind} (h : scope.names.lookup x = some k) : ∃ k', (relabel scope env).names.lookup x = some k' ∧ (k' = k ∨ (k = .free ∧ k' = .cell)) := by
  have : ∀ names : List (Str × NameKind), names.lookup x = some k → ∃ k', (names.map fun (p : Str × NameKind) => match p with | (n, k) => if (k == NameKind.free && env.scope.kind == .function && env.kindOf n == some .cell) then (n, NameKind.cell) else (n, k)).lookup x = some k' ∧ (k' = k ∨ (k = .free ∧ k' = .cell)) := by
    intro names
    induction names with
    | nil => intro h; simp at h
    | cons p r ih =>
      obtain ⟨n, k0⟩ := p
      intro h
      rw [List.map_cons]
      by_cases hc : (k0 == NameKind.free && env.scope.kind == .function && env.kindOf n == some .cell) = true
      · simp only [hc, if_true]
        rw [List.lookup_cons] at h ⊢
        cases e : x == n with
        | true =>
          rw [e] at h
          cases h
          have : k = NameKind.free := by
            have := (Bool.and_eq_true _ _).mp ((Bool.and_eq_true _ _).mp hc).1
            exact beq_iff_eq.mp this.1
          exact ⟨_, rfl, .inr ⟨this, rfl⟩⟩
        | false => rw [e] at h; exact ih h
      · simp only [hc, if_false]
        rw [if_neg (by simp)]
        rw [List.lookup_cons] at h ⊢
        cases e : x == n with
        | true => rw [e] at h; cases h; exact ⟨_, rfl, .inl rfl⟩
        | false => rw [e] at h; exact ih h
  exact this scope.names h
theorem relabel_inv {scope : Scope} {env : Env} {x : Str} {k : NameKind} (h : (relabel scope env).names.lookup x = some k) (hk : k = .cell ∨ k = .free) (hc : ∀ p ∈ scope.names, p.2 ≠ .cell) : scope.names.lookup x = some .free := by
  cases e : scope.names.lookup x with
  | none =>
    exfalso
    have : ∀ names : List (Str × NameKind), names.lookup x = none → (names.map fun (p : Str × NameKind) => match p with | (n, k) => if (k == NameKind.free && env.scope.kind == .function && env.kindOf n == some .cell) then (n, NameKind.cell) else (n, k)).lookup x = none := by
      intro names
      induction names with
      | nil => intro _; rfl
      | cons p r ih =>
        obtain ⟨n, k0⟩ := p
        intro h
        rw [List.map_cons]
        have h2 : (x == n) = false ∧ r.lookup x = none := by
          rw [List.lookup_cons] at h
          cases e : x == n with
          | true => rw [e] at h; cases h
          | false => rw [e] at h; exact ⟨rfl, h⟩
        dsimp only
        split <;> (rw [List.lookup_cons, h2.1]; exact ih h2.2)
    have q := this scope.names e
    have h' : (relabel scope env).names.lookup x = none := q
    rw [h'] at h; cases h
  | some k0 =>
    obtain ⟨k', e1, e2⟩ := relabel_lookup (env := env) e
    rw [h] at e1
    cases e1
    have hm := PySem.mem_of_lookup e
    rcases e2 with q | ⟨q, _⟩
    · subst q
      rcases hk with z | z
      · subst z; exact absurd rfl (hc _ hm)
      · rw [z]
    · rw [q]
theorem codeAny_compLoop_go {prog : Program} {w : World} {A : Around} {R : Result → Shared → Prop} {s : Shared} {elt target iter : Expr} {ifs : List Expr} {scope : Scope} {pos : Pos} {it acc : Value} {env : Env} (I : Nat → Shared → Prop)
    (turn : ∀ n s, I n s → wpAny (model prog w) A (pyNext it) (fun r s₁ => match r with
      | none => R (.ok .next) s₁
      | some v => wpAny (model prog w) A (letOwnedTupleGo target it v) (fun _ s₁' => wpAny (model prog w) A (assign target env v) (fun _ s₂ =>
          wpAny (model prog w) A (forIn ifs true fun c r => if r = true then do let ok ← isTrue c env (eval c env); pure (ForInStep.yield ok) else pure (ForInStep.yield r)) (fun ok s₃ =>
            if ok = true then wpAny (model prog w) A (eval elt env) (fun x s₄ =>
              wpAny (model prog w) A (call (.builtin "list.append") [acc, x]) (fun _ s₅ => ∃ m, m < n ∧ I m s₅) (fun _ _ => False) s₄) (fun _ _ => False) s₃
            else ∃ m, m < n ∧ I m s₃) (fun _ _ => False) s₂) (fun _ _ => False) s₁') (fun _ _ => False) s₁) (fun _ _ => False) s)
    (n : Nat) (h : I n s) :
    codeAny (model prog w) A (.compLoop (.ListComp elt [⟨target, iter, ifs, 0⟩] scope pos) 0 it acc env) R s := by
  refine codeAny_loop rfl I (fun n s hI => ?_) n h
  show wpAny _ A ((compTurn (.ListComp elt [⟨target, iter, ifs, 0⟩] scope pos) 0 it acc env).onRaise (fun x => do noteFrame x env; theTreesLotGoes x)) _ _ s
  refine wpAny_noted ?_
  rw [compTurn_list]
  refine wpAny_bind (wpAny_standAt (wpAny_bind (wpAny_mono (turn n s hI) (fun r s₁ h₁ => ?_) fun _ _ h' => h'.elim)))
  cases r with
  | none => exact wpAny_pure h₁
  | some v =>
    refine wpAny_bind (wpAny_mono h₁ (fun _ s₁' h₁' => ?_) fun _ _ h' => h'.elim)
    refine wpAny_bind (wpAny_mono h₁' (fun _ s₂ h₂ => wpAny_bind (wpAny_mono h₂ (fun ok s₃ h₃ => ?_) fun _ _ h' => h'.elim)) fun _ _ h' => h'.elim)
    cases ok with
    | false => exact wpAny_pure ⟨rfl, h₃⟩
    | true =>
      exact wpAny_bind (wpAny_bind (wpAny_mono h₃ (fun x s₄ h₄ => wpAny_bind (wpAny_mono h₄ (fun _ s₅ h₅ => wpAny_pure (wpAny_pure ⟨rfl, h₅⟩)) fun _ _ h' => h'.elim)) fun _ _ h' => h'.elim))
end L2
namespace L2
open PySem PySem.Spec PyProof.Rows
structure LcOk (N : List Str) (kind : Str → Option NameKind) (scope : Scope) (capN : List Str) (caps : List Nat) : Prop where
  nocell : ∀ p ∈ scope.names, p.2 ≠ .cell
  free : ∀ p ∈ scope.names, p.2 = .free → kind p.1 = some .cell
  loc : ∀ p ∈ scope.names, p.2 = .local → scope.names.lookup p.1 = some .local
  cap : ∀ (j : Nat) (x : Str), capN[j]? = some x → ∃ i : Nat, caps[j]? = some i ∧ N[i]? = some x ∧ scope.names.lookup x = some .free
  len : capN.length = caps.length
theorem lcOk_of {N : List Str} {kind : Str → Option NameKind} {scope : Scope} {T capN : List Str} {caps : List Nat} (h : lcOk N kind scope T capN caps = true) : LcOk N kind scope capN caps := by
  unfold lcOk at h
  simp only [Bool.and_eq_true] at h
  obtain ⟨⟨⟨⟨h1, h2⟩, h3⟩, h4⟩, h5⟩ := h
  have hl : capN.length = caps.length := beq_iff_eq.mp h5
  refine ⟨fun p hp => ?_, fun p hp e => ?_, fun p hp e => ?_, fun j x e => ?_, hl⟩
  · simpa using List.all_eq_true.mp h1 p hp
  · have := List.all_eq_true.mp h2 p hp
    rw [e] at this
    simpa using this
  · have := List.all_eq_true.mp h3 p hp
    rw [e] at this
    simpa using this
  · have hj : j < capN.length := (List.getElem?_eq_some_iff.mp e).1
    have e2 : caps[j]? = some (caps[j]'(by omega)) := List.getElem?_eq_getElem (by omega)
    have hm : (x, caps[j]'(by omega)) ∈ capN.zip caps := by
      refine List.mem_of_getElem? (i := j) ?_
      rw [List.getElem?_zip_eq_some]
      exact ⟨e, e2⟩
    have := List.all_eq_true.mp h4 _ hm
    simp only [Bool.and_eq_true, decide_eq_true_eq, beq_iff_eq] at this
    exact ⟨_, e2, this.1, this.2⟩
section
variable {X : Cx}
set_option maxHeartbeats 1000000 in
theorem pe_lc {elt tg iter : Expr} {ifs : List Expr} {scope : Scope} {pos : Pos} {wi : TI} {g : TG} {tt : TT} {te : TE} (T capN : List Str) (caps : List Nat) (hc : X.calm = true) (hi : PI X tg iter wi)
    (hk : scope.kind = .function) (ho : lcOk X.N X.env.kindOf scope T capN caps = true)
    (hg : ∀ s₀ H₀ C cl fp, PG (lcx X (T ++ capN) scope cl C s₀ H₀ fp) tg g)
    (ht : ∀ s₀ H₀ C cl fp, PIfs (lcx X (T ++ capN) scope cl C s₀ H₀ fp) ifs tt)
    (he : ∀ s₀ H₀ C cl fp, PE (lcx X (T ++ capN) scope cl C s₀ H₀ fp) elt te)
    (hs : ∀ x, foldedSetIterable iter X.env x = pure x := by intro _; rfl) :
    PE X (.ListComp elt [⟨tg, iter, ifs, 0⟩] scope pos) (tLC T caps wi g tt te) := by
  intro pins s σ H Q I h
  have O := lcOk_of ho
  have hfree : ∀ p ∈ scope.names, p.2 = .free → ∃ c, X.env.cells.lookup p.1 = some c := fun p hp e => I.ok.has p.1 (.inl (O.free p hp e))
  obtain ⟨cl, hclos, cl1, cl2⟩ := closureFor_ok hfree
  rw [eval_ListComp]
  refine wpAny_comprehension_free (use := none) rfl hs hclos hk O.loc (thn (hi pins s σ H _ I h) fun v s1 h1 => thn h1 fun itv s2 h2 => ?_)
  obtain ⟨it, fp, tn, J, H2, rfl, I2, TT', st2, f2, hD⟩ := h2
  refine wpAny_newObj_type ?_
  have I3 : Inv X pins σ (upd H2 s2.heap.objs.size (.lst [])) { s2 with heap := s2.heap.push { cls := .type "list", data := .seq ([] : List Value).toArray } } := I2.lnew (t' := s2.toks) (its := []) (ys := []) .nil (Nat.zero_le _)
  have fD : H2 s2.heap.objs.size = none := I2.fresh
  obtain ⟨W, ⟨m0, w0⟩, turn⟩ := hD s2.heap.objs.size fD
  generalize hDd : s2.heap.objs.size = D at I3 fD w0 turn ⊢
  have st3 : tn 0 (s2.heap.push { cls := .type "list", data := .seq ([] : List Value).toArray }) := TT'.keep _ _ _ st2 fun b _ o e => Heap.get?_push_of_some _ e
  have hfpD : ∀ b ∈ fp, b < D := fun b hb => by
    obtain ⟨o, e, _⟩ := TT'.obj _ _ st2 b hb
    rw [← hDd]; exact Heap.lt_size e
  generalize hs3 : ({ s2 with heap := s2.heap.push { cls := .type "list", data := .seq ([] : List Value).toArray } } : Shared) = s3 at I3 ⊢
  have st3' : tn 0 s3.heap := by rw [← hs3]; exact st3
  generalize hH3 : upd H2 D (.lst []) = H3 at I3 w0
  have f3 : ∀ b ∈ fp, FpOk X pins H3 b := fun b hb => by
    obtain ⟨z0, z⟩ := f2 b hb
    exact ⟨by rw [← hH3, upd_ne (Nat.ne_of_lt (hfpD b hb))]; exact z0, z⟩
  refine wpAny_newFunctionEnv O.nocell (by intro y hy; simp at hy) (fun h₁ hns₁ hsb₁ => ?_) hk
  have hCn : H3 s3.heap.objs.size = none := I3.fresh
  have old : ∀ b o, s3.heap.get? b = some o → h₁.get? b = some o := fun b o e => hsb₁.extBut b o (Nat.ne_of_lt (Heap.lt_size e)) (Heap.get?_push_of_some _ e)
  generalize hC : s3.heap.objs.size = C at hns₁ hsb₁ hCn ⊢
  have hltC : ∀ b o, s3.heap.get? b = some o → b ≠ C := fun b o e => by rw [← hC]; exact Nat.ne_of_lt (Heap.lt_size e)
  have fpC : ∀ b ∈ fp, b ≠ C := fun b hb => by
    obtain ⟨o, e, _⟩ := TT'.obj _ _ st3' b hb
    exact hltC b o e
  have fpS : ∀ b ∈ fp, b ∉ frs X.stack := fun b hb z => by
    rcases List.mem_cons.mp (I3.stkSub b z) with q | q
    · exact (f3 b hb).2.1 q
    · exact (f3 b hb).2.2.1 q
  have fpCl : ∀ b ∈ fp, ∀ x c, cl.lookup x = some c → c ≠ b := fun b hb x c e => (f3 b hb).2.2.2.2.1 x c (cl1 x c e)
  have hXok : (lcx X (T ++ capN) scope cl C s3 H3 fp).Ok := by
    refine ⟨I3.ok.mod, hk, I3.ok.glob, I3.ok.blt, Nat.le_of_eq hC, fun x y c e1 e2 => I3.ok.inj x y c (cl1 x c e1) (cl1 y c e2), fun x hx => ?_, fun x c e1 e2 => ?_, I3.ok.hd, I3.ok.frames, .inl rfl, fun b hb => ⟨fpC b hb, fun x c e => fpCl b hb x c e⟩,
      fun b o e => I3.bs b o e, ?_, fun b o e z => ?_, fun b hb => fpS b hb, I3.stack, I3.stkFree⟩
    · have hx' : (relabel scope X.env).names.lookup x = some .cell ∨ (relabel scope X.env).names.lookup x = some .free := hx
      have hf : scope.names.lookup x = some .free := by
        rcases hx' with q | q
        · exact relabel_inv q (.inl rfl) O.nocell
        · exact relabel_inv q (.inr rfl) O.nocell
      exact Option.isSome_iff_exists.mp (cl2 x (PySem.mem_of_lookup hf))
    · have e1 : (cl.lookup x).isNone = true := e1
      have e2 : cl.lookup x = some c := e2
      rw [e2] at e1; cases e1
    · exact Nat.le_trans I3.ok.bsz I3.sz
    · obtain ⟨z0, z1, z2, z3, _⟩ := f3 b z
      rcases z3 with q | q
      · exact I3.ok.noex b o e q
      · exact absurd (Nat.lt_of_lt_of_le (Heap.lt_size e) (Nat.le_trans I3.ok.bsz q)) (Nat.lt_irrefl _)
  have I4 : Inv (lcx X (T ++ capN) scope cl C s3 H3 fp) [] (lcs T caps σ) H3 { s3 with heap := h₁, toks := s3.toks + ([] : List (Str × Value)).length } := by
    refine ⟨hXok, rfl, I3.bare, Un.kept old, ⟨_, hns₁, fun i x v e1 e2 e3 => ?_⟩, fun x c e => ?_, hCn, fun x c e => I3.freeC x c (cl1 x c e), fun p hp => absurd (show p ∈ ([] : List (Addr × Obj)) from hp) (by simp), I3.hok.kept old, ?_⟩
    · have e1 : (T ++ capN)[i]? = some x := e1
      unfold lcs at e2
      by_cases hi : i < T.length
      · rw [List.getElem?_append_left (by simpa using hi), List.getElem?_map] at e2
        cases q : T[i]? with
        | none => rw [q] at e2; cases e2
        | some z => rw [q] at e2; cases e2
      · rw [List.getElem?_append_right (by omega)] at e1
        rw [List.getElem?_append_right (by simpa using hi), List.getElem?_map, List.length_map] at e2
        obtain ⟨k, k1, k2, k3⟩ := O.cap _ x e1
        rw [k1] at e2
        have e2 : (σ[k]?).join = some v := Option.some.inj e2
        have e2' : σ[k]? = some (some v) := by
          cases q : σ[k]? with
          | none => rw [q] at e2; cases e2
          | some z => rw [q] at e2; exact congrArg some e2
        have hcell : X.env.kindOf x = some .cell := O.free (x, .free) (PySem.mem_of_lookup k3) rfl
        obtain ⟨m, hn, hl⟩ := I3.loc
        obtain ⟨u, r, l⟩ := hl k x v k2 e2' (.inr (.inl hcell))
        refine ⟨u, r, .inr ⟨?_, ?_⟩⟩
        · obtain ⟨k', e5, e6⟩ := relabel_lookup (env := X.env) k3
          rcases e6 with z | ⟨_, z⟩
          · subst z; exact .inr e5
          · subst z; exact .inl e5
        · rcases l with ⟨l1, _⟩ | ⟨_, c, e7, o, ho1, ho2⟩
          · rw [hcell] at l1; cases l1
          · obtain ⟨c', e8⟩ := Option.isSome_iff_exists.mp (cl2 x (PySem.mem_of_lookup k3))
            have := cl1 x c' e8
            rw [e7] at this
            cases this
            exact ⟨c, e8, o, old c o ho1, ho2⟩
    · obtain ⟨v, o, ho1, ho2⟩ := I3.cell x c (cl1 x c e)
      exact ⟨v, o, old c o ho1, ho2⟩
    · show (lcs T caps σ).length = (T ++ capN).length
      unfold lcs
      rw [List.length_append, List.length_append, List.length_map, List.length_map, O.len]
  have fpX : ∀ {H' : Hp}, (∀ b ∈ fp, H' b = none) → ∀ b ∈ fp, FpOk (lcx X (T ++ capN) scope cl C s3 H3 fp) [] H' b := fun hn b hb =>
    ⟨hn b hb, fpC b hb, fpS b hb, .inl hb, fun x c e => fpCl b hb x c e, fun p hp => absurd (show p ∈ ([] : List (Addr × Obj)) from hp) (by simp)⟩
  have st4 : tn 0 h₁ := TT'.keep _ _ _ st3' fun b _ o e => old b o e
  have w0' : W 0 m0 [] (lcs T caps σ) H3 := w0
  have loop : codeAny (model X.prog X.w) X.A (.compLoop (.ListComp elt [⟨tg, iter, ifs, 0⟩] scope pos) 0 (.ref it) (.ref D) (compEnvC scope cl C X.env))
      (compPost (model X.prog X.w) X.A X.xe none (EP X pins σ Q) (.ref D) C) { s3 with heap := h₁, toks := s3.toks + ([] : List (Str × Value)).length } := by
    refine codeAny_compLoop_go (fun n s' => ∃ i ys σ' H', Inv (lcx X (T ++ capN) scope cl C s3 H3 fp) [] σ' H' s' ∧ tn i s'.heap ∧ (∀ b ∈ fp, H' b = none) ∧ W i n ys σ' H') ?_ m0 ⟨0, [], lcs T caps σ, H3, I4, st4, fun b hb => (f3 b hb).1, w0'⟩
    rintro n s5 ⟨i, ys, σ5, H5, I5, st5, fr5, w5⟩
    rcases turn i n ys σ5 H5 w5 with ⟨stop, qn⟩ | ⟨go, N, F, hN, hF, step⟩
    · refine thn (TT'.done (lcx X (T ++ capN) scope cl C s3 H3 fp) rfl rfl rfl hc i [] s5 σ5 H5 _ I5 (fpX fr5) st5 stop) fun r s6 ⟨hr, I6⟩ => ?_
      subst hr
      obtain ⟨m6, hn6, _⟩ := I6.loc
      refine ⟨m6, hn6, fun h' hsb => ?_⟩
      have hfC : H5 C = none := I6.free
      have hok' : HOk X.prog X.w H5 h' := fun b u e => by
        have neb : ∀ c u', H5 c = some u' → c ≠ C := fun c u' e' z => by subst z; rw [hfC] at e'; cases e'
        refine (I6.hok b u e).stay (fun c v hc' q => hsb.extBut c v ?_ q) (fun _ q => q) fun _ _ q => q
        rcases hc' with z | z
        · rw [z]; exact neb b u e
        · exact neb c _ z
      have ub := I6.base
      refine ⟨.ref D, H5, Inv.call' (s' := { s6 with heap := h' }) (ch := fp) I3 I6.os ?_ hok' I6.bare (fun b hb => ⟨(f3 b hb).2.2.2.1, (f3 b hb).2.1, (f3 b hb).2.2.2.2.1, (f3 b hb).2.2.2.2.2⟩), rfl, qn⟩
      exact ⟨fun b o q n hb hx => hsb.extBut b o (hltC b o q) (ub.keep b o q n hb hx),
        fun b o q n hb hx => let ⟨sl, e⟩ := ub.slot b o q n hb hx; ⟨sl, hsb.extBut b _ (hltC b o q) e⟩, ub.free, fun b o q hx => let ⟨o', e⟩ := ub.there b o q hx; ⟨o', hsb.extBut b _ (hltC b o q) e⟩, ub.tups, ub.frzs, ub.tbls⟩
    · refine thn (TT'.item (lcx X (T ++ capN) scope cl C s3 H3 fp) rfl rfl rfl hc i [] s5 σ5 H5 _ I5 (fpX fr5) st5 go) fun r s6 ⟨u, hr, h6⟩ => ?_
      subst hr
      refine thn h6 fun _ s7 ⟨x, H7, I7, r7, y7, st7, fr7⟩ => ?_
      have I7' := I7.pinned (fpX fr7) (TT'.obj _ _ st7)
      have keepT : ∀ {σ8 : St} {H8 : Hp} {s8 : Shared}, Inv (lcx X (T ++ capN) scope cl C s3 H3 fp) ([] ++ pinsAt fp s7.heap) σ8 H8 s8 → tn (i + 1) s8.heap ∧ (∀ b ∈ fp, H8 b = none) := fun {σ8 H8 s8} I8 => by
        refine ⟨TT'.keep _ _ _ st7 fun b hb o e => (I8.pin (b, o) (List.mem_append_right _ (List.mem_append_right _ (mem_pinsAt hb e)))).1, fun b hb => ?_⟩
        obtain ⟨o, e, d⟩ := TT'.obj _ _ st7 b hb
        exact (I8.pin (b, o) (List.mem_append_right _ (List.mem_append_right _ (mem_pinsAt hb e)))).2.1
      refine thn (hg s3 H3 C cl fp _ s7 σ5 H7 x u _ I7' r7 (step x H7 y7)) fun _ s8 ⟨σ8, H8, I8, q8⟩ => ?_
      refine thn (ht s3 H3 C cl fp _ s8 σ8 H8 _ I8 q8) fun ok s9 ⟨H9, I9, q9⟩ => ?_
      cases ok with
      | false =>
        rw [if_neg (by simp)] at q9
        rw [if_neg (by simp)]
        obtain ⟨m', hm, w9⟩ := hF _ _ q9
        exact ⟨m', hm, i + 1, ys, σ8, H9, I9.unpinned, (keepT I9).1, (keepT I9).2, w9⟩
      | true =>
        rw [if_pos rfl] at q9
        rw [if_pos rfl]
        refine thn (he s3 H3 C cl fp _ s9 σ8 H9 _ I9 q9) fun vv s10 ⟨v, H10, I10, r10, n10⟩ => ?_
        obtain ⟨a10, z10, m', hm, w10⟩ := hN _ _ _ n10
        refine thn (mt_append (X := lcx X (T ++ capN) scope cl C s3 H3 fp) _ s10 σ8 H10 (.ref D) [v] (.ref D) [vv] (fun _ H11 => W (i + 1) m' (ys ++ [v]) σ8 H11) I10 rfl (.cons r10 .nil) ⟨D, ys, v, rfl, rfl, a10, z10, w10⟩) fun _ s11 ⟨_, H11, I11, _, w11⟩ => ?_
        exact ⟨m', hm, i + 1, ys ++ [v], σ8, H11, I11.unpinned, (keepT I11).1, (keepT I11).2, w11⟩
  exact codeAny_compStart_list loop (TT'.self _ 0 _ _ _ st4 loop)
end
end L2
namespace L2
open PySem PySem.Spec PyProof.Rows
structure Yields (J : It) (xs : List V) (R : Hp → Prop) : Prop where
  go : ∀ i H, i < xs.length → R H → J.go i H
  yld : ∀ i H x H', i < xs.length → R H → J.yld i H x H' → H' = H ∧ xs[i]? = some x
  stop : ∀ i H, i = xs.length → R H → J.stop i H
theorem yields_list {K : PySem.W.Frag} {a : Addr} {xs : List V} : Yields (Itl K a) xs (fun H => SqL K H a xs) :=
  ⟨fun i H hi r => ⟨xs, xs[i], r, List.getElem?_eq_getElem hi⟩, fun i H x H' hi r y => ⟨y.1, y.2 xs r⟩, fun i H e r => ⟨xs, r, by omega⟩⟩
theorem yields_range {lo : Int} {n : Nat} : Yields (Itr lo n) ((List.range n).map fun (i : Nat) => V.int (lo + (i : Int))) (fun _ => True) :=
  ⟨fun i H hi _ => by simpa [Itr] using hi, fun i H x H' hi _ y => ⟨y.1, by rw [y.2]; simp at hi; simp [hi]⟩, fun i H e _ => by simp [Itr, e]⟩
noncomputable def signsV (z : Str) : List V := z.cps.toList.map fun c => V.str ⟨#[c]⟩
theorem yields_str {z : Str} : Yields (Its z) (signsV z) (fun _ => True) :=
  ⟨fun i H hi _ => by simpa [Its, signsV, Str.length] using hi,
    fun i H x H' hi _ y => by
      obtain ⟨e, c, hc, rfl⟩ := y
      refine ⟨e, ?_⟩
      unfold signsV
      rw [List.getElem?_map, Array.getElem?_toList, hc]
      rfl,
    fun i H e _ => by simp [Its, e, signsV, Str.length]⟩
noncomputable def LcN (cs : St) (D : Addr) (Pv : Nat → List V → Hp → Prop) (i : Nat) (ys : List V) (σ2 : St) : VK := fun v H5 => (∃ t, σ2 = t :: cs) ∧ H5 D = some (.lst ys) ∧ ys.length < sizeLine ∧ Pv (i + 1) (ys ++ [v]) (upd H5 D (.lst (ys ++ [v])))
noncomputable def LcF (cs : St) (Pv : Nat → List V → Hp → Prop) (i : Nat) (ys : List V) (σ2 : St) (H4 : Hp) : Prop := (∃ t, σ2 = t :: cs) ∧ Pv (i + 1) ys H4
theorem lc1 {J : It} {xs : List V} {R : Hp → Prop} {nm : Str} {caps : List Nat} {tt : TT} {te : TE} {σ : St} {H1 : Hp} {Q : VK} {D : Addr} (Y : Yields J xs R) (Pv : Nat → List V → Hp → Prop)
    (h0 : Pv 0 [] (upd H1 D (.lst []))) (hR : ∀ i ys H, i ≤ xs.length → Pv i ys H → R H)
    (hs : ∀ i x ys H, xs[i]? = some x → Pv i ys H → tt (some x :: caps.map (fun i => (σ[i]?).join)) H fun b H4 =>
      if b = true then te (some x :: caps.map (fun i => (σ[i]?).join)) H4 (LcN (caps.map (fun i => (σ[i]?).join)) D Pv i ys (some x :: caps.map (fun i => (σ[i]?).join))) else LcF (caps.map (fun i => (σ[i]?).join)) Pv i ys (some x :: caps.map (fun i => (σ[i]?).join)) H4)
    (hd : ∀ ys H, Pv xs.length ys H → Q (.ref D) H) : LCW [nm] caps J (gName 0) tt te σ H1 Q D := by
  refine ⟨fun i m ys σ' H => m = xs.length - i ∧ i ≤ xs.length ∧ (∃ t, σ' = t :: caps.map (fun i => (σ[i]?).join)) ∧ Pv i ys H, ⟨xs.length, by simp, Nat.zero_le _, ⟨none, rfl⟩, h0⟩, ?_⟩
  rintro i m ys σ' H' ⟨rfl, hi, ⟨t, rfl⟩, p⟩
  by_cases hlt : i < xs.length
  · refine .inr ⟨Y.go i H' hlt (hR i ys H' hi p), LcN (caps.map (fun i => (σ[i]?).join)) D Pv i ys, LcF (caps.map (fun i => (σ[i]?).join)) Pv i ys, ?_, ?_, fun x H2 y => ?_⟩
    · rintro σ2 v H5 ⟨ht, a1, a2, a3⟩
      exact ⟨a1, a2, xs.length - (i + 1), by omega, rfl, hlt, ht, a3⟩
    · rintro σ2 H4 ⟨ht, a3⟩
      exact ⟨xs.length - (i + 1), by omega, rfl, hlt, ht, a3⟩
    · obtain ⟨rfl, hx⟩ := Y.yld i H' x H2 hlt (hR i ys H' hi p) y
      exact hs i x ys H2 hx p
  · have e : i = xs.length := by omega
    subst e
    exact .inl ⟨Y.stop _ _ rfl (hR _ ys H' hi p), hd ys H' p⟩
end L2
namespace L2
open PySem PySem.Spec PyProof.Rows
noncomputable def noStar : Expr → Bool
  | .Starred _ _ => false
  | _ => true
theorem starEach_cons {env : Env} {e : Expr} {es : List Expr} (h : noStar e = true) : starEach (e :: es) env = (false, eval e env) :: starEach es env := by
  cases e <;> first | rfl | (simp [noStar] at h)
section
variable {X : Cx} {e : Expr} {es : List Expr} {te : TE} {t : TA}
theorem pa_c (ha : PE X e te) (hr : PA X es t) (h : noStar e = true := by rfl) : PA X (e :: es) (tCons te t) := pa_cons ha hr (starEach_cons h)
noncomputable def tStrs (xs : List Str) : TA := fun _ H Q => Q (xs.map V.str) H
theorem pa_strs : ∀ (l : List (Str × Nat × Pos)), PA X (l.map fun p => .Constant (.str p.1) p.2.1 p.2.2) (tStrs (l.map (·.1)))
  | [] => pa_nil
  | a :: r => fun pos pins s σ H Q I h => pa_c (pe_str (x := a.1) (j := a.2.1) (pos := a.2.2)) (pa_strs r) (by rfl) pos pins s σ H Q I h
end
theorem lc1y {J : It} {xs : List V} {R : Hp → Prop} {nm : Str} {caps : List Nat} {te : TE} {σ : St} {H1 : Hp} {Q : VK} {D : Addr} (Y : Yields J xs R) (Pv : Nat → List V → Hp → Prop)
    (h0 : Pv 0 [] (upd H1 D (.lst []))) (hR : ∀ i ys H, i ≤ xs.length → Pv i ys H → R H)
    (hs : ∀ i x ys H, xs[i]? = some x → Pv i ys H → te (some x :: caps.map (fun i => (σ[i]?).join)) H (LcN (caps.map (fun i => (σ[i]?).join)) D Pv i ys (some x :: caps.map (fun i => (σ[i]?).join))))
    (hd : ∀ ys H, Pv xs.length ys H → Q (.ref D) H) : LCW [nm] caps J (gName 0) tYes te σ H1 Q D := by
  refine lc1 Y Pv h0 hR (fun i x ys H hx p => ?_) hd
  unfold tYes
  dsimp only
  rw [if_pos rfl]
  exact hs i x ys H hx p
theorem lcMap {J : It} {xs : List V} {R : Hp → Prop} {nm : Str} {caps : List Nat} {te : TE} {σ : St} {H1 : Hp} {Q : VK} {D : Addr} (Y : Yields J xs R) (f : V → V) (nD : H1 D = none) (hR : ∀ H, Same H1 H → R H) (hl : xs.length ≤ 1000)
    (hs : ∀ (i : Nat) x H (k : VK), xs[i]? = some x → Same H1 H → k (f x) H → te (some x :: caps.map (fun i => (σ[i]?).join)) H k)
    (hd : Q (.ref D) (upd H1 D (.lst (xs.map f)))) : LCW [nm] caps J (gName 0) tYes te σ H1 Q D := by
  have sm : ∀ o, Same H1 (upd H1 D o) := fun o b u e => by rw [upd_ne (ne_of_none e nD)]; exact e
  refine lc1y Y (fun i ys H => i ≤ xs.length ∧ ys = (xs.take i).map f ∧ H = upd H1 D (.lst ys)) ⟨Nat.zero_le _, by simp, rfl⟩ (fun i ys H _ p => hR H (by rw [p.2.2]; exact sm _)) ?_ ?_
  · rintro i x ys H hx ⟨hi, rfl, rfl⟩
    have hlt := (List.getElem?_eq_some_iff.mp hx).1
    have et : xs.take (i + 1) = xs.take i ++ [x] := by rw [List.take_add_one, hx]; rfl
    refine hs i x _ _ hx (sm _) ⟨⟨_, rfl⟩, upd_same, ?_, hlt, ?_, ?_⟩
    · rw [List.length_map, List.length_take]; exact Nat.lt_of_le_of_lt (show min i xs.length ≤ 1000 by omega) (by decide)
    · rw [et, List.map_append]; rfl
    · rw [upd_upd]
  · rintro ys H ⟨_, rfl, rfl⟩
    rw [List.take_of_length_le (Nat.le_refl _)]
    exact hd
end L2
namespace L2
open PySem PySem.Spec PyProof.Rows
theorem ex_cut {X : Cx} {st : Stmt} {rest : List Stmt} {D : Ends} {σ : St} {H : Hp} (I : St → Hp → Prop) (g : ∀ u : TS, (∀ σ' H', I σ' H' → u D σ' H') → ∃ t, PS X st t ∧ t { D with nx := u D } σ H)
    (h : ∀ σ' H', I σ' H' → ∃ u, PSs X rest u ∧ u D σ' H') : ∃ t, PSs X (st :: rest) t ∧ t D σ H := by
  let u : TS := fun D' σ' H' => ∃ u0, PSs X rest u0 ∧ u0 D' σ' H'
  have pu : PSs X rest u := fun pins s σ' H' D' I' ⟨u0, p0, h0⟩ => p0 pins s σ' H' D' I' h0
  obtain ⟨t, pt, ht⟩ := g u h
  exact ⟨tSeq t u, pss_cons pt pu, ht⟩
theorem ex_next {X : Cx} {st : Stmt} {rest : List Stmt} {D : Ends} {σ : St} {H : Hp} (t : TS) (p : PS X st t) (h : t { D with nx := fun σ' H' => ∃ u, PSs X rest u ∧ u D σ' H' } σ H) : ∃ t, PSs X (st :: rest) t ∧ t D σ H := by
  let u : TS := fun D' σ' H' => ∃ u0, PSs X rest u0 ∧ u0 D' σ' H'
  have pu : PSs X rest u := fun pins s σ' H' D' I' ⟨u0, p0, h0⟩ => p0 pins s σ' H' D' I' h0
  exact ⟨tSeq t u, pss_cons p pu, h⟩
end L2
namespace L2
open PySem PySem.Spec PyProof.Rows
section
variable {X : Cx} {o e : Expr} {es : List Expr} {to : TE} {t : TA} {name : Str} {apos cpos : Pos} {T id : String} {r : V → List V → Hp → VK → Prop}
noncomputable def rLenK (K : PySem.W.Frag) : List V → Hp → VK → Prop := fun xs H Q => ∃ p ys, xs = [.ref p] ∧ (SqL K H p ys ∨ SqT K H p ys) ∧ Q (.int ys.length) H
theorem call_lenK (K : PySem.W.Frag) (hK : X.K = K := by rfl) : CallR X (.builtin "len") (rLenK K) := by subst hK; exact call_len_seq
theorem pe_bmK (K : PySem.W.Frag) (pa : PlainAttrs T) (slot : Slot T name id) (hty : typeOf (.builtin id) = pure (.type "method_descriptor")) (hm : MtR X id r) (ho : PE X o to) (ha : PA X (e :: es) t) (hK : X.K = K := by rfl)
    (hbase : attributeBase o name X.env (eval o X.env) = eval o X.env := by rfl)
    (hfew : ((backTo cpos (starEach (e :: es) X.env)).all (fun x => !x.1) && (backToKw cpos (keywordEach [] X.env)).all (fun x => x.1.isSome)
      && decide ((e :: es).length + ([] : List Keyword).length + (if ([] : List Keyword).isEmpty then 0 else 1) < 30)) = true := by rfl)
    (hline : (apos.endLine == cpos.line) = true := by rfl) (hs : starEach (e :: es) X.env = (false, eval e X.env) :: starEach es X.env := by rfl) (hplain : (backTo cpos (starEach es X.env)).any (·.1) = false := by rfl) :
    PE X (.Call (.Attribute o name apos) (e :: es) [] cpos) (tBM K T r to t) := by
  subst hK
  exact pe_bm pa slot hty hm ho ha hbase hfew hline hs hplain
end
end L2
namespace L2
open PySem PySem.Spec PyProof.Rows
section
variable {X : Cx}
noncomputable def tInts (xs : List Int) : TA := fun _ H Q => Q (xs.map V.int) H
theorem pa_ints : ∀ (l : List (Int × Nat × Pos)), PA X (l.map fun p => .Constant (.int p.1) p.2.1 p.2.2) (tInts (l.map (·.1)))
  | [] => pa_nil
  | a :: r => fun pos pins s σ H Q I h => pa_c (pe_int (i := a.1) (j := a.2.1) (pos := a.2.2)) (pa_ints r) (by rfl) pos pins s σ H Q I h
end
end L2
namespace L2
open PySem PySem.Spec PyProof.Rows
section
variable {X : Cx}
theorem op_neNil (hu : X.A.units + 64 < cLine) : OpR X (compareOp .NotEq) (rEqNil X.K true) := by
  intro pins s σ H x y v u Q I rx ry h
  obtain ⟨a, b, xs, rfl, rfl, h1, h2, q⟩ := h
  cases rx
  cases ry
  obtain ⟨its, r1, p1, _⟩ := I.list h1
  obtain ⟨its2, r2, p2, _⟩ := I.list h2
  cases r2
  have q' : ∀ b', b' = !xs.isEmpty → EP X pins σ Q (.bool b') s := fun b' e => ⟨.bl b', H, I, rfl, by subst e; exact q⟩
  cases r1 with
  | nil => exact SeqAt.RcNeAt.lists (e := fun _ => true) p1.isList p2.isList rfl (by omega) (fun i h1 _ => by simp at h1) X.prog X.w _ _ (q' _ (by simp))
  | cons r rr => exact SeqAt.RcNeAt.lists_lengths p1.isList p2.isList (by simp) (by omega) X.prog X.w _ _ (q' _ rfl)
noncomputable def rIsi (K : PySem.W.Frag) : List V → Hp → VK → Prop := fun xs H Q => ∃ (x c : V) (t cv : Value) (b : Bool), xs = [x, c] ∧ RelV c cv ∧ TyOf K H x t ∧ PySem.W.kitOne K t cv = some b ∧ Q (.bl b) H
theorem call_isiK (K : PySem.W.Frag) (hK : X.K = K := by rfl) : CallR X (.builtin "isinstance") (rIsi K) := by subst hK; exact call_isi
end
end L2
namespace L2
open PySem PySem.Spec PyProof.Rows
section
variable {X : Cx}
noncomputable def rSplit : V → List V → Hp → VK → Prop := fun x vs H Q => ∃ (z y : Str), x = .str z ∧ vs = [.str y] ∧ y.length ≠ 0 ∧ z.length ≤ 1000000 ∧ ∀ p, H p = none → Q (.ref p) (upd H p (.lst ((Txt.split z y).map V.str)))
theorem vals_strs : ∀ (l : List (Str × Tok)), Vals ((l.map (·.1)).map V.str) (strValues l)
  | [] => .nil
  | a :: r => .cons ⟨a.2, rfl⟩ (vals_strs r)
theorem mt_split : MtR X "str.split" rSplit := by
  intro pins s σ H x vs v us Q I rx rv h
  obtain ⟨z, y, rfl, rfl, hy, hz, q⟩ := h
  obtain ⟨t, rfl⟩ := rx
  obtain ⟨u, rfl, t', rfl⟩ := rv.one
  have hy0 : (y.length == 0) = false := by simpa using hy
  have fin : ∀ (l : List (Str × Tok)) (tk : Nat), l.map (·.1) = Txt.split z y → l.length ≤ sizeLine → EP X pins σ Q (.ref s.heap.objs.size) { s with heap := s.heap.push { cls := .type "list", data := .seq (strValues l).toArray }, toks := tk } := by
    intro l tk e hl
    refine ⟨.ref _, _, I.lnew (its := strValues l) (ys := (Txt.split z y).map V.str) (t' := tk) (by rw [← e]; exact vals_strs l) ?_, rfl, q _ I.fresh⟩
    rw [List.length_map, ← e, List.length_map]; exact hl
  have hn : (Builtin.Str.partsBetween z (Builtin.Str.occurrences z y 0 z.length (z.length + 1)) y.length).length ≤ sizeLine := by
    have e1 := StrLaws.occ_length_le z y 0 z.length (z.length + 1)
    rw [length_partsBetween, sizeLine_eq]; omega
  cases g1 : (decide (z.length < y.length) || decide (Builtin.Str.strKind z < Builtin.Str.strKind y)) with
  | false =>
    cases g2 : (Builtin.Str.occurrences z y 0 z.length (z.length + 1)).isEmpty with
    | false =>
      refine call_meets PySem.F.slot_str_split (typeIs_str _ _ _) PySem.F.entry_str_split (PySem.F.args_str_split_2 _ _) (meets_str_split_sep z y t t' g1 hy0 g2 (by rw [sizeLine_eq]; omega) hn) ?_
      show wants _ _ _ { s with toks := _, heap := s.heap.push { cls := .type "list", data := .seq (strsFrom s.toks (Builtin.Str.partsBetween z (Builtin.Str.occurrences z y 0 z.length (z.length + 1)) y.length)).toArray } }
      rw [strsFrom_eq]
      have e9 : (numbered s.toks (Builtin.Str.partsBetween z (Builtin.Str.occurrences z y 0 z.length (z.length + 1)) y.length)).map (·.1) = Txt.split z y := (numbered_texts _ _).trans ((if_neg (ne_true_of_eq_false g1)).trans (if_neg (ne_true_of_eq_false g2))).symm
      refine fin _ _ e9 ?_
      have := congrArg List.length (numbered_texts s.toks (Builtin.Str.partsBetween z (Builtin.Str.occurrences z y 0 z.length (z.length + 1)) y.length))
      rw [List.length_map] at this
      rw [this]; exact hn
    | true =>
      exact call_meets PySem.F.slot_str_split (typeIs_str _ _ _) PySem.F.entry_str_split (PySem.F.args_str_split_2 _ _) (meets_str_split_not_found z y t t' g1 hy0 g2)
        (fin [(z, t)] s.toks ((if_neg (ne_true_of_eq_false g1)).trans (if_pos g2)).symm (by show 1 ≤ sizeLine; decide))
  | true =>
    exact call_meets PySem.F.slot_str_split (typeIs_str _ _ _) PySem.F.entry_str_split (PySem.F.args_str_split_2 _ _) (meets_str_split_cannot_occur z y t t' g1)
      (fin [(z, t)] s.toks (if_pos g1).symm (by show 1 ≤ sizeLine; decide))
end
end L2
namespace L2
open PySem PySem.Spec PyProof.Rows
section
variable {X : Cx} {pins : List (Addr × Obj)} {σ : St} {H : Hp} {s : Shared} {h' : Heap}
theorem Inv.moved {t' : Nat} {fp : List Addr} (I : Inv X pins σ H s) (hf : ∀ b ∈ fp, FpOk X pins H b) (k : ∀ b o, b ∉ fp → s.heap.get? b = some o → h'.get? b = some o) : Inv X pins σ H { s with heap := h', toks := t' } := by
  have nit : ∀ b u, H b = some u → b ∉ fp := fun b u e z => by rw [(hf b z).1] at e; cases e
  refine I.step (g' := s.gens) (d' := s.drawn) (ch := fp) (fun b hb => ⟨(hf b hb).2.2.2.1, (hf b hb).2.1, (hf b hb).2.2.2.2.1, (hf b hb).2.2.2.2.2⟩) (fun b o _ _ hc e _ => k b o hc e) (fun b o _ _ hc e _ => ⟨o.slots, k b o hc e⟩) (fun _ _ _ _ n => n)
    (fun b o hc e => ⟨o, k b o hc e⟩) (fun _ _ e => e) (fun _ _ _ e => e) (fun b ps e => ⟨#[], by rw [e]; simp⟩) (fun m hm => ?_) (fun b u e => ?_) I.bare
  · obtain ⟨o, es, ep, ho, r⟩ := hm
    exact ⟨o, es, ep, k _ o (fun z => (hf _ z).2.1 rfl) ho, r⟩
  · refine (I.hok b u e).stay (fun c v hc q => k c v ?_ q) (fun _ q => q) fun _ _ q => q
    rcases hc with z | z
    · rw [z]; exact nit b u e
    · exact nit c _ z
theorem Inv.movedT {t' : Nat} {fp : List Addr} {ys : List V} {its : List Value} (I : Inv X pins σ H s) (hf : ∀ b ∈ fp, FpOk X pins H b) (k : ∀ b o, b ∉ fp → s.heap.get? b = some o → h'.get? b = some o)
    (new : IsTup h' s.heap.objs.size its.toArray) (rv : Vals ys its) (hz : ys.length ≤ sizeLine) : Inv X pins σ (upd H s.heap.objs.size (.tup ys)) { s with heap := h', toks := t' } := by
  have hn := I.fresh
  have nit : ∀ b u, H b = some u → b ∉ fp := fun b u e z => by rw [(hf b z).1] at e; cases e
  have lt : ∀ b o, s.heap.get? b = some o → b ≠ s.heap.objs.size := fun b o e => Nat.ne_of_lt (Heap.lt_size e)
  refine I.step (g' := s.gens) (d' := s.drawn) (ch := fp) (fun b hb => ⟨(hf b hb).2.2.2.1, (hf b hb).2.1, (hf b hb).2.2.2.2.1, (hf b hb).2.2.2.2.2⟩) (fun b o _ _ hc e _ => k b o hc e) (fun b o _ _ hc e _ => ⟨o.slots, k b o hc e⟩) (fun b o _ e n => by rw [upd_ne (lt b o e)]; exact n)
    (fun b o hc e => ⟨o, k b o hc e⟩) (fun b xs e => by rw [upd_ne (ne_of_none e hn)]; exact e) (fun b o u e => by rw [upd_ne (ne_of_none e hn)]; exact e) (fun b ps e => ⟨#[], by rw [upd_ne (ne_of_none e hn), e]; simp⟩) (fun m hm => ?_) (fun b u e => ?_) I.bare
  · obtain ⟨o, es, ep, ho, r⟩ := hm
    exact ⟨o, es, ep, k _ o (fun z => (hf _ z).2.1 rfl) ho, r⟩
  · by_cases hb : b = s.heap.objs.size
    · subst hb
      rw [upd_same] at e
      cases e
      exact ⟨hz, its, rv, new⟩
    · rw [upd_ne hb] at e
      refine (I.hok b u e).stay (fun c v hc q => k c v ?_ q) (fun c q => by rw [upd_ne (ne_of_none q hn)]; exact q) fun c xs q => by rw [upd_ne (ne_of_none q hn)]; exact q
      rcases hc with z | z
      · rw [z]; exact nit b u e
      · exact nit c _ z
end
section
variable {X : Cx}
end
end L2
namespace L2
open PySem PySem.Spec PyProof.Rows
section
variable {X : Cx}
end
end L2
namespace L2
open PySem PySem.Spec PyProof.Rows
section
variable {X : Cx}
set_option maxHeartbeats 1000000 in
theorem lc_core {elt tg iter : Expr} {ifs : List Expr} {scope : Scope} {pos : Pos} {wi : TI} {g : TG} {tt : TT} {te : TE} (T capN : List Str) (caps : List Nat) (hc : X.calm = true) (hi : PI X tg iter wi)
    (hk : scope.kind = .function) (ho : lcOk X.N X.env.kindOf scope T capN caps = true)
    (hg : ∀ s₀ H₀ C cl fp, PG (lcx X (T ++ capN) scope cl C s₀ H₀ fp) tg g)
    (ht : ∀ s₀ H₀ C cl fp, PIfs (lcx X (T ++ capN) scope cl C s₀ H₀ fp) ifs tt)
    (he : ∀ s₀ H₀ C cl fp, PE (lcx X (T ++ capN) scope cl C s₀ H₀ fp) elt te)
    (hs : ∀ x, foldedSetIterable iter X.env x = pure x := by intro _; rfl)
    {use : Option (Value → Sem Unit)} {Qs : Value → Shared → Prop} {pins : List (Addr × Obj)} {s : Shared} {σ : St} {H : Hp} {Q : VK} (I : Inv X pins σ H s) (h : tLC T caps wi g tt te σ H Q)
    (fin : ∀ (C D : Addr) (s6 : Shared) (H5 : Hp), Inv X pins σ H5 s6 → Q (.ref D) H5 → FpOk X pins H5 C → (∃ m, s6.heap.Ns C m) → compPost (model X.prog X.w) X.A X.xe use Qs (.ref D) C (.ok .next) s6) :
    wpAny (model X.prog X.w) X.A (comprehension (.ListComp elt [⟨tg, iter, ifs, 0⟩] scope pos) scope X.env (firstIterPos [⟨tg, iter, ifs, 0⟩] pos) (newList []) (firstAsync [⟨tg, iter, ifs, 0⟩]) (firstIter [⟨tg, iter, ifs, 0⟩] X.env) use) Qs X.xe s := by
  have O := lcOk_of ho
  have hfree : ∀ p ∈ scope.names, p.2 = .free → ∃ c, X.env.cells.lookup p.1 = some c := fun p hp e => I.ok.has p.1 (.inl (O.free p hp e))
  obtain ⟨cl, hclos, cl1, cl2⟩ := closureFor_ok hfree
  refine wpAny_comprehension_free (use := use) rfl hs hclos hk O.loc (thn (hi pins s σ H _ I h) fun v s1 h1 => thn h1 fun itv s2 h2 => ?_)
  obtain ⟨it, fp, tn, J, H2, rfl, I2, TT', st2, f2, hD⟩ := h2
  refine wpAny_newObj_type ?_
  have I3 : Inv X pins σ (upd H2 s2.heap.objs.size (.lst [])) { s2 with heap := s2.heap.push { cls := .type "list", data := .seq ([] : List Value).toArray } } := I2.lnew (t' := s2.toks) (its := []) (ys := []) .nil (Nat.zero_le _)
  have fD : H2 s2.heap.objs.size = none := I2.fresh
  obtain ⟨W, ⟨m0, w0⟩, turn⟩ := hD s2.heap.objs.size fD
  generalize hDd : s2.heap.objs.size = D at I3 fD w0 turn ⊢
  have st3 : tn 0 (s2.heap.push { cls := .type "list", data := .seq ([] : List Value).toArray }) := TT'.keep _ _ _ st2 fun b _ o e => Heap.get?_push_of_some _ e
  have hfpD : ∀ b ∈ fp, b < D := fun b hb => by
    obtain ⟨o, e, _⟩ := TT'.obj _ _ st2 b hb
    rw [← hDd]; exact Heap.lt_size e
  generalize hs3 : ({ s2 with heap := s2.heap.push { cls := .type "list", data := .seq ([] : List Value).toArray } } : Shared) = s3 at I3 ⊢
  have st3' : tn 0 s3.heap := by rw [← hs3]; exact st3
  generalize hH3 : upd H2 D (.lst []) = H3 at I3 w0
  have f3 : ∀ b ∈ fp, FpOk X pins H3 b := fun b hb => by
    obtain ⟨z0, z⟩ := f2 b hb
    exact ⟨by rw [← hH3, upd_ne (Nat.ne_of_lt (hfpD b hb))]; exact z0, z⟩
  refine wpAny_newFunctionEnv O.nocell (by intro y hy; simp at hy) (fun h₁ hns₁ hsb₁ => ?_) hk
  have hCn : H3 s3.heap.objs.size = none := I3.fresh
  have old : ∀ b o, s3.heap.get? b = some o → h₁.get? b = some o := fun b o e => hsb₁.extBut b o (Nat.ne_of_lt (Heap.lt_size e)) (Heap.get?_push_of_some _ e)
  generalize hC : s3.heap.objs.size = C at hns₁ hsb₁ hCn ⊢
  have hltC : ∀ b o, s3.heap.get? b = some o → b ≠ C := fun b o e => by rw [← hC]; exact Nat.ne_of_lt (Heap.lt_size e)
  have fpC : ∀ b ∈ fp, b ≠ C := fun b hb => by
    obtain ⟨o, e, _⟩ := TT'.obj _ _ st3' b hb
    exact hltC b o e
  have fpS : ∀ b ∈ fp, b ∉ frs X.stack := fun b hb z => by
    rcases List.mem_cons.mp (I3.stkSub b z) with q | q
    · exact (f3 b hb).2.1 q
    · exact (f3 b hb).2.2.1 q
  have fpCl : ∀ b ∈ fp, ∀ x c, cl.lookup x = some c → c ≠ b := fun b hb x c e => (f3 b hb).2.2.2.2.1 x c (cl1 x c e)
  have hXok : (lcx X (T ++ capN) scope cl C s3 H3 fp).Ok := by
    refine ⟨I3.ok.mod, hk, I3.ok.glob, I3.ok.blt, Nat.le_of_eq hC, fun x y c e1 e2 => I3.ok.inj x y c (cl1 x c e1) (cl1 y c e2), fun x hx => ?_, fun x c e1 e2 => ?_, I3.ok.hd, I3.ok.frames, .inl rfl, fun b hb => ⟨fpC b hb, fun x c e => fpCl b hb x c e⟩,
      fun b o e => I3.bs b o e, ?_, fun b o e z => ?_, fun b hb => fpS b hb, I3.stack, I3.stkFree⟩
    · have hx' : (relabel scope X.env).names.lookup x = some .cell ∨ (relabel scope X.env).names.lookup x = some .free := hx
      have hf : scope.names.lookup x = some .free := by
        rcases hx' with q | q
        · exact relabel_inv q (.inl rfl) O.nocell
        · exact relabel_inv q (.inr rfl) O.nocell
      exact Option.isSome_iff_exists.mp (cl2 x (PySem.mem_of_lookup hf))
    · have e1 : (cl.lookup x).isNone = true := e1
      have e2 : cl.lookup x = some c := e2
      rw [e2] at e1; cases e1
    · exact Nat.le_trans I3.ok.bsz I3.sz
    · obtain ⟨z0, z1, z2, z3, _⟩ := f3 b z
      rcases z3 with q | q
      · exact I3.ok.noex b o e q
      · exact absurd (Nat.lt_of_lt_of_le (Heap.lt_size e) (Nat.le_trans I3.ok.bsz q)) (Nat.lt_irrefl _)
  have I4 : Inv (lcx X (T ++ capN) scope cl C s3 H3 fp) [] (lcs T caps σ) H3 { s3 with heap := h₁, toks := s3.toks + ([] : List (Str × Value)).length } := by
    refine ⟨hXok, rfl, I3.bare, Un.kept old, ⟨_, hns₁, fun i x v e1 e2 e3 => ?_⟩, fun x c e => ?_, hCn, fun x c e => I3.freeC x c (cl1 x c e), fun p hp => absurd (show p ∈ ([] : List (Addr × Obj)) from hp) (by simp), I3.hok.kept old, ?_⟩
    · have e1 : (T ++ capN)[i]? = some x := e1
      unfold lcs at e2
      by_cases hi : i < T.length
      · rw [List.getElem?_append_left (by simpa using hi), List.getElem?_map] at e2
        cases q : T[i]? with
        | none => rw [q] at e2; cases e2
        | some z => rw [q] at e2; cases e2
      · rw [List.getElem?_append_right (by omega)] at e1
        rw [List.getElem?_append_right (by simpa using hi), List.getElem?_map, List.length_map] at e2
        obtain ⟨k, k1, k2, k3⟩ := O.cap _ x e1
        rw [k1] at e2
        have e2 : (σ[k]?).join = some v := Option.some.inj e2
        have e2' : σ[k]? = some (some v) := by
          cases q : σ[k]? with
          | none => rw [q] at e2; cases e2
          | some z => rw [q] at e2; exact congrArg some e2
        have hcell : X.env.kindOf x = some .cell := O.free (x, .free) (PySem.mem_of_lookup k3) rfl
        obtain ⟨m, hn, hl⟩ := I3.loc
        obtain ⟨u, r, l⟩ := hl k x v k2 e2' (.inr (.inl hcell))
        refine ⟨u, r, .inr ⟨?_, ?_⟩⟩
        · obtain ⟨k', e5, e6⟩ := relabel_lookup (env := X.env) k3
          rcases e6 with z | ⟨_, z⟩
          · subst z; exact .inr e5
          · subst z; exact .inl e5
        · rcases l with ⟨l1, _⟩ | ⟨_, c, e7, o, ho1, ho2⟩
          · rw [hcell] at l1; cases l1
          · obtain ⟨c', e8⟩ := Option.isSome_iff_exists.mp (cl2 x (PySem.mem_of_lookup k3))
            have := cl1 x c' e8
            rw [e7] at this
            cases this
            exact ⟨c, e8, o, old c o ho1, ho2⟩
    · obtain ⟨v, o, ho1, ho2⟩ := I3.cell x c (cl1 x c e)
      exact ⟨v, o, old c o ho1, ho2⟩
    · show (lcs T caps σ).length = (T ++ capN).length
      unfold lcs
      rw [List.length_append, List.length_append, List.length_map, List.length_map, O.len]
  have fpX : ∀ {H' : Hp}, (∀ b ∈ fp, H' b = none) → ∀ b ∈ fp, FpOk (lcx X (T ++ capN) scope cl C s3 H3 fp) [] H' b := fun hn b hb =>
    ⟨hn b hb, fpC b hb, fpS b hb, .inl hb, fun x c e => fpCl b hb x c e, fun p hp => absurd (show p ∈ ([] : List (Addr × Obj)) from hp) (by simp)⟩
  have st4 : tn 0 h₁ := TT'.keep _ _ _ st3' fun b _ o e => old b o e
  have w0' : W 0 m0 [] (lcs T caps σ) H3 := w0
  have loop : codeAny (model X.prog X.w) X.A (.compLoop (.ListComp elt [⟨tg, iter, ifs, 0⟩] scope pos) 0 (.ref it) (.ref D) (compEnvC scope cl C X.env))
      (compPost (model X.prog X.w) X.A X.xe use Qs (.ref D) C) { s3 with heap := h₁, toks := s3.toks + ([] : List (Str × Value)).length } := by
    refine codeAny_compLoop_go (fun n s' => ∃ i ys σ' H', Inv (lcx X (T ++ capN) scope cl C s3 H3 fp) [] σ' H' s' ∧ tn i s'.heap ∧ (∀ b ∈ fp, H' b = none) ∧ W i n ys σ' H') ?_ m0 ⟨0, [], lcs T caps σ, H3, I4, st4, fun b hb => (f3 b hb).1, w0'⟩
    rintro n s5 ⟨i, ys, σ5, H5, I5, st5, fr5, w5⟩
    rcases turn i n ys σ5 H5 w5 with ⟨stop, qn⟩ | ⟨go, N, F, hN, hF, step⟩
    · refine thn (TT'.done (lcx X (T ++ capN) scope cl C s3 H3 fp) rfl rfl rfl hc i [] s5 σ5 H5 _ I5 (fpX fr5) st5 stop) fun r s6 ⟨hr, I6⟩ => ?_
      subst hr
      obtain ⟨m6, hn6, _⟩ := I6.loc
      have hfC : H5 C = none := I6.free
      have ub := I6.base
      have hstat := I3.fpOk (Nat.le_of_eq hC) hCn
      refine fin C D s6 H5 (Inv.call' (s' := s6) (ch := fp) I3 I6.os ?_ I6.hok I6.bare (fun b hb => ⟨(f3 b hb).2.2.2.1, (f3 b hb).2.1, (f3 b hb).2.2.2.2.1, (f3 b hb).2.2.2.2.2⟩)) qn ⟨hfC, hstat.2⟩ ⟨m6, hn6⟩
      exact ⟨fun b o q n hb hx => ub.keep b o q n hb hx,
        fun b o q n hb hx => ub.slot b o q n hb hx, ub.free, fun b o q hx => ub.there b o q hx, ub.tups, ub.frzs, ub.tbls⟩
    · refine thn (TT'.item (lcx X (T ++ capN) scope cl C s3 H3 fp) rfl rfl rfl hc i [] s5 σ5 H5 _ I5 (fpX fr5) st5 go) fun r s6 ⟨u, hr, h6⟩ => ?_
      subst hr
      refine thn h6 fun _ s7 ⟨x, H7, I7, r7, y7, st7, fr7⟩ => ?_
      have I7' := I7.pinned (fpX fr7) (TT'.obj _ _ st7)
      have keepT : ∀ {σ8 : St} {H8 : Hp} {s8 : Shared}, Inv (lcx X (T ++ capN) scope cl C s3 H3 fp) ([] ++ pinsAt fp s7.heap) σ8 H8 s8 → tn (i + 1) s8.heap ∧ (∀ b ∈ fp, H8 b = none) := fun {σ8 H8 s8} I8 => by
        refine ⟨TT'.keep _ _ _ st7 fun b hb o e => (I8.pin (b, o) (List.mem_append_right _ (List.mem_append_right _ (mem_pinsAt hb e)))).1, fun b hb => ?_⟩
        obtain ⟨o, e, d⟩ := TT'.obj _ _ st7 b hb
        exact (I8.pin (b, o) (List.mem_append_right _ (List.mem_append_right _ (mem_pinsAt hb e)))).2.1
      refine thn (hg s3 H3 C cl fp _ s7 σ5 H7 x u _ I7' r7 (step x H7 y7)) fun _ s8 ⟨σ8, H8, I8, q8⟩ => ?_
      refine thn (ht s3 H3 C cl fp _ s8 σ8 H8 _ I8 q8) fun ok s9 ⟨H9, I9, q9⟩ => ?_
      cases ok with
      | false =>
        rw [if_neg (by simp)] at q9
        rw [if_neg (by simp)]
        obtain ⟨m', hm, w9⟩ := hF _ _ q9
        exact ⟨m', hm, i + 1, ys, σ8, H9, I9.unpinned, (keepT I9).1, (keepT I9).2, w9⟩
      | true =>
        rw [if_pos rfl] at q9
        rw [if_pos rfl]
        refine thn (he s3 H3 C cl fp _ s9 σ8 H9 _ I9 q9) fun vv s10 ⟨v, H10, I10, r10, n10⟩ => ?_
        obtain ⟨a10, z10, m', hm, w10⟩ := hN _ _ _ n10
        refine thn (mt_append (X := lcx X (T ++ capN) scope cl C s3 H3 fp) _ s10 σ8 H10 (.ref D) [v] (.ref D) [vv] (fun _ H11 => W (i + 1) m' (ys ++ [v]) σ8 H11) I10 rfl (.cons r10 .nil) ⟨D, ys, v, rfl, rfl, a10, z10, w10⟩) fun _ s11 ⟨_, H11, I11, _, w11⟩ => ?_
        exact ⟨m', hm, i + 1, ys ++ [v], σ8, H11, I11.unpinned, (keepT I11).1, (keepT I11).2, w11⟩
  exact codeAny_compStart_list loop (TT'.self _ 0 _ _ _ st4 loop)
theorem ps_setLC {i : Nat} {x : Str} {pos' spos : Pos} {elt tg iter : Expr} {ifs : List Expr} {scope : Scope} {pos : Pos} {wi : TI} {g : TG} {tt : TT} {te : TE} (T capN : List Str) (caps : List Nat) (hN : X.N.Nodup) (hi' : X.N[i]? = some x) (hx : Loc X.env.scope x)
    (hc : X.calm = true) (hi : PI X tg iter wi) (hk : scope.kind = .function) (ho : lcOk X.N X.env.kindOf scope T capN caps = true)
    (hg : ∀ s₀ H₀ C cl fp, PG (lcx X (T ++ capN) scope cl C s₀ H₀ fp) tg g)
    (ht : ∀ s₀ H₀ C cl fp, PIfs (lcx X (T ++ capN) scope cl C s₀ H₀ fp) ifs tt)
    (he : ∀ s₀ H₀ C cl fp, PE (lcx X (T ++ capN) scope cl C s₀ H₀ fp) elt te)
    (hsw : swapsWith (.ListComp elt [⟨tg, iter, ifs, 0⟩] scope pos) (some (.Name x pos')) spos.line X.env = pure true := by rfl)
    (hs : ∀ x, foldedSetIterable iter X.env x = pure x := by intro _; rfl)
    (hf : X.fn x = true ∨ X.env.scope.names.lookup x = some .local := by first | exact .inl rfl | exact .inr rfl | assumption) :
    PS X (.Assign [.Name x pos'] (.ListComp elt [⟨tg, iter, ifs, 0⟩] scope pos) spos) (tAsg (tLC T caps wi g tt te) (gName i)) := by
  intro pins s σ H D I h
  rw [exec_Assign_Name_used _ _ _ _ hsw]
  refine wpAny_bind (wpAny_standAt (wpAny_bind ?_))
  show wpAny _ _ (comprehension _ _ _ _ _ _ _ _ >>= fun _ => pure ()) _ _ _
  refine wpAny_bind (lc_core T capN caps hc hi hk ho hg ht he hs I h fun C D0 s6 H5 I6 q fp ⟨m, hn⟩ => ?_)
  show wpAny _ _ (assign (.Name x pos') X.env (.ref D0)) _ _ _
  refine wpAny_assign_Name (store_ok2 I6 hN hi' hx (v := .ref D0) rfl (fun s' I' hsb => ?_) hf)
  obtain ⟨a, sb, ha⟩ := hsb
  have hCa : C ≠ a := by
    rcases ha with z | z
    · rw [z]; exact fp.2.1
    · exact (fp.2.2.2.2.1 x a z).symm
  refine ⟨m, hn.sameBut sb hCa, fun h' sb' => wpAny_pure (wpAny_pure ⟨_, H5, I'.moved (t' := s'.toks) (fp := [C]) (fun b hb => ?_) (fun b o hb e => ?_), q⟩)⟩
  · rw [List.mem_singleton.mp hb]; exact fp
  · exact sb'.extBut b o (fun z => hb (List.mem_singleton.mpr z)) e
end
end L2
namespace L2
open PySem PySem.Spec PyProof.Rows
end L2
namespace L2
open PySem PySem.Spec PyProof.Rows
section
variable {X : Cx}
end
end L2
namespace L2
open PySem PySem.Spec PyProof.Rows
inductive D where
  | non | bl (b : Bool) | int (i : Int) | str (x : Str) | raw (v : V)
  | tup (xs : List D) | lst (xs : List D)
  | dK (kvs : List (Key × D)) | dT (kvs : List (List Key × D))
  | scr (xs : List D)
  | con (xs : List D)
noncomputable def SqC (K : PySem.W.Frag) (a : Addr) (xs : List V) : Prop := ∃ (o : Obj) (its : Array Value) (n : Nat), K.lookup a = some o ∧ o.cls = .type "tuple" ∧ o.data = .seq its n ∧ its.size ≤ sizeLine ∧ Vals xs its.toList
theorem SqC.sqT {K : PySem.W.Frag} {H : Hp} {a : Addr} {xs : List V} (h : SqC K a xs) : SqT K H a xs := .inr h
noncomputable def SqF (K : PySem.W.Frag) (H : Hp) (a : Addr) (xs : List V) : Prop := (∃ o, H a = some (.frz o (.lst xs))) ∨
  ∃ (o : Obj) (its : Array Value) (n : Nat), K.lookup a = some o ∧ o.cls = .type "list" ∧ o.dict = none ∧ o.data = .seq its n ∧ its.size ≤ sizeLine ∧ Vals xs its.toList
theorem SqF.sqL {K : PySem.W.Frag} {H : Hp} {a : Addr} {xs : List V} (h : SqF K H a xs) : SqL K H a xs := h.elim (fun h => .inl (.inr h)) .inr
mutual
inductive Rep (K : PySem.W.Frag) (A : Addr → Prop) (H : Hp) : D → V → Prop where
  | non : Rep K A H .non .non
  | bl (b : Bool) : Rep K A H (.bl b) (.bl b)
  | int (i : Int) : Rep K A H (.int i) (.int i)
  | str (x : Str) : Rep K A H (.str x) (.str x)
  | raw (v : V) : Rep K A H (.raw v) v
  | tup {a : Addr} {vs : List V} {ds : List D} : H a = some (.tup vs) → Reps K A H ds vs → Rep K A H (.tup ds) (.ref a)
  | con {a : Addr} {vs : List V} {ds : List D} : SqC K a vs → Reps K A H ds vs → Rep K A H (.con ds) (.ref a)
  | lst {a : Addr} {vs : List V} {ds : List D} : A a → H a = some (.lst vs) → Reps K A H ds vs → Rep K A H (.lst ds) (.ref a)
  | scr {a : Addr} {vs : List V} {ds : List D} : SqF K H a vs → Reps K A H ds vs → Rep K A H (.scr ds) (.ref a)
  | dK {a : Addr} {kvs : List (Key × V)} {ds : List (Key × D)} : A a → H a = some (.dK kvs) → ds.map (·.1) = kvs.map (·.1) → Reps K A H (ds.map (·.2)) (kvs.map (·.2)) → Rep K A H (.dK ds) (.ref a)
  | dT {a : Addr} {kvs : List (List Key × V)} {ds : List (List Key × D)} : A a → H a = some (.dT kvs) → ds.map (·.1) = kvs.map (·.1) → Reps K A H (ds.map (·.2)) (kvs.map (·.2)) → Rep K A H (.dT ds) (.ref a)
inductive Reps (K : PySem.W.Frag) (A : Addr → Prop) (H : Hp) : List D → List V → Prop where
  | nil : Reps K A H [] []
  | cons {d : D} {v : V} {ds : List D} {vs : List V} : Rep K A H d v → Reps K A H ds vs → Reps K A H (d :: ds) (v :: vs)
end
noncomputable def tupO : HO → Bool
  | .tup _ => true
  | .frz _ _ => true
  | _ => false
noncomputable def Kp (A A' : Addr → Prop) (H H' : Hp) : Prop := (∀ a o, A a → H a = some o → A' a ∧ H' a = some o) ∧ ∀ a o, tupO o = true → H a = some o → H' a = some o
section
variable {K : PySem.W.Frag} {A A' : Addr → Prop} {H H' : Hp}
theorem Kp.sqF (k : Kp A A' H H') {a : Addr} {vs : List V} (h : SqF K H a vs) : SqF K H' a vs := by
  rcases h with ⟨o, h⟩ | h
  · exact .inl ⟨o, k.2 _ _ rfl h⟩
  · exact .inr h
mutual
theorem Rep.mono (k : Kp A A' H H') : ∀ {d : D} {v : V}, Rep K A H d v → Rep K A' H' d v
  | _, _, .non => .non
  | _, _, .bl b => .bl b
  | _, _, .int i => .int i
  | _, _, .str x => .str x
  | _, _, .raw v => .raw v
  | _, _, .tup h r => .tup (k.2 _ _ rfl h) (Reps.mono k r)
  | _, _, .con h r => .con h (Reps.mono k r)
  | _, _, .lst ha h r => .lst (k.1 _ _ ha h).1 (k.1 _ _ ha h).2 (Reps.mono k r)
  | _, _, .scr h r => .scr (k.sqF h) (Reps.mono k r)
  | _, _, .dK ha h e r => .dK (k.1 _ _ ha h).1 (k.1 _ _ ha h).2 e (Reps.mono k r)
  | _, _, .dT ha h e r => .dT (k.1 _ _ ha h).1 (k.1 _ _ ha h).2 e (Reps.mono k r)
theorem Reps.mono (k : Kp A A' H H') : ∀ {ds : List D} {vs : List V}, Reps K A H ds vs → Reps K A' H' ds vs
  | _, _, .nil => .nil
  | _, _, .cons h r => .cons (Rep.mono k h) (Reps.mono k r)
end
theorem Kp.all (h : ∀ a, A a → A' a) : Kp A A' H H := ⟨fun a o ha e => ⟨h a ha, e⟩, fun _ _ _ e => e⟩
theorem Kp.trans {A'' : Addr → Prop} {H'' : Hp} (a : Kp A A' H H') (b : Kp A' A'' H' H'') : Kp A A'' H H'' := ⟨fun x o hx e => let ⟨p, q⟩ := a.1 x o hx e; b.1 x o p q, fun x o t e => b.2 x o t (a.2 x o t e)⟩
theorem Kp.laid {p : Addr} {o : HO} (hp : H p = none) (h : ∀ a, A a → a ≠ p → A' a) : Kp A A' H (upd H p o) :=
  ⟨fun a u ha e => ⟨h a ha (ne_of_none e hp), by rw [upd_ne (ne_of_none e hp)]; exact e⟩, fun a u _ e => by rw [upd_ne (ne_of_none e hp)]; exact e⟩
theorem Kp.same (s : Same H H') (h : ∀ a, A a → A' a) : Kp A A' H H' := ⟨fun a o ha e => ⟨h a ha, s a o e⟩, fun a o _ e => s a o e⟩
theorem Kp.write {p : Addr} {o u : HO} (hp : H p = some u) (hu : tupO u = false) (hn : ¬ A p) : Kp A A H (upd H p o) := by
  refine ⟨fun a w ha e => ⟨ha, ?_⟩, fun a w t e => ?_⟩
  · rw [upd_ne (fun z : a = p => hn (by rw [← z]; exact ha))]; exact e
  · rw [upd_ne (fun z => ?_)]
    · exact e
    · subst z; rw [hp] at e; cases e; rw [t] at hu; cases hu
theorem Reps.length : ∀ {ds : List D} {vs : List V}, Reps K A H ds vs → ds.length = vs.length
  | _, _, .nil => rfl
  | _, _, .cons _ r => by rw [List.length_cons, List.length_cons, r.length]
theorem Reps.get : ∀ {ds : List D} {vs : List V} {i : Nat} {d : D}, Reps K A H ds vs → ds[i]? = some d → ∃ v, vs[i]? = some v ∧ Rep K A H d v
  | _, _, 0, _, .cons h _, e => by simp at e; subst e; exact ⟨_, rfl, h⟩
  | _, _, i + 1, d, .cons _ r, e => by
    obtain ⟨v, h1, h2⟩ := Reps.get (i := i) (d := d) r (by simpa using e)
    exact ⟨v, by simpa using h1, h2⟩
theorem Reps.getV : ∀ {ds : List D} {vs : List V} {i : Nat} {v : V}, Reps K A H ds vs → vs[i]? = some v → ∃ d, ds[i]? = some d ∧ Rep K A H d v
  | _, _, 0, _, .cons h _, e => by simp at e; subst e; exact ⟨_, rfl, h⟩
  | _, _, i + 1, v, .cons _ r, e => by
    obtain ⟨d, h1, h2⟩ := Reps.getV (i := i) (v := v) r (by simpa using e)
    exact ⟨d, by simpa using h1, h2⟩
theorem Reps.append : ∀ {ds es : List D} {vs us : List V}, Reps K A H ds vs → Reps K A H es us → Reps K A H (ds ++ es) (vs ++ us)
  | _, _, _, _, .nil, s => s
  | _, _, _, _, .cons h r, s => .cons h (Reps.append r s)
theorem Reps.take : ∀ {ds : List D} {vs : List V} (n : Nat), Reps K A H ds vs → Reps K A H (ds.take n) (vs.take n)
  | _, _, 0, _ => by rw [List.take_zero, List.take_zero]; exact .nil
  | _, _, n + 1, .nil => .nil
  | _, _, n + 1, .cons h r => .cons h (Reps.take n r)
theorem Reps.drop : ∀ {ds : List D} {vs : List V} (n : Nat), Reps K A H ds vs → Reps K A H (ds.drop n) (vs.drop n)
  | _, _, 0, h => h
  | _, _, n + 1, .nil => .nil
  | _, _, n + 1, .cons h r => Reps.drop n r
theorem Reps.set {d : D} {v : V} (h : Rep K A H d v) : ∀ {ds : List D} {vs : List V} (i : Nat), Reps K A H ds vs → Reps K A H (ds.set i d) (vs.set i v)
  | _, _, _, .nil => .nil
  | _, _, 0, .cons _ r => .cons h r
  | _, _, i + 1, .cons g r => .cons g (Reps.set h i r)
theorem Reps.erase : ∀ {ds : List D} {vs : List V} (i : Nat), Reps K A H ds vs → Reps K A H (ds.eraseIdx i) (vs.eraseIdx i)
  | _, _, _, .nil => .nil
  | _, _, 0, .cons _ r => r
  | _, _, i + 1, .cons g r => .cons g (Reps.erase i r)
theorem Reps.nil_iff {ds : List D} {vs : List V} (h : Reps K A H ds vs) : vs = [] ↔ ds = [] := by
  cases h <;> simp
theorem Rep.int_inv {i : Int} {v : V} (h : Rep K A H (.int i) v) : v = .int i := by cases h; rfl
theorem Rep.str_inv {i : Str} {v : V} (h : Rep K A H (.str i) v) : v = .str i := by cases h; rfl
theorem Rep.bl_inv {i : Bool} {v : V} (h : Rep K A H (.bl i) v) : v = .bl i := by cases h; rfl
theorem Rep.non_inv {v : V} (h : Rep K A H .non v) : v = .non := by cases h; rfl
theorem Rep.raw_inv {u v : V} (h : Rep K A H (.raw u) v) : v = u := by cases h; rfl
theorem Rep.tup_inv {ds : List D} {v : V} (h : Rep K A H (.tup ds) v) : ∃ a vs, v = .ref a ∧ H a = some (.tup vs) ∧ Reps K A H ds vs := by
  cases h with | tup h r => exact ⟨_, _, rfl, h, r⟩
theorem Rep.lst_inv {ds : List D} {v : V} (h : Rep K A H (.lst ds) v) : ∃ a vs, v = .ref a ∧ A a ∧ H a = some (.lst vs) ∧ Reps K A H ds vs := by
  cases h with | lst ha h r => exact ⟨_, _, rfl, ha, h, r⟩
theorem Rep.con_inv {ds : List D} {v : V} (h : Rep K A H (.con ds) v) : ∃ a vs, v = .ref a ∧ SqC K a vs ∧ Reps K A H ds vs := by
  cases h with | con h r => exact ⟨_, _, rfl, h, r⟩
theorem Rep.scr_inv {ds : List D} {v : V} (h : Rep K A H (.scr ds) v) : ∃ a vs, v = .ref a ∧ SqF K H a vs ∧ Reps K A H ds vs := by
  cases h with | scr h r => exact ⟨_, _, rfl, h, r⟩
end
mutual
noncomputable def imm : D → Bool
  | .tup xs => immL xs
  | .scr xs => immL xs
  | .con xs => immL xs
  | .lst _ => false
  | .dK _ => false
  | .dT _ => false
  | _ => true
noncomputable def immL : List D → Bool
  | [] => true
  | d :: ds => imm d && immL ds
end
section
variable {K : PySem.W.Frag} {A A' : Addr → Prop} {H : Hp}
mutual
theorem Rep.imm : ∀ {d : D} {v : V}, Rep K A H d v → imm d = true → Rep K A' H d v
  | _, _, .non, _ => .non
  | _, _, .bl b, _ => .bl b
  | _, _, .int i, _ => .int i
  | _, _, .str x, _ => .str x
  | _, _, .raw v, _ => .raw v
  | _, _, .tup h r, e => .tup h (Reps.imm r (by simpa [L2.imm] using e))
  | _, _, .con h r, e => .con h (Reps.imm r (by simpa [L2.imm] using e))
  | _, _, .scr h r, e => .scr h (Reps.imm r (by simpa [L2.imm] using e))
  | _, _, .lst _ _ _, e => by simp [L2.imm] at e
  | _, _, .dK _ _ _ _, e => by simp [L2.imm] at e
  | _, _, .dT _ _ _ _, e => by simp [L2.imm] at e
theorem Reps.imm : ∀ {ds : List D} {vs : List V}, Reps K A H ds vs → immL ds = true → Reps K A' H ds vs
  | _, _, .nil, _ => .nil
  | _, _, .cons h r, e => by
    rw [immL, Bool.and_eq_true] at e
    exact .cons (Rep.imm h e.1) (Reps.imm r e.2)
end
end
end L2
namespace Lw
open PySem L2
structure DeckAt (H : Hp) (d c : Addr) : Prop where
  ex : ∃ (ns : List Int) (p : Int), H d = some (.lst [.ref c, .int p]) ∧ H c = some (.lst (ns.map V.int)) ∧ 0 < ns.length ∧ ns.length ≤ 100
noncomputable def Keep (d c : Addr) (H H' : Hp) : Prop := ∀ b o, H b = some o → b ≠ d → b ≠ c → H' b = some o
theorem Keep.trans {d c : Addr} {H H1 H2 : Hp} (a : Keep d c H H1) (b : Keep d c H1 H2) : Keep d c H H2 := fun x o e h1 h2 => b x o (a x o e h1 h2) h1 h2
theorem Keep.new {d c p : Addr} {H : Hp} {o : HO} (h : H p = none) : Keep d c H (upd H p o) := fun b u e _ _ => by rw [upd_ne (ne_of_none e h)]; exact e
theorem DeckAt.ne {H : Hp} {d c : Addr} (D : DeckAt H d c) : d ≠ c := by
  obtain ⟨ns, p, h1, h2, h3, _⟩ := D.ex
  intro e
  subst e
  rw [h1] at h2
  injection h2 with h2
  injection h2 with h2
  cases ns with
  | nil => simp at h3
  | cons a r => simp at h2
theorem DeckAt.upd_other {H : Hp} {d c p : Addr} {o : HO} (D : DeckAt H d c) (hd : p ≠ d) (hc : p ≠ c) : DeckAt (upd H p o) d c := by
  obtain ⟨ns, q, h1, h2, h3, h4⟩ := D.ex
  exact ⟨ns, q, by rw [upd_ne hd.symm]; exact h1, by rw [upd_ne hc.symm]; exact h2, h3, h4⟩
theorem DeckAt.ned {H : Hp} {d c p : Addr} (D : DeckAt H d c) (h : H p = none) : p ≠ d ∧ p ≠ c := by
  obtain ⟨ns, q, h1, h2, _⟩ := D.ex
  exact ⟨(ne_of_none h1 h).symm, (ne_of_none h2 h).symm⟩
theorem DeckAt.new {H : Hp} {d c p : Addr} {o : HO} (D : DeckAt H d c) (h : H p = none) : DeckAt (upd H p o) d c := D.upd_other (D.ned h).1 (D.ned h).2
end Lw
namespace L2
open PySem PySem.Spec PyProof.Rows Lw
inductive Sl where
  | no | val (d : D) | own (d : D)
noncomputable abbrev Ents := List (Sl × Option V)
noncomputable def Dk (dk : List Addr) (H : Hp) : Prop := dk = [] ∨ ∃ d c, dk = [d, c] ∧ DeckAt H d c
theorem Dk.some {dk : List Addr} {H : Hp} (h : Dk dk H) {a : Addr} (ha : a ∈ dk) : ∃ xs, H a = some (.lst xs) := by
  rcases h with rfl | ⟨d, c, rfl, h⟩
  · cases ha
  · obtain ⟨ns, p, h1, h2, _⟩ := h.ex
    rcases List.mem_cons.mp ha with rfl | ha
    · exact ⟨_, h1⟩
    · rcases List.mem_cons.mp ha with rfl | ha
      · exact ⟨_, h2⟩
      · cases ha
theorem Dk.keep {dk : List Addr} {H H' : Hp} (h : Dk dk H) (k : ∀ a ∈ dk, H' a = H a) : Dk dk H' := by
  rcases h with rfl | ⟨d, c, rfl, h⟩
  · exact .inl rfl
  · refine .inr ⟨d, c, rfl, ?_⟩
    obtain ⟨ns, p, h1, h2, h3⟩ := h.ex
    exact ⟨ns, p, by rw [k d (by simp)]; exact h1, by rw [k c (by simp)]; exact h2, h3⟩
theorem Dk.upd {dk : List Addr} {H : Hp} (h : Dk dk H) {p : Addr} {o : HO} (hp : p ∉ dk) : Dk dk (upd H p o) := h.keep fun a ha => upd_ne fun z => hp (z ▸ ha)
noncomputable def root1 : Sl × Option V → Option Addr
  | (.own _, some (.ref a)) => some a
  | _ => none
noncomputable def roots (L : Ents) : List Addr := L.filterMap root1
structure Bs where
  dk : List Addr
  A0 : Addr → Prop
  H0 : Hp
noncomputable def Al (B : Bs) (R : List Addr) (a : Addr) : Prop := a ∉ B.dk ∧ a ∉ R ∧ (B.A0 a ∨ B.H0 a = none)
noncomputable def Root (K : PySem.W.Frag) (A : Addr → Prop) (H : Hp) (a : Addr) : D → Prop
  | .lst ds => ∃ vs, H a = some (.lst vs) ∧ Reps K A H ds vs
  | .dK ds => ∃ kvs, H a = some (.dK kvs) ∧ ds.map (·.1) = kvs.map (·.1) ∧ Reps K A H (ds.map (·.2)) (kvs.map (·.2))
  | .dT ds => ∃ kvs, H a = some (.dT kvs) ∧ ds.map (·.1) = kvs.map (·.1) ∧ Reps K A H (ds.map (·.2)) (kvs.map (·.2))
  | _ => False
noncomputable def SlOk (K : PySem.W.Frag) (A : Addr → Prop) (H : Hp) : Sl → Option V → Prop
  | .no, _ => True
  | .val d, x => ∃ v, x = some v ∧ Rep K A H d v
  | .own d, x => ∃ a, x = some (.ref a) ∧ Root K A H a d
structure DS (K : PySem.W.Frag) (B : Bs) (L : Ents) (H : Hp) : Prop where
  fr : ∀ b o, B.H0 b = some o → b ∉ B.dk → H b = some o
  dk : Dk B.dk H
  nd : (roots L).Nodup
  new : ∀ a ∈ roots L, B.H0 a = none ∧ a ∉ B.dk
  ok : ∀ p ∈ L, SlOk K (Al B (roots L)) H p.1 p.2
section
variable {K : PySem.W.Frag} {A A' : Addr → Prop} {B : Bs} {H H' : Hp} {L L1 L2 : Ents} {x : Sl × Option V} {d : D} {v : V} {a : Addr}
theorem Root.mono (k : Kp A A' H H') (ha : ∀ o, H a = some o → H' a = some o) : ∀ {d : D}, Root K A H a d → Root K A' H' a d
  | .lst _, ⟨vs, h, r⟩ => ⟨vs, ha _ h, r.mono k⟩
  | .dK _, ⟨vs, h, e, r⟩ => ⟨vs, ha _ h, e, r.mono k⟩
  | .dT _, ⟨vs, h, e, r⟩ => ⟨vs, ha _ h, e, r.mono k⟩
theorem Root.some : ∀ {d : D}, Root K A H a d → ∃ o, H a = some o ∧ tupO o = false
  | .lst _, ⟨vs, h, r⟩ => ⟨_, h, rfl⟩
  | .dK _, ⟨vs, h, e, r⟩ => ⟨_, h, rfl⟩
  | .dT _, ⟨vs, h, e, r⟩ => ⟨_, h, rfl⟩
theorem Root.rep (hA : ∀ b, A b → A' b) (ha : A' a) : ∀ {d : D}, Root K A H a d → Rep K A' H d (.ref a)
  | .lst _, ⟨vs, h, r⟩ => .lst ha h (r.mono (.all hA))
  | .dK _, ⟨vs, h, e, r⟩ => .dK ha h e (r.mono (.all hA))
  | .dT _, ⟨vs, h, e, r⟩ => .dT ha h e (r.mono (.all hA))
theorem SlOk.mono (k : Kp A A' H H') {s : Sl} {y : Option V} (h : SlOk K A H s y) (hr : ∀ a, root1 (s, y) = some a → ∀ o, H a = some o → H' a = some o) : SlOk K A' H' s y := by
  cases s with
  | no => trivial
  | val d => obtain ⟨v, e, r⟩ := h; exact ⟨v, e, r.mono k⟩
  | own d => obtain ⟨a, rfl, r⟩ := h; exact ⟨a, rfl, r.mono k (hr a rfl)⟩
theorem roots_app : roots (L1 ++ L2) = roots L1 ++ roots L2 := List.filterMap_append
theorem mem_roots : a ∈ roots L ↔ ∃ p ∈ L, root1 p = some a := List.mem_filterMap
theorem root_mid : roots (L1 ++ x :: L2) = roots L1 ++ ((root1 x).toList ++ roots L2) := by
  unfold roots; rw [List.filterMap_append, List.filterMap_cons]
  cases root1 x <;> rfl
theorem DS.live (h : DS K B L H) (ha : a ∈ roots L) : ∃ o, H a = some o ∧ tupO o = false := by
  obtain ⟨p, hp, e⟩ := mem_roots.mp ha
  have := h.ok p hp
  obtain ⟨s, y⟩ := p
  cases s with
  | no => cases e
  | val d => cases e
  | own d =>
    obtain ⟨b, rfl, r⟩ := this
    cases e
    exact r.some
theorem DS.drop (h : DS K B (L1 ++ x :: L2) H) : DS K B (L1 ++ L2) H := by
  have e := root_mid (L1 := L1) (x := x) (L2 := L2)
  have hm : ∀ a, a ∈ roots (L1 ++ L2) → a ∈ roots (L1 ++ x :: L2) := fun a ha => by
    rw [roots_app] at ha; rw [e]; simp only [List.mem_append] at ha ⊢; rcases ha with q | q
    · exact .inl q
    · exact .inr (.inr q)
  refine ⟨h.fr, h.dk, ?_, fun a ha => h.new a (hm a ha), fun p hp => ?_⟩
  · have n := h.nd
    rw [e] at n
    rw [roots_app]
    obtain ⟨n1, n2, n3⟩ := List.nodup_append.mp n
    exact List.nodup_append.mpr ⟨n1, (List.nodup_append.mp n2).2.1, fun a ha b hb => n3 a ha b (List.mem_append_right _ hb)⟩
  · refine (h.ok p (by simp only [List.mem_append, List.mem_cons] at hp ⊢; rcases hp with q | q; exact .inl q; exact .inr (.inr q))).mono (.all fun a z => ⟨z.1, fun q => z.2.1 (hm a q), z.2.2⟩) (fun _ _ _ q => q)
theorem DS.at (h : DS K B (L1 ++ x :: L2) H) : SlOk K (Al B (roots (L1 ++ x :: L2))) H x.1 x.2 := h.ok x (List.mem_append_right _ List.mem_cons_self)
theorem DS.valAt (h : DS K B (L1 ++ (.val d, some v) :: L2) H) : Rep K (Al B (roots (L1 ++ L2))) H d v := by
  obtain ⟨u, e, r⟩ := h.at
  cases e
  have : roots (L1 ++ (Sl.val d, some v) :: L2) = roots (L1 ++ L2) := by rw [root_mid, roots_app]; rfl
  rw [this] at r
  exact r
theorem DS.push (h : DS K B (L1 ++ L2) H) (r : Rep K (Al B (roots (L1 ++ L2))) H d v) : DS K B (L1 ++ (.val d, some v) :: L2) H := by
  have e : roots (L1 ++ (Sl.val d, some v) :: L2) = roots (L1 ++ L2) := by rw [root_mid, roots_app]; rfl
  refine ⟨h.fr, h.dk, by rw [e]; exact h.nd, by rw [e]; exact h.new, fun p hp => ?_⟩
  rw [e]
  simp only [List.mem_append, List.mem_cons] at hp
  rcases hp with q | q | q
  · exact h.ok p (List.mem_append_left _ q)
  · subst q; exact ⟨v, rfl, r⟩
  · exact h.ok p (List.mem_append_right _ q)
theorem DS.pushN (h : DS K B (L1 ++ L2) H) (y : Option V) : DS K B (L1 ++ (.no, y) :: L2) H := by
  have e : roots (L1 ++ (Sl.no, y) :: L2) = roots (L1 ++ L2) := by rw [root_mid, roots_app]; rfl
  refine ⟨h.fr, h.dk, by rw [e]; exact h.nd, by rw [e]; exact h.new, fun p hp => ?_⟩
  rw [e]
  simp only [List.mem_append, List.mem_cons] at hp
  rcases hp with q | q | q
  · exact h.ok p (List.mem_append_left _ q)
  · subst q; trivial
  · exact h.ok p (List.mem_append_right _ q)
theorem DS.grow (h : DS K B L H) (s : Same H H') (dk : Dk B.dk H') : DS K B L H' :=
  ⟨fun b o e n => s b o (h.fr b o e n), dk, h.nd, h.new, fun p hp => (h.ok p hp).mono (.same s fun _ z => z) (fun _ _ o q => s _ o q)⟩
theorem DS.free (h : DS K B L H) (hp : H a = none) : B.H0 a = none ∧ a ∉ B.dk ∧ a ∉ roots L := by
  have n : a ∉ B.dk := fun z => by obtain ⟨xs, e⟩ := h.dk.some z; rw [e] at hp; cases hp
  refine ⟨?_, n, fun z => by obtain ⟨o, e, _⟩ := h.live z; rw [e] at hp; cases hp⟩
  cases e : B.H0 a with
  | none => rfl
  | some o => rw [h.fr a o e n] at hp; cases hp
theorem DS.laid (h : DS K B L H) {o : HO} (hp : H a = none) : DS K B L (upd H a o) :=
  h.grow (fun b u e => by rw [upd_ne (ne_of_none e hp)]; exact e) (h.dk.upd (h.free hp).2.1)
theorem DS.tup (h : DS K B (L1 ++ L2) H) {ds : List D} {vs : List V} (hp : H a = none) (r : Reps K (Al B (roots (L1 ++ L2))) H ds vs) : DS K B (L1 ++ (.val (.tup ds), some (.ref a)) :: L2) (upd H a (.tup vs)) :=
  (h.laid hp).push (.tup upd_same (r.mono (.laid hp fun _ z _ => z)))
theorem DS.make (h : DS K B (L1 ++ L2) H) {o : HO} (hp : H a = none) (r : ∀ A', Kp (Al B (roots (L1 ++ L2))) A' H (upd H a o) → Root K A' (upd H a o) a d) : DS K B (L1 ++ (.own d, some (.ref a)) :: L2) (upd H a o) := by
  obtain ⟨f1, f2, f3⟩ := h.free hp
  have e : roots (L1 ++ (Sl.own d, some (.ref a)) :: L2) = roots L1 ++ a :: roots L2 := root_mid
  have hm : ∀ b, b ∈ roots L1 ++ a :: roots L2 ↔ b = a ∨ b ∈ roots (L1 ++ L2) := fun b => by
    rw [roots_app]; simp only [List.mem_append, List.mem_cons]; constructor
    · rintro (q | q | q)
      · exact .inr (.inl q)
      · exact .inl q
      · exact .inr (.inr q)
    · rintro (q | q | q)
      · exact .inr (.inl q)
      · exact .inl q
      · exact .inr (.inr q)
  have kp : Kp (Al B (roots (L1 ++ L2))) (Al B (roots L1 ++ a :: roots L2)) H (upd H a o) := .laid hp fun b z n => ⟨z.1, fun q => (hm b).mp q |>.elim n z.2.1, z.2.2⟩
  refine ⟨fun b u q n => by rw [upd_ne (ne_of_none (h.fr b u q n) hp)]; exact h.fr b u q n, h.dk.upd f2, ?_, fun b hb => ?_, fun p hp' => ?_⟩
  · rw [e]
    have n := h.nd
    rw [roots_app] at n f3
    obtain ⟨n1, n2, n3⟩ := List.nodup_append.mp n
    refine List.nodup_append.mpr ⟨n1, List.nodup_cons.mpr ⟨fun z => f3 (List.mem_append_right _ z), n2⟩, fun b hb c hc => ?_⟩
    rcases List.mem_cons.mp hc with q | q
    · intro z; subst z; subst q; exact f3 (List.mem_append_left _ hb)
    · exact n3 b hb c q
  · rw [e] at hb
    rcases (hm b).mp hb with q | q
    · subst q; exact ⟨f1, f2⟩
    · exact h.new b q
  · rw [e]
    simp only [List.mem_append, List.mem_cons] at hp'
    have old : ∀ p ∈ L1 ++ L2, SlOk K (Al B (roots L1 ++ a :: roots L2)) (upd H a o) p.1 p.2 := fun p hp' => (h.ok p hp').mono kp fun b hb w q => by rw [upd_ne (ne_of_none q hp)]; exact q
    rcases hp' with q | q | q
    · exact old p (List.mem_append_left _ q)
    · subst q; exact ⟨a, rfl, r _ kp⟩
    · exact old p (List.mem_append_right _ q)
theorem DS.freeze (h : DS K B (L1 ++ (.own d, some v) :: L2) H) : DS K B (L1 ++ (.val d, some v) :: L2) H := by
  obtain ⟨a, e, r⟩ := h.at
  cases e
  have e1 : roots (L1 ++ (Sl.own d, some (V.ref a)) :: L2) = roots L1 ++ a :: roots L2 := root_mid
  have hd := h.drop
  have nw := h.new a (by rw [e1]; simp)
  refine hd.push (r.rep (fun b z => ⟨z.1, fun q => z.2.1 ?_, z.2.2⟩) ⟨nw.2, fun q => ?_, .inr nw.1⟩)
  · rw [e1]; rw [roots_app] at q; simp only [List.mem_append, List.mem_cons] at q ⊢; rcases q with q | q
    · exact .inl q
    · exact .inr (.inr q)
  · have n := h.nd
    rw [e1] at n
    rw [roots_app] at q
    obtain ⟨n1, n2, n3⟩ := List.nodup_append.mp n
    rcases List.mem_append.mp q with q | q
    · exact n3 a q a List.mem_cons_self rfl
    · exact (List.nodup_cons.mp n2).1 q
theorem DS.write (h : DS K B (L1 ++ (.own d, some (.ref a)) :: L2) H) {o : HO} {d' : D} (r : ∀ A', Kp (Al B (roots L1 ++ a :: roots L2)) A' H (upd H a o) → Root K A' (upd H a o) a d') : DS K B (L1 ++ (.own d', some (.ref a)) :: L2) (upd H a o) := by
  have e1 : ∀ d, roots (L1 ++ (Sl.own d, some (V.ref a)) :: L2) = roots L1 ++ a :: roots L2 := fun d => root_mid
  have nw := h.new a (by rw [e1]; simp)
  obtain ⟨u, hu, tu⟩ := h.live (a := a) (by rw [e1]; simp)
  have kp : Kp (Al B (roots L1 ++ a :: roots L2)) (Al B (roots L1 ++ a :: roots L2)) H (upd H a o) := .write hu tu fun z => z.2.1 (by simp)
  have n := h.nd
  rw [e1] at n
  have na : ∀ b, b ∈ roots L1 ∨ b ∈ roots L2 → b ≠ a := fun b hb z => by
    subst z
    obtain ⟨n1, n2, n3⟩ := List.nodup_append.mp n
    rcases hb with hb | hb
    · exact n3 b hb b List.mem_cons_self rfl
    · exact (List.nodup_cons.mp n2).1 hb
  refine ⟨fun b w q m => ?_, h.dk.upd nw.2, by rw [e1]; exact n, fun b hb => h.new b (by rw [e1] at hb ⊢; exact hb), fun p hp' => ?_⟩
  · have : b ≠ a := fun z => by subst z; rw [nw.1] at q; cases q
    rw [upd_ne this]; exact h.fr b w q m
  · rw [e1]
    have old : ∀ p, p ∈ L1 ∨ p ∈ L2 → SlOk K (Al B (roots L1 ++ a :: roots L2)) (upd H a o) p.1 p.2 := fun p hp => by
      have := h.ok p (by simp only [List.mem_append, List.mem_cons]; rcases hp with q | q; exact .inl q; exact .inr (.inr q))
      rw [e1] at this
      refine this.mono kp fun b hb w q => ?_
      rw [upd_ne (na b ?_)]
      · exact q
      · rcases hp with z | z
        · exact .inl (mem_roots.mpr ⟨p, z, hb⟩)
        · exact .inr (mem_roots.mpr ⟨p, z, hb⟩)
    simp only [List.mem_append, List.mem_cons] at hp'
    rcases hp' with q | q | q
    · exact old p (.inl q)
    · subst q; exact ⟨a, rfl, r _ kp⟩
    · exact old p (.inr q)
theorem DS.ownAt (h : DS K B (L1 ++ (.own d, some v) :: L2) H) : ∃ a, v = .ref a ∧ Root K (Al B (roots L1 ++ a :: roots L2)) H a d := by
  obtain ⟨a, e, r⟩ := h.at
  cases e
  rw [show roots (L1 ++ (Sl.own d, some (V.ref a)) :: L2) = roots L1 ++ a :: roots L2 from root_mid] at r
  exact ⟨a, rfl, r⟩
theorem DS.perm (h : DS K B L H) {M : Ents} (p : L.Perm M) : DS K B M H := by
  have e : (roots L).Perm (roots M) := p.filterMap root1
  refine ⟨h.fr, h.dk, e.nodup_iff.mp h.nd, fun a ha => h.new a (e.mem_iff.mpr ha), fun q hq => (h.ok q (p.mem_iff.mpr hq)).mono (.all fun a z => ⟨z.1, fun w => z.2.1 (e.mem_iff.mpr w), z.2.2⟩) fun _ _ _ w => w⟩
end
section
theorem zip_at {ρ : List Sl} {σ : St} (hl : ρ.length = σ.length) {i : Nat} {s : Sl} (h : ρ[i]? = some s) : ∃ l1 y l2, σ[i]? = some y ∧ l1.length = i ∧ ρ.zip σ = l1 ++ (s, y) :: l2 ∧ ∀ s' y', (ρ.set i s').zip (σ.set i y') = l1 ++ (s', y') :: l2 := by
  induction ρ generalizing σ i with
  | nil => simp at h
  | cons r ρ ih =>
    cases σ with
    | nil => simp at hl
    | cons z σ =>
      cases i with
      | zero => simp at h; subst h; exact ⟨[], z, ρ.zip σ, rfl, rfl, rfl, fun _ _ => rfl⟩
      | succ i =>
        obtain ⟨l1, y, l2, h1, h2, h3, h4⟩ := ih (σ := σ) (by simpa using hl) (i := i) (by simpa using h)
        exact ⟨(r, z) :: l1, y, l2, by simpa using h1, by simp [h2], by simp [h3], fun s' y' => by simp [h4]⟩
theorem set_same {σ : St} {i : Nat} {y : Option V} (h : σ[i]? = some y) : σ.set i y = σ := by
  obtain ⟨hi, rfl⟩ := List.getElem?_eq_some_iff.mp h
  exact List.set_getElem_self hi
end
end L2
namespace L2
open PySem PySem.Spec PyProof.Rows Lw
noncomputable abbrev TEd := List Addr → List Sl → (Sl → List Sl → Prop) → Prop
noncomputable abbrev TTd := List Addr → List Sl → (Bool → List Sl → Prop) → Prop
noncomputable def dE (K : PySem.W.Frag) (τ : TEd) : TE := fun σ H Q => ∃ (B : Bs) (ρ : List Sl) (T : Ents) (Φ : Sl → List Sl → Prop), ρ.length = σ.length ∧ DS K B (ρ.zip σ ++ T) H ∧ τ B.dk ρ Φ ∧
  ∀ r ρ' v H', ρ'.length = σ.length → DS K B (ρ'.zip σ ++ (r, some v) :: T) H' → Φ r ρ' → Q v H'
noncomputable def dTt (K : PySem.W.Frag) (τ : TTd) : TT := fun σ H Q => ∃ (B : Bs) (ρ : List Sl) (T : Ents) (Φ : Bool → List Sl → Prop), ρ.length = σ.length ∧ DS K B (ρ.zip σ ++ T) H ∧ τ B.dk ρ Φ ∧
  ∀ b ρ' H', ρ'.length = σ.length → DS K B (ρ'.zip σ ++ T) H' → Φ b ρ' → Q b H'
noncomputable abbrev PD (X : Cx) (e : Expr) (τ : TEd) : Prop := PE X e (dE X.K τ)
noncomputable abbrev PDt (X : Cx) (e : Expr) (τ : TTd) : Prop := PT X e (dTt X.K τ)
noncomputable abbrev PDw (X : Cx) (e : Expr) (τ : TTd) : Prop := PW X e (dTt X.K τ)
theorem PE.mono {X : Cx} {e : Expr} {t t' : TE} (h : PE X e t) (k : ∀ σ H Q, t' σ H Q → t σ H Q) : PE X e t' := fun pins s σ H Q I q => h pins s σ H Q I (k σ H Q q)
theorem PT.mono {X : Cx} {e : Expr} {t t' : TT} (h : PT X e t) (k : ∀ σ H Q, t' σ H Q → t σ H Q) : PT X e t' := fun pins s σ H Q I q => h pins s σ H Q I (k σ H Q q)
theorem PW.mono {X : Cx} {e : Expr} {t t' : TT} (h : PW X e t) (k : ∀ σ H Q, t' σ H Q → t σ H Q) : PW X e t' := fun wh pins s σ H Q I q => h wh pins s σ H Q I (k σ H Q q)
noncomputable def sd : Sl → Option D
  | .val d => some d
  | .own d => some d
  | .no => none
section
variable {K : PySem.W.Frag} {B : Bs} {H : Hp} {L L1 L2 T : Ents} {x : Sl × Option V} {d e : D} {r r' : Sl} {v u : V}
theorem roots_val {y : Option V} : roots (L1 ++ (Sl.val d, y) :: L2) = roots (L1 ++ L2) := by rw [root_mid, roots_app]; rfl
theorem DS.thaw (h : DS K B (L1 ++ (r, some v) :: L2) H) (e : sd r = some d) : DS K B (L1 ++ (.val d, some v) :: L2) H := by
  cases r with
  | no => cases e
  | val c => cases e; exact h
  | own c => cases e; exact h.freeze
theorem DS.one (h : DS K B (L ++ (r, some v) :: T) H) (e : sd r = some d) : DS K B (L ++ T) H ∧ Rep K (Al B (roots (L ++ T))) H d v := by
  have h' := h.thaw e
  exact ⟨h'.drop, h'.valAt⟩
theorem DS.two (h : DS K B (L ++ (r', some u) :: (r, some v) :: T) H) (e1 : sd r = some d) (e2 : sd r' = some e) : DS K B (L ++ T) H ∧ Rep K (Al B (roots (L ++ T))) H d v ∧ Rep K (Al B (roots (L ++ T))) H e u := by
  have h1 := h.thaw e2
  have h2 : DS K B ((L ++ [(Sl.val e, some u)]) ++ (r, some v) :: T) H := by simpa using h1
  have h3 := h2.thaw e1
  have h4 : DS K B (L ++ (Sl.val e, some u) :: (.val d, some v) :: T) H := by simpa using h3
  have q1 := h4.valAt
  have q2 := h3.valAt
  have e3 : roots (L ++ (Sl.val d, some v) :: T) = roots (L ++ T) := by rw [root_mid, roots_app]; rfl
  have e4 : roots ((L ++ [(Sl.val e, some u)]) ++ T) = roots (L ++ T) := by
    rw [List.append_assoc]; show roots (L ++ (Sl.val e, some u) :: T) = _; rw [root_mid, roots_app]; rfl
  rw [e3] at q1
  rw [e4] at q2
  exact ⟨h4.drop.drop, q2, q1⟩
theorem DS.mid (h : DS K B (x :: (L ++ T)) H) : DS K B (L ++ x :: T) H := h.perm List.perm_middle.symm
theorem DS.front (h : DS K B (L ++ x :: T) H) : DS K B (x :: (L ++ T)) H := h.perm List.perm_middle
theorem DS.pushF (h : DS K B L H) (r : Rep K (Al B (roots L)) H d v) : DS K B ((.val d, some v) :: L) H := DS.push (L1 := []) h r
theorem DS.tupF (h : DS K B L H) {a : Addr} {ds : List D} {vs : List V} (hp : H a = none) (r : Reps K (Al B (roots L)) H ds vs) : DS K B ((.val (.tup ds), some (.ref a)) :: L) (upd H a (.tup vs)) := DS.tup (L1 := []) h hp r
theorem DS.lstF (h : DS K B L H) {a : Addr} {ds : List D} {vs : List V} (hp : H a = none) (r : Reps K (Al B (roots L)) H ds vs) : DS K B ((.own (.lst ds), some (.ref a)) :: L) (upd H a (.lst vs)) :=
  DS.make (L1 := []) h hp fun A' k => ⟨vs, upd_same, r.mono k⟩
theorem DS.dKF (h : DS K B L H) {a : Addr} {ds : List (Key × D)} {kvs : List (Key × V)} (hp : H a = none) (e : ds.map (·.1) = kvs.map (·.1)) (r : Reps K (Al B (roots L)) H (ds.map (·.2)) (kvs.map (·.2))) : DS K B ((.own (.dK ds), some (.ref a)) :: L) (upd H a (.dK kvs)) :=
  DS.make (L1 := []) h hp fun A' k => ⟨kvs, upd_same, e, r.mono k⟩
end
noncomputable def Peek (K : PySem.W.Frag) (A : Addr → Prop) (H : Hp) : D → V → Prop
  | .lst ds, v => ∃ a vs, v = .ref a ∧ H a = some (.lst vs) ∧ Reps K A H ds vs
  | .dK ds, v => ∃ a kvs, v = .ref a ∧ H a = some (.dK kvs) ∧ ds.map (·.1) = kvs.map (·.1) ∧ Reps K A H (ds.map (·.2)) (kvs.map (·.2))
  | .dT ds, v => ∃ a kvs, v = .ref a ∧ H a = some (.dT kvs) ∧ ds.map (·.1) = kvs.map (·.1) ∧ Reps K A H (ds.map (·.2)) (kvs.map (·.2))
  | .non, v => Rep K A H .non v
  | .bl b, v => Rep K A H (.bl b) v
  | .int b, v => Rep K A H (.int b) v
  | .str b, v => Rep K A H (.str b) v
  | .raw b, v => Rep K A H (.raw b) v
  | .tup b, v => Rep K A H (.tup b) v
  | .con b, v => Rep K A H (.con b) v
  | .scr b, v => Rep K A H (.scr b) v
section
variable {K : PySem.W.Frag} {A A' : Addr → Prop} {B : Bs} {H : Hp}
theorem Rep.peek {d : D} {v : V} (h : Rep K A H d v) : Peek K A H d v := by
  cases h with
  | lst _ h r => exact ⟨_, _, rfl, h, r⟩
  | dK _ h e r => exact ⟨_, _, rfl, h, e, r⟩
  | dT _ h e r => exact ⟨_, _, rfl, h, e, r⟩
  | non => exact .non
  | bl => exact .bl _
  | int => exact .int _
  | str => exact .str _
  | raw => exact .raw _
  | tup h r => exact .tup h r
  | con h r => exact .con h r
  | scr h r => exact .scr h r
theorem Root.peek {a : Addr} : ∀ {d : D}, Root K A H a d → Peek K A H d (.ref a)
  | .lst _, ⟨vs, h, r⟩ => ⟨_, vs, rfl, h, r⟩
  | .dK _, ⟨vs, h, e, r⟩ => ⟨_, vs, rfl, h, e, r⟩
  | .dT _, ⟨vs, h, e, r⟩ => ⟨_, vs, rfl, h, e, r⟩
theorem Peek.lst_inv {ds : List D} {v : V} (h : Peek K A H (.lst ds) v) : ∃ a vs, v = .ref a ∧ H a = some (.lst vs) ∧ Reps K A H ds vs := h
theorem Peek.dK_inv {ds : List (Key × D)} {v : V} (h : Peek K A H (.dK ds) v) : ∃ a kvs, v = .ref a ∧ H a = some (.dK kvs) ∧ ds.map (·.1) = kvs.map (·.1) ∧ Reps K A H (ds.map (·.2)) (kvs.map (·.2)) := h
theorem Peek.dT_inv {ds : List (List Key × D)} {v : V} (h : Peek K A H (.dT ds) v) : ∃ a kvs, v = .ref a ∧ H a = some (.dT kvs) ∧ ds.map (·.1) = kvs.map (·.1) ∧ Reps K A H (ds.map (·.2)) (kvs.map (·.2)) := h
theorem Peek.tup_inv {ds : List D} {v : V} (h : Peek K A H (.tup ds) v) : ∃ a vs, v = .ref a ∧ H a = some (.tup vs) ∧ Reps K A H ds vs := Rep.tup_inv h
theorem Peek.con_inv {ds : List D} {v : V} (h : Peek K A H (.con ds) v) : ∃ a vs, v = .ref a ∧ SqC K a vs ∧ Reps K A H ds vs := Rep.con_inv h
theorem Peek.scr_inv {ds : List D} {v : V} (h : Peek K A H (.scr ds) v) : ∃ a vs, v = .ref a ∧ SqF K H a vs ∧ Reps K A H ds vs := Rep.scr_inv h
theorem Peek.int_inv {i : Int} {v : V} (h : Peek K A H (.int i) v) : v = .int i := Rep.int_inv h
theorem Peek.str_inv {i : Str} {v : V} (h : Peek K A H (.str i) v) : v = .str i := Rep.str_inv h
theorem Peek.bl_inv {i : Bool} {v : V} (h : Peek K A H (.bl i) v) : v = .bl i := Rep.bl_inv h
theorem Peek.non_inv {v : V} (h : Peek K A H .non v) : v = .non := Rep.non_inv h
theorem Peek.raw_inv {u v : V} (h : Peek K A H (.raw u) v) : v = u := Rep.raw_inv h
noncomputable def at? (ρ : List Sl) (i : Nat) : Option D := (ρ[i]?).bind sd
theorem DS.peek {ρ : List Sl} {σ : St} {T : Ents} (hl : ρ.length = σ.length) (h : DS K B (ρ.zip σ ++ T) H) {i : Nat} {d : D} (e : at? ρ i = some d) : ∃ v, σ[i]? = some (some v) ∧ Peek K (Al B (roots (ρ.zip σ ++ T))) H d v := by
  unfold at? at e
  cases e1 : ρ[i]? with
  | none => rw [e1] at e; cases e
  | some s =>
    rw [e1] at e
    obtain ⟨l1, y, l2, hy, _, hz, _⟩ := zip_at hl e1
    have hd' := h
    rw [hz] at hd'
    have := hd'.ok (s, y) (by simp)
    rw [← hz] at this
    cases s with
    | no => cases e
    | val c => cases e; obtain ⟨v, rfl, r⟩ := this; exact ⟨v, hy, r.peek⟩
    | own c => cases e; obtain ⟨a, rfl, r⟩ := this; exact ⟨_, hy, r.peek⟩
end
noncomputable def vd (i : Nat) : TEd := fun _ ρ Φ => match ρ[i]? with
  | some (.val d) => Φ (.val d) ρ
  | some (.own d) => Φ (.val d) (ρ.set i (.val d))
  | _ => False
noncomputable def cd (d : D) : TEd := fun _ ρ Φ => Φ (.val d) ρ
section
variable {X : Cx} {a b c : Expr} {ta tb tc : TEd} {pos : Pos}
theorem pd_v (i : Nat) {x : Str} (h : PE X (.Name x pos) (tVar i)) : PD X (.Name x pos) (vd i) := h.mono fun σ H Q ⟨B, ρ, T, Φ, hl, hd, ht, k⟩ => by
  unfold vd at ht
  cases e : ρ[i]? with
  | none => rw [e] at ht; exact ht.elim
  | some s =>
    rw [e] at ht
    obtain ⟨l1, y, l2, hy, _, hz, hset⟩ := zip_at hl e
    have hd' : DS X.K B (l1 ++ (s, y) :: (l2 ++ T)) H := by rw [hz] at hd; simpa using hd
    cases s with
    | no => exact ht.elim
    | val d =>
      obtain ⟨v, rfl, _⟩ := hd'.at
      refine ⟨v, hy, k _ _ v H hl ?_ ht⟩
      refine hd.push ?_
      have := hd'.valAt
      rw [hz]
      have e3 : roots ((l1 ++ (Sl.val d, some v) :: l2) ++ T) = roots (l1 ++ (l2 ++ T)) := by
        rw [List.append_assoc, List.cons_append, roots_val]
      rw [e3]; exact this
    | own d =>
      obtain ⟨a, rfl, _⟩ := hd'.at
      have hf := hd'.freeze
      have hs : (ρ.set i (.val d)).zip σ = l1 ++ (.val d, some (.ref a)) :: l2 := by
        have := hset (.val d) (some (.ref a))
        rw [set_same hy] at this; exact this
      have hd2 : DS X.K B ((ρ.set i (.val d)).zip σ ++ T) H := by rw [hs]; simpa using hf
      refine ⟨.ref a, hy, k _ _ _ H (by rw [List.length_set]; exact hl) ?_ ht⟩
      refine hd2.push ?_
      have := hf.valAt
      rw [hs]
      have e3 : roots ((l1 ++ (Sl.val d, some (V.ref a)) :: l2) ++ T) = roots (l1 ++ (l2 ++ T)) := by
        rw [List.append_assoc, List.cons_append, roots_val]
      rw [e3]; exact this
theorem pd_c {d : D} {v : V} {e : Expr} (h : PE X e (tC v)) (r : ∀ K A H, Rep K A H d v) : PD X e (cd d) := h.mono fun σ H Q ⟨B, ρ, T, Φ, hl, hd, ht, k⟩ => k _ ρ v H hl (hd.push (r _ _ _)) ht
theorem pd_int {i : Int} {j : Nat} : PD X (.Constant (.int i) j pos) (cd (.int i)) := pd_c pe_int fun _ _ _ => .int i
theorem pd_str {x : Str} {j : Nat} : PD X (.Constant (.str x) j pos) (cd (.str x)) := pd_c pe_str fun _ _ _ => .str x
theorem pd_bl {x : Bool} {j : Nat} : PD X (.Constant (.bool x) j pos) (cd (.bl x)) := pd_c pe_bl fun _ _ _ => .bl x
noncomputable abbrev O2 := D → D → (Sl → Prop) → Prop
noncomputable def OpD (K : PySem.W.Frag) (r : R2) (f : O2) : Prop := ∀ (B : Bs) (L : Ents) (H : Hp) (d e : D) (x y : V) (Φ : Sl → Prop) (Q : VK), DS K B L H → Peek K (Al B (roots L)) H d x → Peek K (Al B (roots L)) H e y → f d e Φ →
  (∀ s v H', Φ s → DS K B ((s, some v) :: L) H' → Q v H') → r x y H Q
noncomputable def d2 (f : O2) (ta tb : TEd) : TEd := fun dk ρ Φ => ta dk ρ fun ra ρ1 => tb dk ρ1 fun rb ρ2 => match sd ra, sd rb with
  | some d, some e => f d e fun r => Φ r ρ2
  | _, _ => False
theorem d2_walk {f : O2} {r : R2} (hf : OpD X.K r f) {σ : St} {H : Hp} {Q : VK} (h : dE X.K (d2 f ta tb) σ H Q) : dE X.K ta σ H fun x H1 => dE X.K tb σ H1 fun y H2 => r x y H2 Q := by
  obtain ⟨B, ρ, T, Φ, hl, hd, ht, k⟩ := h
  refine ⟨B, ρ, T, _, hl, hd, ht, fun ra ρ1 x H1 l1 d1 h1 => ⟨B, ρ1, (ra, some x) :: T, _, l1, d1, h1, fun rb ρ2 y H2 l2 d2 h2 => ?_⟩⟩
  cases e1 : sd ra with
  | none => rw [e1] at h2; exact h2.elim
  | some d =>
    cases e2 : sd rb with
    | none => rw [e1, e2] at h2; exact h2.elim
    | some e =>
      rw [e1, e2] at h2
      obtain ⟨q1, q2, q3⟩ := d2.two e1 e2
      exact hf B _ H2 d e x y _ Q q1 q2.peek q3.peek h2 fun s v H' hs hd' => k s ρ2 v H' l2 hd'.mid hs
noncomputable def d2s (f : O2) (i : Nat) (tb : TEd) : TEd := fun dk ρ Φ => (at? ρ i).isSome = true ∧ tb dk ρ fun rb ρ2 => match at? ρ2 i, sd rb with
  | some d, some e => f d e fun r => Φ r ρ2
  | _, _ => False
noncomputable def d2t (f : O2) (ta : TEd) (i : Nat) : TEd := fun dk ρ Φ => ta dk ρ fun ra ρ1 => match sd ra, at? ρ1 i with
  | some d, some e => f d e fun r => Φ r ρ1
  | _, _ => False
theorem d2s_walk {f : O2} {r : R2} (hf : OpD X.K r f) {i : Nat} {σ : St} {H : Hp} {Q : VK} (h : dE X.K (d2s f i tb) σ H Q) : tVar i σ H fun x H1 => dE X.K tb σ H1 fun y H2 => r x y H2 Q := by
  obtain ⟨B, ρ, T, Φ, hl, hd, ⟨hi, ht⟩, k⟩ := h
  obtain ⟨d0, h0⟩ := Option.isSome_iff_exists.mp hi
  obtain ⟨x, hx, _⟩ := hd.peek hl h0
  refine ⟨x, hx, B, ρ, T, _, hl, hd, ht, fun rb ρ2 y H2 l2 d2 h2 => ?_⟩
  cases e1 : at? ρ2 i with
  | none => rw [e1] at h2; exact h2.elim
  | some d =>
    cases e2 : sd rb with
    | none => rw [e1, e2] at h2; exact h2.elim
    | some e =>
      rw [e1, e2] at h2
      obtain ⟨q1, q3⟩ := d2.one e2
      obtain ⟨x', hx', px⟩ := q1.peek l2 e1
      rw [hx] at hx'
      cases hx'
      exact hf B _ H2 d e x y _ Q q1 px q3.peek h2 fun s v H' hs hd' => k s ρ2 v H' l2 hd'.mid hs
theorem d2t_walk {f : O2} {r : R2} (hf : OpD X.K r f) {i : Nat} {σ : St} {H : Hp} {Q : VK} (h : dE X.K (d2t f ta i) σ H Q) : dE X.K ta σ H fun x H1 => tVar i σ H1 fun y H2 => r x y H2 Q := by
  obtain ⟨B, ρ, T, Φ, hl, hd, ht, k⟩ := h
  refine ⟨B, ρ, T, _, hl, hd, ht, fun ra ρ1 x H1 l1 d1 h1 => ?_⟩
  cases e1 : sd ra with
  | none => rw [e1] at h1; exact h1.elim
  | some d =>
    cases e2 : at? ρ1 i with
    | none => rw [e1, e2] at h1; exact h1.elim
    | some e =>
      rw [e1, e2] at h1
      obtain ⟨q1, q3⟩ := d1.one e1
      obtain ⟨y, hy, py⟩ := q1.peek l1 e2
      exact ⟨y, hy, hf B _ H1 d e x y _ Q q1 q3.peek py h1 fun s v H' hs hd' => k s ρ1 v H' l1 hd'.mid hs⟩
theorem pd_opS {op : Operator} {f : O2} {r : R2} {i : Nat} (ho : OpR X (binaryOp op) r) (hf : OpD X.K r f) (ha : PE X a (tVar i)) (hb : PD X b tb) : PD X (.BinOp a op b pos) (d2s f i tb) := (pe_op ho ha hb).mono fun _ _ _ h => d2s_walk hf h
theorem pd_cmpS {op : CmpOp} {f : O2} {r : R2} {i : Nat} (ho : OpR X (compareOp op) r) (hf : OpD X.K r f) (ha : PE X a (tVar i)) (hb : PD X b tb) (hm : behindInMarks op b = false := by first | exact nomark _ | (with_unfolding_all rfl)) : PD X (.Compare a [op] [b] pos) (d2s f i tb) :=
  (pe_cmpR ho ha hb hm).mono fun _ _ _ h => d2s_walk hf h
theorem pd_op {op : Operator} {f : O2} {r : R2} (ho : OpR X (binaryOp op) r) (hf : OpD X.K r f) (ha : PD X a ta) (hb : PD X b tb) : PD X (.BinOp a op b pos) (d2 f ta tb) := (pe_op ho ha hb).mono fun _ _ _ h => d2_walk hf h
theorem pd_cmp {op : CmpOp} {f : O2} {r : R2} (ho : OpR X (compareOp op) r) (hf : OpD X.K r f) (ha : PD X a ta) (hb : PD X b tb) (hm : behindInMarks op b = false := by first | exact nomark _ | (with_unfolding_all rfl)) : PD X (.Compare a [op] [b] pos) (d2 f ta tb) :=
  (pe_cmpR ho ha hb hm).mono fun _ _ _ h => d2_walk hf h
noncomputable def tstB (t : TEd) : TTd := fun dk ρ Φ => t dk ρ fun r ρ' => match r with
  | .val (.bl b) => Φ b ρ'
  | _ => False
theorem tstB_walk {t : TEd} {σ : St} {H : Hp} {Q : Bool → Hp → Prop} (h : dTt X.K (tstB t) σ H Q) : dE X.K t σ H fun x H' => ∃ k, x = .bl k ∧ Q k H' := by
  obtain ⟨B, ρ, T, Φ, hl, hd, ht, k⟩ := h
  refine ⟨B, ρ, T, _, hl, hd, ht, fun r ρ' v H' l1 d1 h1 => ?_⟩
  cases r with
  | no => exact h1.elim
  | own d => exact h1.elim
  | val d =>
    cases d with
    | bl b => exact ⟨b, d1.valAt.bl_inv, k b ρ' H' l1 d1.drop h1⟩
    | _ => exact h1.elim
theorem pdt_cmpS {op : CmpOp} {f : O2} {r : R2} {i : Nat} (ho : OpR X (compareOp op) r) (hf : OpD X.K r f) (ha : PE X a (tVar i)) (hb : PD X b tb) (hm : behindInMarks op b = false := by first | exact nomark _ | (with_unfolding_all rfl)) : PDt X (.Compare a [op] [b] pos) (tstB (d2s f i tb)) :=
  (pt_cmpR ho ha hb hm).mono fun σ H Q h => d2s_walk hf (tstB_walk h)
theorem pdt_cmpT {op : CmpOp} {f : O2} {r : R2} {i : Nat} (ho : OpR X (compareOp op) r) (hf : OpD X.K r f) (ha : PD X a ta) (hb : PE X b (tVar i)) (hm : behindInMarks op b = false := by first | exact nomark _ | (with_unfolding_all rfl)) : PDt X (.Compare a [op] [b] pos) (tstB (d2t f ta i)) :=
  (pt_cmpR ho ha hb hm).mono fun σ H Q h => d2t_walk hf (tstB_walk h)
theorem pdt_cmp {op : CmpOp} {f : O2} {r : R2} (ho : OpR X (compareOp op) r) (hf : OpD X.K r f) (ha : PD X a ta) (hb : PD X b tb) (hm : behindInMarks op b = false := by first | exact nomark _ | (with_unfolding_all rfl)) : PDt X (.Compare a [op] [b] pos) (tstB (d2 f ta tb)) :=
  (pt_cmpR ho ha hb hm).mono fun σ H Q h => by
    have := tstB_walk h
    exact d2_walk hf this
end
end L2
namespace L2
open PySem PySem.Spec PyProof.Rows Lw
section
variable {κ : Type} [DecidableEq κ]
noncomputable def valD (kvs : List (κ × D)) (k : κ) : Option D := (kvs.find? fun kv => decide (kv.1 = k)).map (·.2)
noncomputable def putD (kvs : List (κ × D)) (k : κ) (d : D) : List (κ × D) := if kvs.any (fun kv => decide (kv.1 = k)) then kvs.map (fun kv => if kv.1 = k then (kv.1, d) else kv) else kvs ++ [(k, d)]
theorem valD_nil {k : κ} : valD ([] : List (κ × D)) k = none := rfl
theorem valD_cons {k j : κ} {d : D} {r : List (κ × D)} : valD ((j, d) :: r) k = if j = k then some d else valD r k := by
  unfold valD; rw [List.find?_cons]
  by_cases h : j = k <;> simp [h]
theorem valD_any (k : κ) : ∀ kvs : List (κ × D), (kvs.any fun kv => decide (kv.1 = k)) = (valD kvs k).isSome
  | [] => rfl
  | (j, d) :: r => by
    rw [valD_cons, List.any_cons, valD_any k r]
    by_cases h : j = k <;> simp [h]
end
section
variable {κ : Type} [DecidableEq κ] {K : PySem.W.Frag} {A : Addr → Prop} {H : Hp}
theorem repK_val : ∀ {ds : List (κ × D)} {kvs : List (κ × V)}, ds.map (·.1) = kvs.map (·.1) → Reps K A H (ds.map (·.2)) (kvs.map (·.2)) → ∀ k, (∀ d, valD ds k = some d → ∃ v, valV kvs k = some v ∧ Rep K A H d v) ∧ (valD ds k = none → valV kvs k = none)
  | [], [], _, _, k => ⟨fun d h => by simp [valD_nil] at h, fun _ => rfl⟩
  | [], _ :: _, e, _, _ => by simp at e
  | _ :: _, [], e, _, _ => by simp at e
  | (i, d) :: ds, (j, v) :: kvs, e, r, k => by
    simp only [List.map_cons, List.cons.injEq] at e
    obtain ⟨e1, e2⟩ := e
    subst e1
    cases r with
    | cons h r =>
      have ih := repK_val e2 r k
      rw [valD_cons]
      by_cases z : i = k
      · rw [if_pos z, valV_pos z]
        exact ⟨fun d' q => by cases q; exact ⟨v, rfl, h⟩, fun q => by cases q⟩
      · rw [if_neg z, valV_neg z]; exact ih
theorem repK_put {ds : List (κ × D)} {kvs : List (κ × V)} (e : ds.map (·.1) = kvs.map (·.1)) (r : Reps K A H (ds.map (·.2)) (kvs.map (·.2))) {k : κ} {d : D} {v : V} (h : Rep K A H d v) :
    (putD ds k d).map (·.1) = (putK kvs k v).map (·.1) ∧ Reps K A H ((putD ds k d).map (·.2)) ((putK kvs k v).map (·.2)) := by
  have ha : ∀ (ds : List (κ × D)) (kvs : List (κ × V)), ds.map (·.1) = kvs.map (·.1) → (ds.any fun kv => decide (kv.1 = k)) = kvs.any fun kv => decide (kv.1 = k) := by
    intro ds
    induction ds with
    | nil => intro kvs e; cases kvs with
      | nil => rfl
      | cons _ _ => simp at e
    | cons p ds ih => intro kvs e; cases kvs with
      | nil => simp at e
      | cons q kvs =>
        simp only [List.map_cons, List.cons.injEq] at e
        rw [List.any_cons, List.any_cons, ih kvs e.2, e.1]
  have hm : ∀ (ds : List (κ × D)) (kvs : List (κ × V)), ds.map (·.1) = kvs.map (·.1) → Reps K A H (ds.map (·.2)) (kvs.map (·.2)) →
      (ds.map fun kv => if kv.1 = k then (kv.1, d) else kv).map (·.1) = (kvs.map fun kv => if kv.1 = k then (kv.1, v) else kv).map (·.1) ∧
      Reps K A H ((ds.map fun kv => if kv.1 = k then (kv.1, d) else kv).map (·.2)) ((kvs.map fun kv => if kv.1 = k then (kv.1, v) else kv).map (·.2)) := by
    intro ds
    induction ds with
    | nil => intro kvs e r; cases kvs with
      | nil => exact ⟨rfl, .nil⟩
      | cons _ _ => simp at e
    | cons p ds ih => intro kvs e r; cases kvs with
      | nil => simp at e
      | cons q kvs =>
        simp only [List.map_cons, List.cons.injEq] at e
        cases r with
        | cons g r =>
          obtain ⟨i1, i2⟩ := ih kvs e.2 r
          obtain ⟨i, d0⟩ := p
          obtain ⟨j, v0⟩ := q
          obtain ⟨rfl, e2⟩ := e
          by_cases z : i = k
          · simp only [List.map_cons, z, if_true]; exact ⟨by rw [i1], .cons h i2⟩
          · simp only [List.map_cons, z, if_false]; exact ⟨by rw [i1], .cons g i2⟩
  unfold putD putK
  rw [ha ds kvs e]
  by_cases z : (kvs.any fun kv => decide (kv.1 = k)) = true
  · rw [if_pos z, if_pos z]; exact hm ds kvs e r
  · rw [if_neg z, if_neg z]
    simp only [List.map_append, List.map_cons, List.map_nil]
    exact ⟨by rw [e], r.append (.cons h .nil)⟩
end
mutual
inductive EqT : D → D → Prop where
  | non : EqT .non .non
  | bl (b : Bool) : EqT (.bl b) (.bl b)
  | int (i : Int) : EqT (.int i) (.int i)
  | str (x : Str) : EqT (.str x) (.str x)
  | tup {xs ys : List D} : EqTs xs ys → EqT (.tup xs) (.tup ys)
  | lst {xs ys : List D} : EqTs xs ys → EqT (.lst xs) (.lst ys)
  | dK {xs ys : List (Key × D)} : xs.length = ys.length → EqTK ys xs → EqT (.dK xs) (.dK ys)
inductive EqTs : List D → List D → Prop where
  | nil : EqTs [] []
  | cons {d e : D} {ds es : List D} : EqT d e → EqTs ds es → EqTs (d :: ds) (e :: es)
inductive EqTK : List (Key × D) → List (Key × D) → Prop where
  | nil {ys : List (Key × D)} : EqTK ys []
  | cons {ys xs : List (Key × D)} {k : Key} {d e : D} : valD ys k = some e → EqT d e → EqTK ys xs → EqTK ys ((k, d) :: xs)
end
end L2
namespace L2
open PySem PySem.Spec PyProof.Rows Lw
section
variable {X : Cx} {K : PySem.W.Frag}
noncomputable def rCatT0 (K : PySem.W.Frag) : R2 := fun x y H Q => ∃ a b ys, x = .ref a ∧ y = .ref b ∧ SqT K H a [] ∧ SqT K H b ys ∧ Q (.ref b) H
theorem op_catT0 : OpR X (binaryOp .Add) (rCatT0 X.K) := by
  intro pins s σ H x y v u Q I rx ry h
  obtain ⟨a, b, ys, rfl, rfl, ha, hb, q⟩ := h
  cases rx
  cases ry
  obtain ⟨its, r1, p1, _⟩ := I.tuple ha
  obtain ⟨its2, r2, p2, _⟩ := I.tuple hb
  cases r1
  obtain ⟨⟨c1, dd, da, sl⟩, ho, hc, n, hd⟩ := id p1
  obtain ⟨⟨c2, dd2, da2, sl2⟩, ho2, hc2, n2, hd2⟩ := id p2
  simp only at hc hd hc2 hd2
  subst hc hd hc2 hd2
  exact concat_meets ⟨_, ho, rfl⟩ ⟨_, ho2, rfl⟩ noFill_tuple_add seq_tuple_add PySem.F.slot_tuple_add PySem.F.entry_tuple_add (PySem.F.args_tuple_add_2 _ _)
    (tuple_addW0 a b _ _ n n2 dd dd2 sl sl2 (by simp)) ⟨ho, ho2, ⟨.ref b, H, I, rfl, q⟩⟩
noncomputable def rPlus (K : PySem.W.Frag) : R2 := fun x y H Q => (rI0 fun i j => .int (i + j)) x y H Q ∨ (∃ i j, x = .str i ∧ y = .str j ∧ i.length + j.length ≤ sizeLine ∧ Q (.str (i ++ j)) H) ∨ rCat x y H Q ∨ rCatT K x y H Q ∨ rCatT0 K x y H Q
theorem op_plus : OpR X (binaryOp .Add) (rPlus X.K) := op_add.or (op_add_str.or (op_cat.or (op_catT.or op_catT0)))
theorem big100 {n : Nat} (h : n ≤ 100000) : n ≤ sizeLine := Nat.le_trans h (by decide)
noncomputable def fAdd : O2
  | .int i, .int j, Φ => Φ (.val (.int (i + j)))
  | .str i, .str j, Φ => i.length + j.length ≤ 100000 ∧ Φ (.val (.str (i ++ j)))
  | .lst xs, .lst ys, Φ => xs.length + ys.length ≤ 100000 ∧ Φ (.own (.lst (xs ++ ys)))
  | .tup xs, .tup ys, Φ => xs.length + ys.length ≤ 100000 ∧ Φ (.val (.tup (xs ++ ys)))
  | _, _, _ => False
theorem od_add : OpD K (rPlus K) fAdd := by
  intro B L H d e x y Φ Q hd rx ry hf k
  unfold fAdd at hf
  split at hf
  · cases rx; cases ry
    exact .inl ⟨_, _, rfl, rfl, k _ _ H hf (hd.pushF (.int _))⟩
  · cases rx; cases ry
    exact .inr (.inl ⟨_, _, rfl, rfl, big100 hf.1, k _ _ H hf.2 (hd.pushF (.str _))⟩)
  · obtain ⟨a, vs, rfl, h1, r1⟩ := rx.lst_inv
    obtain ⟨b, us, rfl, h2, r2⟩ := ry.lst_inv
    have hl : vs.length + us.length ≤ 100000 := by rw [← r1.length, ← r2.length]; exact hf.1
    exact .inr (.inr (.inl ⟨a, b, vs, us, rfl, rfl, h1, h2, big100 hl, fun p hp => k _ _ _ hf.2 (hd.lstF hp (r1.append r2))⟩))
  · obtain ⟨a, vs, rfl, h1, r1⟩ := rx.tup_inv
    obtain ⟨b, us, rfl, h2, r2⟩ := ry.tup_inv
    have hl : vs.length + us.length ≤ 100000 := by rw [← r1.length, ← r2.length]; exact hf.1
    by_cases z : vs = []
    · subst z
      have := r1.nil_iff.mp rfl
      subst this
      exact .inr (.inr (.inr (.inr ⟨a, b, us, rfl, rfl, SqT.of h1, SqT.of h2, k _ _ H hf.2 (hd.pushF ry)⟩)))
    · refine .inr (.inr (.inr (.inl ⟨a, b, vs, us, rfl, rfl, SqT.of h1, SqT.of h2, z, big100 hl, fun q => ?_, fun _ p hp => k _ _ _ hf.2 (hd.tupF hp (r1.append r2))⟩)))
      subst q
      have := r2.nil_iff.mp rfl
      subst this
      exact k _ _ H hf.2 (by rw [List.append_nil]; exact hd.pushF rx)
  · exact hf.elim
noncomputable def fI (C : Int → Int → Prop) (g : Int → Int → D) : O2
  | .int i, .int j, Φ => C i j ∧ Φ (.val (g i j))
  | _, _, _ => False
noncomputable def fI0 (g : Int → Int → D) : O2
  | .int i, .int j, Φ => Φ (.val (g i j))
  | _, _, _ => False
theorem od_int0 {g : Int → Int → D} {g' : Int → Int → V} (hg : ∀ A H i j, Rep K A H (g i j) (g' i j)) : OpD K (rI0 g') (fI0 g) := by
  intro B L H d e x y Φ Q hd rx ry hf k
  unfold fI0 at hf
  split at hf
  · cases rx; cases ry
    exact ⟨_, _, rfl, rfl, k _ _ H hf (hd.pushF (hg _ _ _ _))⟩
  · exact hf.elim
noncomputable abbrev fSub : O2 := fI0 fun i j => .int (i - j)
theorem od_sub : OpD K (rI0 fun i j => .int (i - j)) fSub := od_int0 fun _ _ _ _ => .int _
noncomputable def rTimes : R2 := fun x y H Q => (rI CMul fun i j => .int (i * j)) x y H Q ∨ rRep x y H Q
theorem op_times : OpR X (binaryOp .Mult) rTimes := op_mul.or op_rep
noncomputable def fMul : O2
  | .int i, .int j, Φ => ((-(2 ^ 64) < i ∧ i < 2 ^ 64) ∨ (-(2 ^ 64) < j ∧ j < 2 ^ 64)) ∧ Φ (.val (.int (i * j)))
  | .lst xs, .int k, Φ => 0 ≤ k ∧ k ≤ 1000 ∧ xs.length ≤ 100 ∧ Φ (.own (.lst (List.replicate k.toNat xs).flatten))
  | _, _, _ => False
theorem reps_rep {A : Addr → Prop} {H : Hp} {ds : List D} {vs : List V} (r : Reps K A H ds vs) : ∀ k : Nat, Reps K A H (List.replicate k ds).flatten (List.replicate k vs).flatten
  | 0 => .nil
  | k + 1 => by rw [List.replicate_succ, List.replicate_succ, List.flatten_cons, List.flatten_cons]; exact r.append (reps_rep r k)
theorem od_mul : OpD K rTimes fMul := by
  intro B L H d e x y Φ Q hd rx ry hf k
  unfold fMul at hf
  split at hf
  · cases rx; cases ry
    exact .inl ⟨_, _, rfl, rfl, hf.1, k _ _ H hf.2 (hd.pushF (.int _))⟩
  · cases ry
    rename_i n
    obtain ⟨a, vs, rfl, h1, r1⟩ := rx.lst_inv
    obtain ⟨k0, k1, hl, hf⟩ := hf
    have hl' : vs.length ≤ 100 := by rw [← r1.length]; exact hl
    refine .inr ⟨a, n, vs, rfl, rfl, h1, by omega, by omega, Nat.le_trans (Nat.mul_le_mul hl' (show n.toNat ≤ 1000 by omega)) (by decide), fun p hp => ?_⟩
    exact k _ _ _ hf (hd.lstF hp (reps_rep r1 _))
  · exact hf.elim
noncomputable abbrev fGt : O2 := fI0 fun i j => .bl (decide (j < i))
theorem od_gt : OpD K (rI0 fun i j => .bl (decide (j < i))) fGt := od_int0 fun _ _ _ _ => .bl _
end
end L2
namespace L2
open PySem PySem.Spec PyProof.Rows Lw
noncomputable def keyOf : D → Option Key
  | .int i => some (.inl i)
  | .str x => some (.inr x)
  | _ => none
noncomputable def keysOf : List D → Option (List Key)
  | [] => some []
  | d :: ds => match keyOf d, keysOf ds with
    | some k, some ks => some (k :: ks)
    | _, _ => none
theorem keysOf_map {α : Type} {f : α → D} {g : α → Key} (h : ∀ x, keyOf (f x) = some (g x)) : ∀ xs : List α, keysOf (xs.map f) = some (xs.map g)
  | [] => rfl
  | x :: xs => by rw [List.map_cons, keysOf, h x, keysOf_map h xs]; rfl
noncomputable def nb (neg b : Bool) : Bool := if neg then !b else b
section
variable {X : Cx} {K : PySem.W.Frag} {A : Addr → Prop} {H : Hp}
theorem keyOf_rep {d : D} {k : Key} {v : V} (h : keyOf d = some k) (r : Peek K A H d v) : v = kV k := by
  cases d <;> simp only [keyOf, reduceCtorEq, Option.some.injEq] at h
  · subst h; exact r.int_inv
  · subst h; exact r.str_inv
theorem keysOf_rep : ∀ {ds : List D} {ks : List Key} {vs : List V}, keysOf ds = some ks → Reps K A H ds vs → vs = ks.map kV
  | [], ks, _, h, .nil => by simp only [keysOf, Option.some.injEq] at h; subst h; rfl
  | d :: ds, ks, _, h, .cons r rs => by
    rw [keysOf] at h
    cases e1 : keyOf d with
    | none => rw [e1] at h; simp at h
    | some k =>
      cases e2 : keysOf ds with
      | none => rw [e1, e2] at h; simp at h
      | some ks' =>
        rw [e1, e2] at h
        simp only [Option.some.injEq] at h
        subst h
        rw [keyOf_rep e1 r.peek, keysOf_rep e2 rs]; rfl
noncomputable def lookD : D → D → Option (Option D)
  | .dK kvs, d => (keyOf d).map (valD kvs)
  | .dT kvs, .tup xs => (keysOf xs).map (valD kvs)
  | _, _ => none
theorem lookD_rep {d e : D} {o : Option D} {x y : V} (h : lookD d e = some o) (rx : Peek K A H d x) (ry : Peek K A H e y) : ∃ a w, x = .ref a ∧ DGet H a y w ∧ (∀ c, o = some c → ∃ v, w = some v ∧ Rep K A H c v) ∧ (o = none → w = none) := by
  cases d with
  | dK kvs =>
    obtain ⟨a, vs, rfl, h1, e1, r1⟩ := rx.dK_inv
    simp only [lookD, Option.map_eq_some_iff] at h
    obtain ⟨k, hk, rfl⟩ := h
    rw [keyOf_rep hk ry]
    obtain ⟨q1, q2⟩ := repK_val e1 r1 k
    exact ⟨a, _, rfl, DGet.k h1, fun c hc => q1 c hc, q2⟩
  | dT kvs =>
    obtain ⟨a, vs, rfl, h1, e1, r1⟩ := rx.dT_inv
    cases e with
    | tup xs =>
      obtain ⟨b, us, rfl, h2, r2⟩ := ry.tup_inv
      simp only [lookD, Option.map_eq_some_iff] at h
      obtain ⟨k, hk, rfl⟩ := h
      rw [keysOf_rep hk r2] at h2
      obtain ⟨q1, q2⟩ := repK_val e1 r1 k
      exact ⟨a, _, rfl, DGet.t h1 h2, fun c hc => q1 c hc, q2⟩
    | _ => simp [lookD] at h
  | _ => simp [lookD] at h
noncomputable def rGetD : R2 := fun x y H Q => ∃ a v, x = .ref a ∧ DGet H a y (some v) ∧ Q v H
theorem ix_dict (hu : X.A.units + 1 < cLine) : IxR X rGetD := by
  intro value slice pins s σ H x y v u Q I rx ry h hs
  obtain ⟨a, w, rfl, g, q⟩ := h
  cases rx
  unfold subscriptTail
  refine wpAny_bind ?_
  rw [getitemInPython_of_ne (dict_typeIs I g).not_modules]
  refine wpAny_bind (wpAny_specialOf (dict_typeIs I g) PySem.F.slot_dict_getitem.lookup ?_)
  have fin : wpAny (model X.prog X.w) X.A (subscripted slice false (.ref a) u) (fun r s₃ => wpAny (model X.prog X.w) X.A (letTemporaryGo value (.ref a) r >>= fun _ => pure r) (EP X pins σ Q) X.xe s₃) X.xe s := by
    rw [hs]
    exact wpAny_operating (d_getItem hu I g ry fun w' s3 I3 rw' => wpAny_bind (wpAny_letTemporaryGo (wpAny_pure ⟨w, H, I3, rw', q⟩)))
  first
    | exact wpAny_pure (wpAny_bind fin)
    | exact wpAny_bind (wpAny_pure (wpAny_bind fin))
    | exact wpAny_bind fin
noncomputable def rIxA (K : PySem.W.Frag) : R2 := fun x y H Q => rIx K x y H Q ∨ rGetD x y H Q
theorem ix_any (hu : X.A.units + 1 < cLine) : IxR X (rIxA X.K) := ix_seq.or (ix_dict hu)
noncomputable def fIx : O2 := fun d e Φ => match d, e with
  | .lst xs, .int i => ∃ c, atI xs i = some c ∧ Φ (.val c)
  | .tup xs, .int i => ∃ c, atI xs i = some c ∧ Φ (.val c)
  | .con xs, .int i => ∃ c, atI xs i = some c ∧ Φ (.val c)
  | .scr xs, .int i => ∃ c, atI xs i = some c ∧ Φ (.val c)
  | .str z, .int i => z.length ≤ 100000 ∧ ∃ c, atI z.cps.toList i = some c ∧ Φ (.val (.str ⟨#[c]⟩))
  | d, e => ∃ c, lookD d e = some (some c) ∧ Φ (.val c)
theorem reps_at {ds : List D} {vs : List V} {i : Int} {c : D} (r : Reps K A H ds vs) (h : atI ds i = some c) : ∃ v, atI vs i = some v ∧ Rep K A H c v := by
  unfold atI at h ⊢
  rw [← r.length]
  cases e : ixN ds.length i with
  | none => rw [e] at h; cases h
  | some j =>
    rw [e] at h
    obtain ⟨v, h1, h2⟩ := r.get (i := j) h
    exact ⟨v, h1, h2⟩
theorem od_ix : OpD K (rIxA K) fIx := by
  intro B L H d e x y Φ Q hd rx ry hf k
  unfold fIx at hf
  split at hf
  · cases ry
    obtain ⟨a, vs, rfl, h1, r1⟩ := rx.lst_inv
    obtain ⟨c, hc, hf⟩ := hf
    obtain ⟨v, hv, rv⟩ := reps_at r1 hc
    exact .inl (.inl ⟨a, vs, _, v, rfl, rfl, SqL.of h1, hv, k _ _ H hf (hd.pushF rv)⟩)
  · cases ry
    obtain ⟨a, vs, rfl, h1, r1⟩ := rx.tup_inv
    obtain ⟨c, hc, hf⟩ := hf
    obtain ⟨v, hv, rv⟩ := reps_at r1 hc
    exact .inl (.inr (.inl ⟨a, vs, _, v, rfl, rfl, SqT.of h1, hv, k _ _ H hf (hd.pushF rv)⟩))
  · cases ry
    obtain ⟨a, vs, rfl, h1, r1⟩ := rx.con_inv
    obtain ⟨c, hc, hf⟩ := hf
    obtain ⟨v, hv, rv⟩ := reps_at r1 hc
    exact .inl (.inr (.inl ⟨a, vs, _, v, rfl, rfl, h1.sqT, hv, k _ _ H hf (hd.pushF rv)⟩))
  · cases ry
    obtain ⟨a, vs, rfl, h1, r1⟩ := rx.scr_inv
    obtain ⟨c, hc, hf⟩ := hf
    obtain ⟨v, hv, rv⟩ := reps_at r1 hc
    exact .inl (.inl ⟨a, vs, _, v, rfl, rfl, h1.sqL, hv, k _ _ H hf (hd.pushF rv)⟩)
  · cases ry; cases rx
    obtain ⟨hz, c, hc, hf⟩ := hf
    exact .inl (.inr (.inr ⟨_, _, c, rfl, rfl, big100 hz, hc, k _ _ H hf (hd.pushF (.str _))⟩))
  · obtain ⟨c, hc, hf⟩ := hf
    obtain ⟨a, w, rfl, g, h1, _⟩ := lookD_rep hc rx ry
    obtain ⟨v, rfl, rv⟩ := h1 c rfl
    exact .inr ⟨a, v, rfl, g, k _ _ H hf (hd.pushF rv)⟩
theorem pd_ix {a b : Expr} {ta tb : TEd} {pos : Pos} (hu : X.A.units + 1 < cLine) (ha : PD X a ta) (hb : PD X b tb) (hs : PlainIx b := by exact fun _ _ => rfl) : PD X (.Subscript a b pos) (d2 fIx ta tb) :=
  (pe_ix (ix_any hu) ha hb hs).mono fun _ _ _ h => d2_walk od_ix h
noncomputable def rInD (neg : Bool) : R2 := fun y x H Q => ∃ a o, x = .ref a ∧ DGet H a y o ∧ Q (.bl (nb neg o.isSome)) H
theorem op_notInD (hu : X.A.units + 1 < cLine) : OpR X (compareOp .NotIn) (rInD true) := by
  intro pins s σ H x y v u Q I rx ry h
  obtain ⟨a, o, rfl, g, q⟩ := h
  cases ry
  exact d_notIn hu I g rx fun s3 I3 => ⟨.bl (!o.isSome), H, I3, rfl, q⟩
noncomputable def rInS (neg : Bool) : R2 := fun x y H Q => ∃ i j, x = .str i ∧ y = .str j ∧ Q (.bl (nb neg (!(Builtin.Str.occurrences j i 0 j.length 1).isEmpty))) H
noncomputable def rInA (K : PySem.W.Frag) (neg : Bool) : R2 := fun x y H Q => rIn K neg x y H Q ∨ rInS neg x y H Q ∨ rInD neg x y H Q
theorem op_notInA (hu : X.A.units + 1 < cLine) : OpR X (compareOp .NotIn) (rInA X.K true) := op_notIn_seq.or ((show OpR X (compareOp .NotIn) (rInS true) from op_notin_str).or (op_notInD hu))
noncomputable def flatD : D → Option V
  | .non => some .non
  | .bl b => some (.bl b)
  | .int i => some (.int i)
  | .str x => some (.str x)
  | _ => none
noncomputable def flatsD : List D → Option (List V)
  | [] => some []
  | d :: ds => match flatD d, flatsD ds with
    | some v, some vs => some (v :: vs)
    | _, _ => none
theorem flatsD_map {α : Type} {f : α → D} {g : α → V} (h : ∀ x, flatD (f x) = some (g x)) : ∀ xs : List α, flatsD (xs.map f) = some (xs.map g)
  | [] => rfl
  | x :: xs => by rw [List.map_cons, flatsD, h x, flatsD_map h xs]; rfl
theorem flatD_rep {d : D} {u v : V} (h : flatD d = some u) (r : Peek K A H d v) : v = u ∧ flatV u = true := by
  cases d <;> simp only [flatD, reduceCtorEq, Option.some.injEq] at h <;> subst h <;> cases r <;> exact ⟨rfl, rfl⟩
theorem flatsD_rep : ∀ {ds : List D} {us vs : List V}, flatsD ds = some us → Reps K A H ds vs → vs = us ∧ us.all flatV = true
  | [], us, _, h, .nil => by simp only [flatsD, Option.some.injEq] at h; subst h; exact ⟨rfl, rfl⟩
  | d :: ds, us, _, h, .cons r rs => by
    rw [flatsD] at h
    cases e1 : flatD d with
    | none => rw [e1] at h; simp at h
    | some k =>
      cases e2 : flatsD ds with
      | none => rw [e1, e2] at h; simp at h
      | some ks' =>
        rw [e1, e2] at h
        simp only [Option.some.injEq] at h
        subst h
        obtain ⟨h1, h2⟩ := flatD_rep e1 r.peek
        obtain ⟨h3, h4⟩ := flatsD_rep e2 rs
        exact ⟨by rw [h1, h3], by rw [List.all_cons, h2, h4]; rfl⟩
noncomputable def fInL (neg : Bool) (d : D) (xs : List D) (Φ : Sl → Prop) : Prop := ∃ v vs, flatD d = some v ∧ flatsD xs = some vs ∧ Φ (.val (.bl (nb neg (inV v vs))))
noncomputable def fIn (neg : Bool) : O2 := fun d e Φ => match e with
  | .lst xs => fInL neg d xs Φ
  | .tup xs => fInL neg d xs Φ
  | .con xs => fInL neg d xs Φ
  | .str j => ∃ i, d = .str i ∧ Φ (.val (.bl (nb neg (!(Builtin.Str.occurrences j i 0 j.length 1).isEmpty))))
  | e => ∃ o, lookD e d = some o ∧ Φ (.val (.bl (nb neg o.isSome)))
theorem od_in (neg : Bool) : OpD K (rInA K neg) (fIn neg) := by
  intro B L H d e x y Φ Q hd rx ry hf k
  have seq : ∀ (a : Addr) (xs : List D) (us : List V), fInL neg d xs Φ → y = .ref a → (SqL K H a us ∨ SqT K H a us) → Reps K (Al B (roots L)) H xs us → rInA K neg x y H Q := by
    rintro a xs us ⟨v, vs, h1, h2, h3⟩ rfl hs r
    obtain ⟨q1, q2⟩ := flatD_rep h1 rx
    obtain ⟨q3, q4⟩ := flatsD_rep h2 r
    subst q1 q3
    exact .inl ⟨a, us, rfl, hs, q2, q4, k _ _ H h3 (hd.pushF (.bl _))⟩
  unfold fIn at hf
  split at hf
  · obtain ⟨a, vs, e1, h1, r1⟩ := ry.lst_inv
    exact seq a _ vs hf e1 (.inl (SqL.of h1)) r1
  · obtain ⟨a, vs, e1, h1, r1⟩ := ry.tup_inv
    exact seq a _ vs hf e1 (.inr (SqT.of h1)) r1
  · obtain ⟨a, vs, e1, h1, r1⟩ := ry.con_inv
    exact seq a _ vs hf e1 (.inr h1.sqT) r1
  · obtain ⟨i, rfl, hf⟩ := hf
    cases rx; cases ry
    exact .inr (.inl ⟨_, _, rfl, rfl, k _ _ H hf (hd.pushF (.bl _))⟩)
  · obtain ⟨o, ho, hf⟩ := hf
    obtain ⟨a, w, rfl, g, h1, h2⟩ := lookD_rep ho ry rx
    have e : o.isSome = w.isSome := by
      cases o with
      | none => rw [h2 rfl]; rfl
      | some c => obtain ⟨v, rfl, _⟩ := h1 c rfl; rfl
    exact .inr (.inr ⟨a, w, rfl, g, by rw [← e]; exact k _ _ H hf (hd.pushF (.bl _))⟩)
end
end L2
namespace L2
open PySem PySem.Spec PyProof.Rows Lw
mutual
noncomputable def py : D → PyData
  | .non => .none
  | .bl b => .bool b
  | .int i => .int i
  | .str x => .str x
  | .tup xs => .tuple (pyL xs)
  | .lst xs => .list (pyL xs)
  | .con xs => .tuple (pyL xs)
  | .scr xs => .list (pyL xs)
  | _ => .none
noncomputable def pyL : List D → List PyData
  | [] => []
  | d :: ds => py d :: pyL ds
end
mutual
noncomputable def layD : D → Bool
  | .non => true
  | .bl _ => true
  | .int _ => true
  | .str x => PyData.strOk x
  | .tup xs => layL xs
  | .lst xs => layL xs
  | .con xs => layL xs
  | .scr xs => layL xs
  | _ => false
noncomputable def layL : List D → Bool
  | [] => true
  | d :: ds => layD d && layL ds
end
section
variable {X : Cx} {K : PySem.W.Frag} {A : Addr → Prop} {H : Hp}
mutual
theorem rep_dat : ∀ {d : D} {v : V}, Rep K A H d v → layD d = true → DatV K H v (py d)
  | _, _, .non, _ => .non
  | _, _, .bl b, _ => .bl b
  | _, _, .int i, _ => .int i
  | _, _, .str x, _ => .str x
  | _, _, .raw v, e => by simp [layD] at e
  | _, _, .tup h r, e => .tup (SqT.of h) (reps_dat r (by simpa [layD] using e))
  | _, _, .con h r, e => .tup h.sqT (reps_dat r (by simpa [layD] using e))
  | _, _, .lst _ h r, e => .lst (SqL.of h) (reps_dat r (by simpa [layD] using e))
  | _, _, .scr h r, e => .lst h.sqL (reps_dat r (by simpa [layD] using e))
  | _, _, .dK _ _ _ _, e => by simp [layD] at e
  | _, _, .dT _ _ _ _, e => by simp [layD] at e
theorem reps_dat : ∀ {ds : List D} {vs : List V}, Reps K A H ds vs → layL ds = true → DatVs K H vs (pyL ds)
  | _, _, .nil, _ => .nil
  | _, _, .cons h r, e => by
    rw [layL, Bool.and_eq_true] at e
    exact .cons (rep_dat h e.1) (reps_dat r e.2)
end
theorem peek_dat {d : D} {v : V} (h : Peek K A H d v) (e : layD d = true) : DatV K H v (py d) := by
  cases d with
  | lst _ => obtain ⟨a, vs, rfl, h, r⟩ := h.lst_inv; exact .lst (SqL.of h) (reps_dat r (by simpa [layD] using e))
  | dK _ => simp [layD] at e
  | dT _ => simp [layD] at e
  | _ => exact rep_dat h e
mutual
theorem lay_can : ∀ {d : D}, layD d = true → (py d).canLay0 = true
  | .non, _ => rfl
  | .bl _, _ => rfl
  | .int _, _ => rfl
  | .str x, e => by simpa [py, PyData.canLay0, layD] using e
  | .tup xs, e => by simp only [py, PyData.canLay0]; exact lays_can (by simpa [layD] using e)
  | .con xs, e => by simp only [py, PyData.canLay0]; exact lays_can (by simpa [layD] using e)
  | .lst xs, e => by simp only [py, PyData.canLay0]; exact lays_can (by simpa [layD] using e)
  | .scr xs, e => by simp only [py, PyData.canLay0]; exact lays_can (by simpa [layD] using e)
  | .raw _, e => by simp [layD] at e
  | .dK _, e => by simp [layD] at e
  | .dT _, e => by simp [layD] at e
theorem lays_can : ∀ {ds : List D}, layL ds = true → PyData.canLayAll0 (pyL ds) = true
  | [], _ => rfl
  | d :: ds, e => by
    rw [layL, Bool.and_eq_true] at e
    simp only [pyL, PyData.canLayAll0, lay_can e.1, lays_can e.2, Bool.and_self]
end
mutual
theorem eqv_same : ∀ {d : D}, layD d = true → PyData.eqv (py d) (py d) = true
  | .non, _ => rfl
  | .bl b, _ => by simp [py, PyData.eqv]
  | .int i, _ => by simp [py, PyData.eqv]
  | .str x, _ => by simp [py, PyData.eqv]
  | .tup xs, e => by simp only [py, PyData.eqv]; exact eqvs_same (by simpa [layD] using e)
  | .con xs, e => by simp only [py, PyData.eqv]; exact eqvs_same (by simpa [layD] using e)
  | .lst xs, e => by simp only [py, PyData.eqv]; exact eqvs_same (by simpa [layD] using e)
  | .scr xs, e => by simp only [py, PyData.eqv]; exact eqvs_same (by simpa [layD] using e)
  | .raw _, e => by simp [layD] at e
  | .dK _, e => by simp [layD] at e
  | .dT _, e => by simp [layD] at e
theorem eqvs_same : ∀ {ds : List D}, layL ds = true → PyData.eqvAll (pyL ds) (pyL ds) = true
  | [], _ => rfl
  | d :: ds, e => by
    rw [layL, Bool.and_eq_true] at e
    simp only [pyL, PyData.eqvAll, eqv_same e.1, eqvs_same e.2, Bool.and_self]
end
noncomputable def rEqDS (v : Bool) : R2 := fun x y H Q => ∃ (a b : Addr) (kvs kws : List (Key × V)), x = .ref a ∧ y = .ref b ∧ H a = some (.dK kvs) ∧ H b = some (.dK kws) ∧ kvs.length = kws.length ∧
  (∀ p ∈ kvs, ∃ w, valV kws p.1 = some w ∧ flatV p.2 = true ∧ flatV w = true ∧ eqV p.2 w = true) ∧ Q (.bl v) H
theorem hits_all {A : Around} {s : Shared} {kws : List (Key × V)} {kb : List (Key × Value)} (rb : KV kws kb) : ∀ (r : List (Key × V)) (ka : List (Key × Value)), KV r ka →
    (∀ p ∈ r, ∃ w, valV kws p.1 = some w ∧ flatV p.2 = true ∧ flatV w = true ∧ eqV p.2 w = true) → PySem.W.KeqHits A s kb ka true
  | [], _, .nil, _ => .nil
  | (k, v) :: r, (k', v') :: ka, .cons ⟨e, rv⟩ h2, hf => by
    have e : k = k' := e
    subst e
    obtain ⟨w, hw, f1, f2, f3⟩ := hf (k, v) List.mem_cons_self
    have hr := rb.val k
    rw [hw] at hr
    obtain ⟨y, ey, ry⟩ := hr.some_of
    have hE : SeqAt.EqAt A s v' y (eqV v w) := eqAt_V rv ry f1 f2
    rw [f3] at hE
    have := PySem.W.KeqHits.hit ey hE (hits_all rb r ka h2 fun p hp => hf p (List.mem_cons_of_mem _ hp))
    rw [Bool.true_and] at this
    exact this
theorem op_eqDS (hu : X.A.units < cLine) : OpR X (compareOp .Eq) (rEqDS true) := by
  intro pins s σ H x y v u Q I rx ry h
  obtain ⟨a, b, kvs, kws, rfl, rfl, h1, h2, hl, hf, q⟩ := h
  cases rx
  cases ry
  obtain ⟨z1, d1, va, ra, da⟩ := dk_of I.hok h1
  obtain ⟨z2, d2, vb, rb, db⟩ := dk_of I.hok h2
  have hl : va.length = vb.length := by rw [← ra.length, ← rb.length]; exact hl
  refine PySem.W.keq_eq d1 d2 da db hu (fun _ => hits_all rb kvs va ra hf) ⟨.bl _, H, I, rfl, ?_⟩
  rw [hl]; simpa using q
theorem op_neDS (hu : X.A.units < cLine) : OpR X (compareOp .NotEq) (rEqDS false) := by
  intro pins s σ H x y v u Q I rx ry h
  obtain ⟨a, b, kvs, kws, rfl, rfl, h1, h2, hl, hf, q⟩ := h
  cases rx
  cases ry
  obtain ⟨z1, d1, va, ra, da⟩ := dk_of I.hok h1
  obtain ⟨z2, d2, vb, rb, db⟩ := dk_of I.hok h2
  have hl : va.length = vb.length := by rw [← ra.length, ← rb.length]; exact hl
  refine PySem.W.keq_ne d1 d2 da db hu (fun _ => hits_all rb kvs va ra hf) ⟨.bl _, H, I, rfl, ?_⟩
  rw [hl]; simpa using q
noncomputable def rScal (neg : Bool) : R2 := fun x y H Q => scal x y = true ∧ Q (.bl (nb neg (decide (x = y)))) H
noncomputable def rEqA (K : PySem.W.Frag) (neg : Bool) : R2 := fun x y H Q => rScal neg x y H Q ∨ rEqNil K neg x y H Q ∨ rEqDS (!neg) x y H Q ∨ rEqD K neg x y H Q
theorem op_eqA (hu : X.A.units + 64 < cLine) : OpR X (compareOp .Eq) (rEqA X.K false) := (show OpR X (compareOp .Eq) (rScal false) from op_eq).or ((op_eqNil hu).or ((op_eqDS (by omega)).or (op_eqD hu)))
theorem op_neA (hu : X.A.units + 64 < cLine) : OpR X (compareOp .NotEq) (rEqA X.K true) := (show OpR X (compareOp .NotEq) (rScal true) from op_ne).or ((op_neNil hu).or ((op_neDS (by omega)).or (op_neD hu)))
noncomputable def SameK (xs ys : List (Key × D)) : Prop := xs.length = ys.length ∧ ∀ p ∈ xs, ∃ e v w, valD ys p.1 = some e ∧ flatD p.2 = some v ∧ flatD e = some w ∧ eqV v w = true
noncomputable def fEq (neg : Bool) : O2 := fun d e Φ => match d, e with
  | .int i, .int j => Φ (.val (.bl (nb neg (decide (i = j)))))
  | .str i, .str j => Φ (.val (.bl (nb neg (decide (i = j)))))
  | .bl i, .bl j => Φ (.val (.bl (nb neg (decide (i = j)))))
  | .lst xs, .lst [] => Φ (.val (.bl (nb neg xs.isEmpty)))
  | .dK xs, .dK ys => SameK xs ys ∧ Φ (.val (.bl (!neg)))
  | d, e => layD d = true ∧ layD e = true ∧ min (py d).depth (py e).depth ≤ 60 ∧ Φ (.val (.bl (nb neg (PyData.eqv (py d) (py e)))))
theorem sameK_rep {xs ys : List (Key × D)} {kvs kws : List (Key × V)} (h : SameK xs ys) (e1 : xs.map (·.1) = kvs.map (·.1)) (r1 : Reps K A H (xs.map (·.2)) (kvs.map (·.2))) (e2 : ys.map (·.1) = kws.map (·.1)) (r2 : Reps K A H (ys.map (·.2)) (kws.map (·.2))) :
    kvs.length = kws.length ∧ ∀ p ∈ kvs, ∃ w, valV kws p.1 = some w ∧ flatV p.2 = true ∧ flatV w = true ∧ eqV p.2 w = true := by
  refine ⟨by have a := congrArg List.length e1; have b := congrArg List.length e2; have c := h.1; simp only [List.length_map] at a b; omega, fun p hp => ?_⟩
  have : ∀ (xs : List (Key × D)) (kvs : List (Key × V)), xs.map (·.1) = kvs.map (·.1) → Reps K A H (xs.map (·.2)) (kvs.map (·.2)) → p ∈ kvs → ∃ q ∈ xs, q.1 = p.1 ∧ Rep K A H q.2 p.2 := by
    intro xs
    induction xs with
    | nil => intro kvs e _ hp; cases kvs with
      | nil => cases hp
      | cons _ _ => simp at e
    | cons q xs ih => intro kvs e r hp; cases kvs with
      | nil => cases hp
      | cons k kvs =>
        simp only [List.map_cons, List.cons.injEq] at e
        cases r with
        | cons g r =>
          rcases List.mem_cons.mp hp with z | z
          · subst z; exact ⟨q, List.mem_cons_self, e.1, g⟩
          · obtain ⟨q', h1, h2⟩ := ih kvs e.2 r z
            exact ⟨q', List.mem_cons_of_mem _ h1, h2⟩
  obtain ⟨q, hq, eq1, rq⟩ := this xs kvs e1 r1 hp
  obtain ⟨e, v, w, h1, h2, h3, h4⟩ := h.2 q hq
  rw [eq1] at h1
  obtain ⟨w', hw, rw'⟩ := (repK_val e2 r2 p.1).1 e h1
  obtain ⟨z1, z2⟩ := flatD_rep h2 rq.peek
  obtain ⟨z3, z4⟩ := flatD_rep h3 rw'.peek
  subst z1 z3
  exact ⟨w', hw, z2, z4, h4⟩
theorem od_eq (neg : Bool) : OpD K (rEqA K neg) (fEq neg) := by
  intro B L H d e x y Φ Q hd rx ry hf k
  unfold fEq at hf
  split at hf
  · cases rx; cases ry
    rename_i i j
    have e1 : decide (V.int i = V.int j) = decide (i = j) := by simp
    exact .inl ⟨rfl, by rw [e1]; exact k _ _ H hf (hd.pushF (.bl _))⟩
  · cases rx; cases ry
    rename_i i j
    have e1 : decide (V.str i = V.str j) = decide (i = j) := by simp
    exact .inl ⟨rfl, by rw [e1]; exact k _ _ H hf (hd.pushF (.bl _))⟩
  · cases rx; cases ry
    rename_i i j
    have e1 : decide (V.bl i = V.bl j) = decide (i = j) := by simp
    exact .inl ⟨rfl, by rw [e1]; exact k _ _ H hf (hd.pushF (.bl _))⟩
  · rename_i xs
    obtain ⟨a, vs, rfl, h1, r1⟩ := rx.lst_inv
    obtain ⟨b, us, rfl, h2, r2⟩ := ry.lst_inv
    cases r2
    have e1 : xs.isEmpty = vs.isEmpty := by cases r1 <;> rfl
    refine .inr (.inl ⟨a, b, vs, rfl, rfl, SqL.of h1, SqL.of h2, ?_⟩)
    rw [← e1]
    exact k _ _ H hf (hd.pushF (.bl _))
  · obtain ⟨a, kvs, rfl, h1, e1, r1⟩ := rx.dK_inv
    obtain ⟨b, kws, rfl, h2, e2, r2⟩ := ry.dK_inv
    obtain ⟨q1, q2⟩ := sameK_rep hf.1 e1 r1 e2 r2
    exact .inr (.inr (.inl ⟨a, b, kvs, kws, rfl, rfl, h1, h2, q1, q2, k _ _ H hf.2 (hd.pushF (.bl _))⟩))
  · obtain ⟨l1, l2, dp, hf⟩ := hf
    exact .inr (.inr (.inr ⟨_, _, peek_dat rx l1, peek_dat ry l2, lay_can l1, lay_can l2, dp, k _ _ H hf (hd.pushF (.bl _))⟩))
end
end L2
namespace L2
open PySem PySem.Spec PyProof.Rows Lw
noncomputable def cutD (xs : List D) (lo hi : Option Int) : List D := (xs.drop (HT.sIx xs.length 0 lo)).take (HT.sIx xs.length xs.length hi - HT.sIx xs.length 0 lo)
noncomputable def pt (o : Option TEd) : List Addr → List Sl → (Option Int → List Sl → Prop) → Prop := fun dk ρ k => match o with
  | none => k none ρ
  | some t => t dk ρ fun r ρ' => match r with
    | .val (.int i) => k (some i) ρ'
    | _ => False
noncomputable def vPart (K : PySem.W.Frag) : Option TEd → TO
  | none => tNoPart
  | some t => tPart (dE K t)
noncomputable abbrev O3 := D → Option Int → Option Int → (Sl → Prop) → Prop
noncomputable def dSl (f : O3) (ta : TEd) (lo hi : Option TEd) : TEd := fun dk ρ Φ => ta dk ρ fun ra ρ1 => pt lo dk ρ1 fun l ρ2 => pt hi dk ρ2 fun u ρ3 => match sd ra with
  | some d => f d l u fun r => Φ r ρ3
  | none => False
noncomputable def dSlS (f : O3) (i : Nat) (lo hi : Option TEd) : TEd := fun dk ρ Φ => (at? ρ i).isSome = true ∧ pt lo dk ρ fun l ρ2 => pt hi dk ρ2 fun u ρ3 => match at? ρ3 i with
  | some d => f d l u fun r => Φ r ρ3
  | none => False
noncomputable abbrev R3 := V → Option Int → Option Int → Hp → VK → Prop
noncomputable def SlD (K : PySem.W.Frag) (r : R3) (f : O3) : Prop := ∀ (B : Bs) (L : Ents) (H : Hp) (d : D) (lo hi : Option Int) (x : V) (Φ : Sl → Prop) (Q : VK), DS K B L H → Peek K (Al B (roots L)) H d x → f d lo hi Φ →
  (∀ s v H', Φ s → DS K B ((s, some v) :: L) H' → Q v H') → r x lo hi H Q
section
variable {X : Cx} {K : PySem.W.Frag} {a b c : Expr} {ta tb tc : TEd} {pos p2 : Pos} {lo hi : Option Expr}
theorem pt_walk {o : Option TEd} {B : Bs} {ρ : List Sl} {σ : St} {T : Ents} {H : Hp} {k : Option Int → List Sl → Prop} {Q : Option Int → Hp → Prop} (hl : ρ.length = σ.length) (hd : DS K B (ρ.zip σ ++ T) H) (h : pt o B.dk ρ k)
    (hk : ∀ i ρ' H', ρ'.length = σ.length → DS K B (ρ'.zip σ ++ T) H' → k i ρ' → Q i H') : vPart K o σ H Q := by
  cases o with
  | none => exact hk none ρ H hl hd h
  | some t =>
    refine ⟨B, ρ, T, _, hl, hd, h, fun r ρ' v H' l1 d1 h1 => ?_⟩
    cases r with
    | no => exact h1.elim
    | own d => exact h1.elim
    | val d =>
      cases d with
      | int i => exact ⟨i, d1.valAt.int_inv, hk (some i) ρ' H' l1 d1.drop h1⟩
      | _ => exact h1.elim
theorem po_n : PO X none (vPart X.K none) := po_none
theorem po_s {e : Expr} {t : TEd} (h : PD X e t) : PO X (some e) (vPart X.K (some t)) := po_some h
theorem pd_slS {f : O3} {r : R3} {ol oh : Option TEd} {i : Nat} (hr : SlR X r) (hf : SlD X.K r f) (ha : PE X a (tVar i)) (h1 : PO X lo (vPart X.K ol)) (h2 : PO X hi (vPart X.K oh)) : PD X (.Subscript a (.Slice lo hi none p2) pos) (dSlS f i ol oh) :=
  (pe_slice hr ha h1 h2).mono fun σ H Q ⟨B, ρ, T, Φ, hl, hd, ⟨hi', ht⟩, k⟩ => by
    obtain ⟨d0, h0⟩ := Option.isSome_iff_exists.mp hi'
    obtain ⟨x, hx, _⟩ := hd.peek hl h0
    refine ⟨x, hx, pt_walk hl hd ht fun l ρ2 H2 l2 d2 q2 => pt_walk l2 d2 q2 fun u ρ3 H3 l3 d3 q3 => ?_⟩
    cases e1 : at? ρ3 i with
    | none => rw [e1] at q3; exact q3.elim
    | some d =>
      rw [e1] at q3
      obtain ⟨x', hx', px⟩ := d3.peek l3 e1
      rw [hx] at hx'
      cases hx'
      exact hf B _ H3 d l u x _ Q d3 px q3 fun s v H' hs hd' => k s ρ3 v H' l3 hd'.mid hs
noncomputable def rSlA (K : PySem.W.Frag) : R3 := fun x lo hi H Q => rSlL K x lo hi H Q ∨ rSlT K x lo hi H Q ∨ rSlS x lo hi H Q
theorem sl_any : SlR X (rSlA X.K) := sl_list.or (sl_tup.or sl_str)
noncomputable def fSl : O3
  | .lst xs, lo, hi, Φ => Φ (.own (.lst (cutD xs lo hi)))
  | .scr xs, lo, hi, Φ => Φ (.own (.lst (cutD xs lo hi)))
  | .tup xs, lo, hi, Φ => ¬ (HT.sIx xs.length 0 lo = 0 ∧ HT.sIx xs.length xs.length hi = xs.length) ∧ Φ (.val (.tup (cutD xs lo hi)))
  | .str z, lo, hi, Φ => z.length ≤ 100000 ∧ Φ (.val (.str (cutS z lo hi)))
  | _, _, _, _ => False
theorem reps_cut {A : Addr → Prop} {H : Hp} {ds : List D} {vs : List V} (r : Reps K A H ds vs) (lo hi : Option Int) : Reps K A H (cutD ds lo hi) (cutV vs lo hi) := by
  unfold cutD cutV
  rw [r.length]
  exact (r.drop _).take _
theorem sd_sl : SlD K (rSlA K) fSl := by
  intro B L H d lo hi x Φ Q hd rx hf k
  unfold fSl at hf
  split at hf
  · obtain ⟨a, vs, rfl, h1, r1⟩ := rx.lst_inv
    exact .inl ⟨a, vs, rfl, SqL.of h1, fun p hp => k _ _ _ hf (hd.lstF hp (reps_cut r1 lo hi))⟩
  · obtain ⟨a, vs, rfl, h1, r1⟩ := rx.scr_inv
    exact .inl ⟨a, vs, rfl, h1.sqL, fun p hp => k _ _ _ hf (hd.lstF hp (reps_cut r1 lo hi))⟩
  · obtain ⟨a, vs, rfl, h1, r1⟩ := rx.tup_inv
    exact .inr (.inl ⟨a, vs, rfl, SqT.of h1, by rw [← r1.length]; exact hf.1, fun p hp => k _ _ _ hf.2 (hd.tupF hp (reps_cut r1 lo hi))⟩)
  · cases rx
    exact .inr (.inr ⟨_, rfl, big100 hf.1, k _ _ _ hf.2 (hd.pushF (.str _))⟩)
  · exact hf.elim
noncomputable abbrev O1 := D → (Sl → Prop) → Prop
noncomputable abbrev R1 := V → Hp → VK → Prop
noncomputable def UnD (K : PySem.W.Frag) (r : R1) (f : O1) : Prop := ∀ (B : Bs) (L : Ents) (H : Hp) (d : D) (x : V) (Φ : Sl → Prop) (Q : VK), DS K B L H → Peek K (Al B (roots L)) H d x → f d Φ → (∀ s v H', Φ s → DS K B ((s, some v) :: L) H' → Q v H') → r x H Q
noncomputable def d1 (f : O1) (ta : TEd) : TEd := fun dk ρ Φ => ta dk ρ fun ra ρ1 => match sd ra with
  | some d => f d fun r => Φ r ρ1
  | none => False
theorem d1_walk {f : O1} {r : R1} (hf : UnD X.K r f) {σ : St} {H : Hp} {Q : VK} (h : dE X.K (d1 f ta) σ H Q) : dE X.K ta σ H fun x H1 => r x H1 Q := by
  obtain ⟨B, ρ, T, Φ, hl, hd, ht, k⟩ := h
  refine ⟨B, ρ, T, _, hl, hd, ht, fun ra ρ1 x H1 l1 d1 h1 => ?_⟩
  cases e1 : sd ra with
  | none => rw [e1] at h1; exact h1.elim
  | some d =>
    rw [e1] at h1
    obtain ⟨q1, q2⟩ := d1.one e1
    exact hf B _ H1 d x _ Q q1 q2.peek h1 fun s v H' hs hd' => k s ρ1 v H' l1 hd'.mid hs
noncomputable def fNeg : O1
  | .int i, Φ => Φ (.val (.int (-i)))
  | _, _ => False
theorem pd_neg (ha : PD X a ta) : PD X (.UnaryOp .USub a pos) (d1 fNeg ta) := (pe_un un_neg ha).mono fun _ _ _ h => d1_walk (f := fNeg) (fun B L H d x Φ Q hd rx hf k => by
  unfold fNeg at hf
  split at hf
  · cases rx; exact ⟨_, rfl, k _ _ H hf (hd.pushF (.int _))⟩
  · exact hf.elim) h
noncomputable def truD : D → Option Bool
  | .non => some false
  | .bl b => some b
  | .int i => some (i != 0)
  | .str x => some ((x.length : Int) != 0)
  | .lst xs => some (!xs.isEmpty)
  | .tup xs => some (!xs.isEmpty)
  | .dK xs => some (!xs.isEmpty)
  | _ => none
noncomputable def strS : D → Bool
  | .str x => decide (x.length ≤ 100000)
  | _ => true
theorem tru_peek {A : Addr → Prop} {H : Hp} {d : D} {x : V} {k : Bool} (h : Peek K A H d x) (e : truD d = some k) (hs : strS d = true) : TruV K x H k := by
  cases d <;> simp only [truD, reduceCtorEq, Option.some.injEq] at e <;> subst e
  · have := h.non_inv; subst this; rfl
  · have := h.bl_inv; subst this; rfl
  · have := h.int_inv; subst this; rfl
  · have := h.str_inv; subst this; exact ⟨big100 (of_decide_eq_true hs), rfl⟩
  · obtain ⟨a, vs, rfl, h, r⟩ := h.tup_inv; exact .inr (.inl ⟨vs, SqT.of h, by cases r <;> rfl⟩)
  · obtain ⟨a, vs, rfl, h, r⟩ := h.lst_inv; exact .inl ⟨vs, SqL.of h, by cases r <;> rfl⟩
  · rename_i kvs
    obtain ⟨a, vs, rfl, h, e, r⟩ := h.dK_inv
    refine .inr (.inr ⟨vs, h, ?_⟩)
    cases kvs <;> cases vs <;> simp at e ⊢
noncomputable def tst (t : TEd) : TTd := fun dk ρ Φ => t dk ρ fun r ρ' => match sd r with
  | some d => strS d = true ∧ ∃ b, truD d = some b ∧ Φ b ρ'
  | none => False
noncomputable def tstS (i : Nat) : TTd := fun dk ρ Φ => match at? ρ i with
  | some d => strS d = true ∧ ∃ b, truD d = some b ∧ Φ b ρ
  | none => False
theorem pdt_v (ha : PD X a ta) (he : ∀ whole, isTrue a X.env whole = (do let v ← whole; standAt a.pos; holding [v] (truthy v)) := by intro _; rfl) : PDt X a (tst ta) :=
  (pt_truth ha he).mono fun σ H Q ⟨B, ρ, T, Φ, hl, hd, ht, k⟩ => ⟨B, ρ, T, _, hl, hd, ht, fun r ρ' v H' l1 d1 h1 => by
    cases e1 : sd r with
    | none => rw [e1] at h1; exact h1.elim
    | some d =>
      rw [e1] at h1
      obtain ⟨hs, b, hb, h1⟩ := h1
      obtain ⟨q1, q2⟩ := d1.one e1
      exact ⟨b, tru_peek q2.peek hb hs, k b ρ' H' l1 q1 h1⟩⟩
theorem pdt_vS {i : Nat} (ha : PE X a (tVar i)) (he : ∀ whole, isTrue a X.env whole = (do let v ← whole; standAt a.pos; holding [v] (truthy v)) := by intro _; rfl) : PDt X a (tstS i) :=
  (pt_truth ha he).mono fun σ H Q ⟨B, ρ, T, Φ, hl, hd, ht, k⟩ => by
    unfold tstS at ht
    cases e1 : at? ρ i with
    | none => rw [e1] at ht; exact ht.elim
    | some d =>
      rw [e1] at ht
      obtain ⟨hs, b, hb, ht⟩ := ht
      obtain ⟨x, hx, px⟩ := hd.peek hl e1
      exact ⟨x, hx, b, tru_peek px hb hs, k b ρ H hl hd ht⟩
noncomputable def tOrD (t u : TTd) : TTd := fun dk ρ Φ => t dk ρ fun c ρ1 => if c = true then Φ true ρ1 else u dk ρ1 Φ
noncomputable def tNotD (t : TTd) : TTd := fun dk ρ Φ => t dk ρ fun c ρ1 => Φ (!c) ρ1
variable {tA tB' : TTd} {rest : List Expr}
theorem pdw_or1 (h : PDt X a tA) : PDw X (.BoolOp .Or [a] pos) tA := pw_or1 h
theorem pdw_or (ha : PDt X a tA) (hb : PDw X (.BoolOp .Or (b :: rest) pos) tB') : PDw X (.BoolOp .Or (a :: b :: rest) pos) (tOrD tA tB') :=
  (pw_or ha hb).mono fun σ H Q ⟨B, ρ, T, Φ, hl, hd, ht, k⟩ => ⟨B, ρ, T, _, hl, hd, ht, fun c ρ1 H1 l1 d1 h1 => by
    cases c with
    | true => exact (if_pos rfl).mpr (k true ρ1 H1 l1 d1 ((if_pos rfl).mp h1))
    | false => exact iteF ⟨B, ρ1, T, Φ, l1, d1, (if_neg (by decide)).mp h1, k⟩⟩
theorem pdt_w (h : PDw X a tA) : PDt X a tA := PW.pt h
theorem pdt_not (h : PDt X a tA) : PDt X (.UnaryOp .Not a pos) (tNotD tA) := (pt_not h).mono fun σ H Q ⟨B, ρ, T, Φ, hl, hd, ht, k⟩ => ⟨B, ρ, T, _, hl, hd, ht, fun c ρ1 H1 l1 d1 h1 => k _ ρ1 H1 l1 d1 h1⟩
noncomputable def tAndDV (t u : TEd) : TEd := fun dk ρ Φ => t dk ρ fun r ρ1 => match r with
  | .val (.bl true) => u dk ρ1 Φ
  | .val (.bl false) => Φ (.val (.bl false)) ρ1
  | _ => False
noncomputable def fNotV : O1
  | .bl b, Φ => Φ (.val (.bl (!b)))
  | _, _ => False
theorem pd_bone {op : BoolOp} (h : PD X a ta) : PD X (.BoolOp op [a] pos) ta := pe_one h
theorem pd_and (ha : PD X a ta) (hb : PD X (.BoolOp .And (b :: rest) pos) tb) : PD X (.BoolOp .And (a :: b :: rest) pos) (tAndDV ta tb) :=
  (pe_and ha hb).mono fun σ H Q ⟨B, ρ, T, Φ, hl, hd, ht, k⟩ => ⟨B, ρ, T, _, hl, hd, ht, fun r ρ1 v H1 l1 d1 h1 => by
    cases r with
    | no => exact h1.elim
    | own d => exact h1.elim
    | val d =>
      cases d with
      | bl c =>
        have := d1.valAt.bl_inv
        subst this
        refine ⟨c, rfl, ?_⟩
        cases c with
        | true => exact (if_pos rfl).mpr ⟨B, ρ1, T, Φ, l1, d1.drop, h1, k⟩
        | false => exact iteF (k _ ρ1 _ H1 l1 (d1.drop.push (.bl _)) h1)
      | _ => exact h1.elim⟩
theorem pd_not (ha : PD X a ta) : PD X (.UnaryOp .Not a pos) (d1 fNotV ta) := (pe_not ha).mono fun _ _ _ h => d1_walk (f := fNotV) (r := fun x H Q => ∃ c, x = .bl c ∧ Q (.bl (!c)) H) (fun B L H d x Φ Q hd rx hf k => by
  unfold fNotV at hf
  split at hf
  · cases rx; exact ⟨_, rfl, k _ _ H hf (hd.pushF (.bl _))⟩
  · exact hf.elim) h
end
end L2
namespace L2
open PySem PySem.Spec PyProof.Rows Lw
inductive Ar where
  | t (d : D) | al (i : Nat)
noncomputable abbrev TAd := List Addr → List Sl → (List Ar → List Sl → Prop) → Prop
noncomputable def arEnts : List Ar → List V → Ents
  | .t d :: as, v :: vs => (.val d, some v) :: arEnts as vs
  | .al _ :: as, _ :: vs => arEnts as vs
  | _, _ => []
inductive ArOk (σ : St) : List Ar → List V → Prop where
  | nil : ArOk σ [] []
  | t {d : D} {v : V} {as : List Ar} {vs : List V} : ArOk σ as vs → ArOk σ (.t d :: as) (v :: vs)
  | al {i : Nat} {v : V} {as : List Ar} {vs : List V} : σ[i]? = some (some v) → ArOk σ as vs → ArOk σ (.al i :: as) (v :: vs)
noncomputable def arDs (ρ : List Sl) : List Ar → Option (List D)
  | [] => some []
  | .t d :: as => (arDs ρ as).map (d :: ·)
  | .al i :: as => match at? ρ i, arDs ρ as with
    | some d, some ds => some (d :: ds)
    | _, _ => none
noncomputable def arTs : List Ar → Option (List D)
  | [] => some []
  | .t d :: as => (arTs as).map (d :: ·)
  | .al _ :: _ => none
noncomputable def noAl : List Ar → Bool
  | [] => true
  | .t _ :: as => noAl as
  | .al _ :: _ => false
noncomputable def dA (K : PySem.W.Frag) (τ : TAd) : TA := fun σ H Q => ∃ (B : Bs) (ρ : List Sl) (T : Ents) (Φ : List Ar → List Sl → Prop), ρ.length = σ.length ∧ DS K B (ρ.zip σ ++ T) H ∧ τ B.dk ρ Φ ∧
  ∀ as ρ' vs H', ρ'.length = σ.length → ArOk σ as vs → DS K B (ρ'.zip σ ++ (arEnts as vs ++ T)) H' → Φ as ρ' → Q vs H'
noncomputable abbrev PAd (X : Cx) (es : List Expr) (τ : TAd) : Prop := PA X es (dA X.K τ)
noncomputable def aNil : TAd := fun _ ρ Φ => Φ [] ρ
noncomputable def aC (te : TEd) (tr : TAd) : TAd := fun dk ρ Φ => te dk ρ fun r ρ1 => tr dk ρ1 fun as ρ2 => match sd r with
  | some d => Φ (.t d :: as) ρ2
  | none => False
noncomputable def aS (i : Nat) (tr : TAd) : TAd := fun dk ρ Φ => (at? ρ i).isSome = true ∧ tr dk ρ fun as ρ2 => Φ (.al i :: as) ρ2
theorem PA.mono {X : Cx} {es : List Expr} {t t' : TA} (h : PA X es t) (k : ∀ σ H Q, t' σ H Q → t σ H Q) : PA X es t' := fun p pins s σ H Q I q => h p pins s σ H Q I (k σ H Q q)
noncomputable def Am (B : Bs) (a : Addr) : Prop := a ∉ B.dk ∧ (B.A0 a ∨ B.H0 a = none)
inductive Peeks (K : PySem.W.Frag) (A : Addr → Prop) (H : Hp) : List D → List V → Prop where
  | nil : Peeks K A H [] []
  | cons {d : D} {v : V} {ds : List D} {vs : List V} : Peek K A H d v → Peeks K A H ds vs → Peeks K A H (d :: ds) (v :: vs)
section
variable {X : Cx} {K : PySem.W.Frag} {B : Bs} {H H' : Hp} {L T : Ents} {ρ : List Sl} {σ : St} {e : Expr} {es : List Expr} {te : TEd} {ta : TAd} {pos : Pos}
theorem pa_n : PAd X [] aNil := pa_nil.mono fun σ H Q ⟨B, ρ, T, Φ, hl, hd, ht, k⟩ => k [] ρ [] H hl .nil hd ht
theorem pa_k (ha : PD X e te) (hr : PAd X es ta) (h : noStar e = true := by rfl) : PAd X (e :: es) (aC te ta) := (pa_c ha hr h).mono fun σ H Q ⟨B, ρ, T, Φ, hl, hd, ht, k⟩ =>
  ⟨B, ρ, T, _, hl, hd, ht, fun r ρ1 x H1 l1 d1 h1 => ⟨B, ρ1, (r, some x) :: T, _, l1, d1, h1, fun as ρ2 vs H2 l2 ok d2 h2 => by
    cases e1 : sd r with
    | none => rw [e1] at h2; exact h2.elim
    | some d =>
      rw [e1] at h2
      refine k (.t d :: as) ρ2 (x :: vs) H2 l2 (.t ok) ?_ h2
      have d3 : DS X.K B ((ρ2.zip σ ++ arEnts as vs) ++ (r, some x) :: T) H2 := by simpa using d2
      have d4 := (d3.thaw e1).front
      exact DS.mid (by simpa using d4)⟩⟩
theorem pa_s {i : Nat} (ha : PE X e (tVar i)) (hr : PAd X es ta) (h : noStar e = true := by rfl) : PAd X (e :: es) (aS i ta) := (pa_c ha hr h).mono fun σ H Q ⟨B, ρ, T, Φ, hl, hd, ⟨hi, ht⟩, k⟩ => by
  obtain ⟨d0, h0⟩ := Option.isSome_iff_exists.mp hi
  obtain ⟨x, hx, _⟩ := hd.peek hl h0
  exact ⟨x, hx, B, ρ, T, _, hl, hd, ht, fun as ρ2 vs H2 l2 ok d2 h2 => k (.al i :: as) ρ2 (x :: vs) H2 l2 (.al hx ok) d2 h2⟩
theorem DS.rmArgs : ∀ {as : List Ar} {vs : List V}, DS K B (L ++ (arEnts as vs ++ T)) H → DS K B (L ++ T) H
  | [], _, h => by simpa [arEnts] using h
  | .t d :: as, [], h => by simpa [arEnts] using h
  | .al _ :: as, [], h => by simpa [arEnts] using h
  | .t d :: as, v :: vs, h => DS.rmArgs (as := as) (vs := vs) (by simpa [arEnts] using DS.drop (L1 := L) h)
  | .al _ :: as, v :: vs, h => DS.rmArgs (as := as) (vs := vs) h
theorem roots_args : ∀ {as : List Ar} {vs : List V}, roots (L ++ (arEnts as vs ++ T)) = roots (L ++ T)
  | [], _ => by simp [arEnts]
  | .t d :: as, [] => by simp [arEnts]
  | .al _ :: as, [] => by simp [arEnts]
  | .t d :: as, v :: vs => by rw [arEnts, List.cons_append, roots_val]; exact roots_args
  | .al _ :: as, v :: vs => roots_args (as := as) (vs := vs)
theorem DS.temps {as : List Ar} {vs : List V} (h : DS K B (L ++ (arEnts as vs ++ T)) H) (ok : ArOk σ as vs) : ∀ ds, arTs as = some ds → Reps K (Al B (roots (L ++ T))) H ds vs := by
  have key : ∀ p ∈ arEnts as vs, SlOk K (Al B (roots (L ++ T))) H p.1 p.2 := fun p hp => by
    have := h.ok p (by simp [hp])
    rw [roots_args] at this
    exact this
  clear h
  induction ok with
  | nil => intro ds e; simp only [arTs, Option.some.injEq] at e; subst e; exact .nil
  | @t d v as vs ok ih =>
    intro ds e
    simp only [arTs, Option.map_eq_some_iff] at e
    obtain ⟨ds', e1, rfl⟩ := e
    obtain ⟨u, e2, r⟩ := key (.val d, some v) (by simp [arEnts])
    cases e2
    exact .cons r (ih (fun p hp => key p (by simp [arEnts, hp])) ds' e1)
  | al _ _ _ => intro ds e; simp [arTs] at e
theorem DS.argsP {as : List Ar} {vs : List V} (hl : ρ.length = σ.length) (h : DS K B (ρ.zip σ ++ (arEnts as vs ++ T)) H) (ok : ArOk σ as vs) : ∀ ds, arDs ρ as = some ds →
    Peeks K (Al B (roots (ρ.zip σ ++ T))) H ds vs ∧ Reps K (Am B) H ds vs ∧ (noAl as = true → Reps K (Al B (roots (ρ.zip σ ++ T))) H ds vs) := by
  have key : ∀ p ∈ arEnts as vs, SlOk K (Al B (roots (ρ.zip σ ++ T))) H p.1 p.2 := fun p hp => by
    have := h.ok p (by simp [hp])
    rw [roots_args] at this
    exact this
  have h0 := h.rmArgs
  have am : ∀ a, Al B (roots (ρ.zip σ ++ T)) a → Am B a := fun a z => ⟨z.1, z.2.2⟩
  clear h
  induction ok with
  | nil => intro ds e; simp only [arDs, Option.some.injEq] at e; subst e; exact ⟨.nil, .nil, fun _ => .nil⟩
  | @t d v as vs ok ih =>
    intro ds e
    simp only [arDs, Option.map_eq_some_iff] at e
    obtain ⟨ds', e1, rfl⟩ := e
    obtain ⟨u, e2, r⟩ := key (.val d, some v) (by simp [arEnts])
    cases e2
    obtain ⟨p1, p2, p3⟩ := ih (fun p hp => key p (by simp [arEnts, hp])) ds' e1
    exact ⟨.cons r.peek p1, .cons (r.mono (.all am)) p2, fun n => .cons r (p3 n)⟩
  | @al i v as vs hi ok ih =>
    intro ds e
    rw [arDs] at e
    cases e1 : at? ρ i with
    | none => rw [e1] at e; simp at e
    | some d =>
      cases e2 : arDs ρ as with
      | none => rw [e1, e2] at e; simp at e
      | some ds' =>
        rw [e1, e2] at e
        simp only [Option.some.injEq] at e
        subst e
        obtain ⟨p1, p2, p3⟩ := ih (fun p hp => key p (by simpa [arEnts] using hp)) ds' e2
        obtain ⟨v', hv', pv⟩ := h0.peek hl e1
        rw [hi] at hv'
        cases hv'
        have rv : Rep K (Am B) H d v := by
          unfold at? at e1
          cases e3 : ρ[i]? with
          | none => rw [e3] at e1; cases e1
          | some s =>
            rw [e3] at e1
            obtain ⟨l1, y, l2, hy, _, hz, _⟩ := zip_at hl e3
            rw [hi] at hy
            cases hy
            have hm : (s, some v) ∈ ρ.zip σ ++ T := by rw [hz]; simp
            have := h0.ok _ hm
            cases s with
            | no => cases e1
            | val c => cases e1; obtain ⟨u, e4, r⟩ := this; cases e4; exact r.mono (.all am)
            | own c =>
              cases e1
              obtain ⟨a, e4, r⟩ := this
              cases e4
              have nw := h0.new a (mem_roots.mpr ⟨_, hm, rfl⟩)
              exact r.rep am ⟨nw.2, .inr nw.1⟩
        exact ⟨.cons pv p1, .cons rv p2, fun n => by simp [noAl] at n⟩
noncomputable def dTup (ta : TAd) : TEd := fun dk ρ Φ => ta dk ρ fun as ρ' => match arTs as with
  | some ds => ds.length ≤ 1000 ∧ Φ (.val (.tup ds)) ρ'
  | none => False
noncomputable def dLst (ta : TAd) : TEd := fun dk ρ Φ => ta dk ρ fun as ρ' => match arTs as with
  | some ds => ds.length ≤ 1000 ∧ Φ (.own (.lst ds)) ρ'
  | none => False
theorem big1000 {n : Nat} (h : n ≤ 1000) : n ≤ sizeLine := Nat.le_trans h (by decide)
theorem pd_tup {x1 : Nat} (h : PAd X es ta) : PD X (.Tuple es x1 pos) (dTup ta) := (pe_tup h).mono fun σ H Q ⟨B, ρ, T, Φ, hl, hd, ht, k⟩ => ⟨B, ρ, T, _, hl, hd, ht, fun as ρ1 vs H1 l1 ok d1 h1 => by
  cases e1 : arTs as with
  | none => rw [e1] at h1; exact h1.elim
  | some ds =>
    rw [e1] at h1
    have r := d1.temps ok ds e1
    exact ⟨big1000 (by rw [← r.length]; exact h1.1), fun p hp => k _ ρ1 _ _ l1 (d1.rmArgs.tup hp r) h1.2⟩⟩
theorem pd_lst (h : PAd X es ta) : PD X (.List es pos) (dLst ta) := (pe_lst h).mono fun σ H Q ⟨B, ρ, T, Φ, hl, hd, ht, k⟩ => ⟨B, ρ, T, _, hl, hd, ht, fun as ρ1 vs H1 l1 ok d1 h1 => by
  cases e1 : arTs as with
  | none => rw [e1] at h1; exact h1.elim
  | some ds =>
    rw [e1] at h1
    have r := d1.temps ok ds e1
    exact ⟨big1000 (by rw [← r.length]; exact h1.1), fun p hp => k _ ρ1 _ _ l1 (d1.rmArgs.lstF hp r).mid h1.2⟩⟩
noncomputable def dNew : TEd := fun _ ρ Φ => Φ (.own (.dK [])) ρ
theorem pd_new : PD X (.Dict [] [] pos) dNew := pe_dnewK.mono fun σ H Q ⟨B, ρ, T, Φ, hl, hd, ht, k⟩ p hp => k _ ρ _ _ hl (hd.dKF (ds := []) (kvs := []) hp rfl .nil).mid ht
noncomputable abbrev OC := List D → (Sl → Prop) → Prop
noncomputable def CallD (K : PySem.W.Frag) (r : List V → Hp → VK → Prop) (f : OC) : Prop := ∀ (B : Bs) (L : Ents) (H : Hp) (ds : List D) (xs : List V) (Φ : Sl → Prop) (Q : VK), DS K B L H → Peeks K (Al B (roots L)) H ds xs → f ds Φ →
  (∀ s v H', Φ s → DS K B ((s, some v) :: L) H' → Q v H') → r xs H Q
noncomputable def dC (f : OC) (ta : TAd) : TEd := fun dk ρ Φ => ta dk ρ fun as ρ' => match arDs ρ' as with
  | some ds => f ds fun r => Φ r ρ'
  | none => False
theorem dC_walk {f : OC} {r : List V → Hp → VK → Prop} (hf : CallD X.K r f) {σ : St} {H : Hp} {Q : VK} (h : dE X.K (dC f ta) σ H Q) : dA X.K ta σ H fun vs H1 => r vs H1 Q := by
  obtain ⟨B, ρ, T, Φ, hl, hd, ht, k⟩ := h
  refine ⟨B, ρ, T, _, hl, hd, ht, fun as ρ1 vs H1 l1 ok d1 h1 => ?_⟩
  cases e1 : arDs ρ1 as with
  | none => rw [e1] at h1; exact h1.elim
  | some ds =>
    rw [e1] at h1
    exact hf B _ H1 ds vs _ Q d1.rmArgs (d1.argsP l1 ok ds e1).1 h1 fun s v H' hs hd' => k s ρ1 v H' l1 hd'.mid hs
variable {x : Str} {p : Pos} {id : String} {f : OC} {r : List V → Hp → VK → Prop}
theorem pd_callB (hc : CallR X (.builtin id) r) (hf : CallD X.K r f) (hg : Gl X x) (hm : X.mg x = none) (hv : bootBuiltins x = some (.builtin id)) (ha : PAd X (e :: es) ta) (hn : x ≠ "__name__" := by decide) (hdb : (x == ("__debug__" : Str)) = false := by decide)
    (he : starEach (e :: es) X.env = (false, eval e X.env) :: starEach es X.env := by rfl) (hpl : (backTo pos (starEach es X.env)).any (·.1) = false := by rfl) : PD X (.Call (.Name x p) (e :: es) [] pos) (dC f ta) :=
  (pe_callB hc hg hm hv ha hn hdb he hpl).mono fun _ _ _ h => dC_walk hf h
theorem pd_callTy (hc : CallR X (.type id) r) (hf : CallD X.K r f) (hg : Gl X x) (hm : X.mg x = none) (hv : bootBuiltins x = some (.type id)) (ha : PAd X (e :: es) ta) (hn : x ≠ "__name__" := by decide) (hdb : (x == ("__debug__" : Str)) = false := by decide)
    (he : starEach (e :: es) X.env = (false, eval e X.env) :: starEach es X.env := by rfl) (hpl : (backTo pos (starEach es X.env)).any (·.1) = false := by rfl) : PD X (.Call (.Name x p) (e :: es) [] pos) (dC f ta) :=
  (pe_callTy hc hg hm hv ha hn hdb he hpl).mono fun _ _ _ h => dC_walk hf h
end
end L2
namespace L2
open PySem PySem.Spec PyProof.Rows Lw
noncomputable def immS : Sl → Bool
  | .val d => imm d
  | .own (.lst xs) => immL xs
  | .own (.dK kvs) => immL (kvs.map (·.2))
  | .own (.dT kvs) => immL (kvs.map (·.2))
  | _ => false
noncomputable def RV (K : PySem.W.Frag) (dk : List Addr) (A : Addr → Prop) (H : Hp) (s : Sl) (v : V) (H' : Hp) : Prop := match s with
  | .no => True
  | .val d => Rep K (fun a => a ∉ dk ∧ (A a ∨ H a = none)) H' d v
  | .own d => ∃ a, v = .ref a ∧ H a = none ∧ a ∉ dk ∧ Root K (fun b => b ∉ dk ∧ b ≠ a ∧ (A b ∨ H b = none)) H' a d
noncomputable def Frm (dk : List Addr) (H H' : Hp) : Prop := ∀ b o, H b = some o → b ∉ dk → H' b = some o
noncomputable abbrev RD := List Addr → List D → (Sl → Prop) → Prop
noncomputable def spD (K : PySem.W.Frag) (R : RD) : Sp := fun vs H Q _ => ∃ (dk : List Addr) (A : Addr → Prop) (ds : List D) (Φ : Sl → Prop), Dk dk H ∧ (∀ a, A a → a ∉ dk) ∧ Reps K A H ds vs ∧ R dk ds Φ ∧
  ∀ s v H', Φ s → Frm dk H H' → Dk dk H' → RV K dk A H s v H' → Q v H'
section
variable {K : PySem.W.Frag} {A A' : Addr → Prop} {B : Bs} {H H' : Hp} {L : Ents} {d : D} {a : Addr}
theorem Root.immR : ∀ {d : D}, Root K A H a d → immS (.own d) = true → Root K A' H a d
  | .lst _, ⟨vs, h, r⟩, e => ⟨vs, h, r.imm e⟩
  | .dK _, ⟨vs, h, k, r⟩, e => ⟨vs, h, k, r.imm e⟩
  | .dT _, ⟨vs, h, k, r⟩, e => ⟨vs, h, k, r.imm e⟩
theorem Kp.frm {dk : List Addr} (f : Frm dk H H') (hk : Dk dk H) (h : ∀ a, A a → a ∉ dk ∧ A' a) : Kp A A' H H' := by
  refine ⟨fun a o ha e => ⟨(h a ha).2, f a o e (h a ha).1⟩, fun a o t e => f a o e fun z => ?_⟩
  obtain ⟨xs, q⟩ := hk.some z
  rw [e] at q; cases q; cases t
theorem DS.call (h : DS K B L H) (f : Frm B.dk H H') (hk : Dk B.dk H') : DS K B L H' :=
  ⟨fun b o e n => f b o (h.fr b o e n) n, hk, h.nd, h.new, fun p hp => (h.ok p hp).mono (.frm f h.dk fun a z => ⟨z.1, z⟩) fun b hb o q => f b o q (h.new b (mem_roots.mpr ⟨p, hp, hb⟩)).2⟩
theorem DS.adopt (h : DS K B L H) (f : Frm B.dk H H') (hk : Dk B.dk H') (hn : H a = none) (r : Root K (Al B (a :: roots L)) H' a d) : DS K B ((.own d, some (.ref a)) :: L) H' := by
  obtain ⟨f1, f2, f3⟩ := h.free hn
  have kp : Kp (Al B (roots L)) (Al B (a :: roots L)) H H' := by
    refine ⟨fun b o hb e => ⟨⟨hb.1, fun z => ?_, hb.2.2⟩, f b o e hb.1⟩, fun b o t e => f b o e fun z => ?_⟩
    · rcases List.mem_cons.mp z with q | q
      · subst q; rw [hn] at e; cases e
      · exact hb.2.1 q
    · obtain ⟨xs, q⟩ := h.dk.some z
      rw [e] at q; cases q; cases t
  have e1 : roots ((Sl.own d, some (V.ref a)) :: L) = a :: roots L := rfl
  refine ⟨fun b o e n => f b o (h.fr b o e n) n, hk, by rw [e1]; exact List.nodup_cons.mpr ⟨f3, h.nd⟩, fun b hb => ?_, fun p hp => ?_⟩
  · rw [e1] at hb
    rcases List.mem_cons.mp hb with q | q
    · subst q; exact ⟨f1, f2⟩
    · exact h.new b q
  · rw [e1]
    rcases List.mem_cons.mp hp with q | q
    · subst q; exact ⟨a, rfl, r⟩
    · exact (h.ok p q).mono kp fun b hb o w => f b o w (h.new b (mem_roots.mpr ⟨p, q, hb⟩)).2
theorem DS.result {s : Sl} {v : V} {A1 : Addr → Prop} (h : DS K B L H) (f : Frm B.dk H H') (hk : Dk B.dk H') (r : RV K B.dk A1 H s v H') (hA : (∀ a, A1 a → Al B (roots L) a) ∨ immS s = true) : DS K B ((s, some v) :: L) H' := by
  have fresh : ∀ b, b ∉ B.dk → H b = none → Al B (roots L) b := fun b n e => ⟨n, (h.free e).2.2, .inr (h.free e).1⟩
  cases s with
  | no => exact (h.call f hk).pushN (L1 := []) _
  | val d =>
    refine (h.call f hk).pushF ?_
    rcases hA with hA | hA
    · exact (show Rep K _ H' d v from r).mono (.all fun b z => z.2.elim (hA b) (fresh b z.1))
    · exact (show Rep K _ H' d v from r).imm hA
  | own d =>
    obtain ⟨a, rfl, hn, hd, r⟩ := r
    refine h.adopt f hk hn ?_
    rcases hA with hA | hA
    · refine r.mono (.all fun b z => ?_) fun _ q => q
      have := z.2.2.elim (hA b) (fresh b z.1)
      exact ⟨this.1, fun q => (List.mem_cons.mp q).elim z.2.1 this.2.1, this.2.2⟩
    · exact r.immR hA
end
noncomputable def dCall (R : RD) (ta : TAd) : TEd := fun dk ρ Φ => ta dk ρ fun as ρ' => match arDs ρ' as with
  | some ds => R dk ds fun s => (noAl as = true ∨ immS s = true) ∧ Φ s ρ'
  | none => False
section
variable {X : Cx} {k : Nat} {f : Addr} {fd : FuncData} {ps : List Str} {R : RD} {x : Str} {p pos : Pos} {e : Expr} {es : List Expr} {ta : TAd}
theorem dCall_walk {σ : St} {H : Hp} {Q : VK} (h : dE X.K (dCall R ta) σ H Q) : dA X.K ta σ H fun vs H1 => spD X.K R (vs ++ []) H1 Q E0 := by
  obtain ⟨B, ρ, T, Φ, hl, hd, ht, k⟩ := h
  refine ⟨B, ρ, T, _, hl, hd, ht, fun as ρ1 vs H1 l1 ok d1 h1 => ?_⟩
  cases e1 : arDs ρ1 as with
  | none => rw [e1] at h1; exact h1.elim
  | some ds =>
    rw [e1] at h1
    obtain ⟨_, q2, q3⟩ := d1.argsP l1 ok ds e1
    have d2 := d1.rmArgs
    rw [List.append_nil]
    by_cases na : noAl as = true
    · exact ⟨B.dk, _, ds, _, d2.dk, fun a z => z.1, q3 na, h1, fun s v H' hs f hk r => k s ρ1 v H' l1 (d2.result f hk r (.inl fun a z => z)).mid hs.2⟩
    · exact ⟨B.dk, _, ds, _, d2.dk, fun a z => z.1, q2, h1, fun s v H' hs f hk r => k s ρ1 v H' l1 (d2.result f hk r (.inr (hs.1.resolve_left na))).mid hs.2⟩
theorem pd_call (F : FnOk X.prog X.w X.K X.mg X.base CX0 k f fd ps (spD X.K R)) (hr : Room k X.A) (hg : Gl X x) (hm : X.mg x = some (.ref f)) (hk : PySem.W.keepIn X.K (.ref f) = true) (hb : Binds X.K fd ps [])
    (ha : PAd X (e :: es) ta) (hdb : (x == ("__debug__" : Str)) = false := by decide) (he : starEach (e :: es) X.env = (false, eval e X.env) :: starEach es X.env := by rfl) (hpl : (backTo pos (starEach es X.env)).any (·.1) = false := by rfl) :
    PD X (.Call (.Name x p) (e :: es) [] pos) (dCall R ta) := (pe_call F hr hg hm hk hb .nil pass0 ha hdb he hpl).mono fun _ _ _ h => dCall_walk h
end
structure DEnds where
  nx : List Sl → Prop
  rt : Sl → Prop
  bk : List Sl → Prop := fun _ => False
  ct : List Sl → Prop := fun _ => False
noncomputable abbrev TSd := List Addr → DEnds → List Sl → Prop
noncomputable def Lnk (K : PySem.W.Frag) (B : Bs) (T : Ents) (n : Nat) (De : DEnds) (Dn : Ends) : Prop :=
  (∀ ρ' σ' H', ρ'.length = σ'.length → σ'.length = n → DS K B (ρ'.zip σ' ++ T) H' → (De.nx ρ' → Dn.nx σ' H') ∧ (De.bk ρ' → Dn.bk σ' H') ∧ (De.ct ρ' → Dn.ct σ' H')) ∧
  ∀ (r : Sl) (v : V) (ρ' : List Sl) (σ' : St) (H' : Hp), ρ'.length = σ'.length → DS K B (ρ'.zip σ' ++ (r, some v) :: T) H' → De.rt r → Dn.rt v H'
noncomputable def dS (K : PySem.W.Frag) (τ : TSd) : TS := fun Dn σ H => ∃ (B : Bs) (ρ : List Sl) (T : Ents) (De : DEnds), ρ.length = σ.length ∧ DS K B (ρ.zip σ ++ T) H ∧ τ B.dk De ρ ∧ Lnk K B T σ.length De Dn
noncomputable abbrev PSd (X : Cx) (st : Stmt) (τ : TSd) : Prop := PS X st (dS X.K τ)
noncomputable abbrev PSsd (X : Cx) (st : List Stmt) (τ : TSd) : Prop := PSs X st (dS X.K τ)
theorem PS.mono {X : Cx} {st : Stmt} {t t' : TS} (h : PS X st t) (k : ∀ D σ H, t' D σ H → t D σ H) : PS X st t' := fun pins s σ H D I q => h pins s σ H D I (k D σ H q)
theorem PSs.mono {X : Cx} {st : List Stmt} {t t' : TS} (h : PSs X st t) (k : ∀ D σ H, t' D σ H → t D σ H) : PSs X st t' := fun pins s σ H D I q => h pins s σ H D I (k D σ H q)
noncomputable def sNil : TSd := fun _ De ρ => De.nx ρ
noncomputable def sSeq (t u : TSd) : TSd := fun dk De ρ => t dk { De with nx := u dk De } ρ
noncomputable def sRet (te : TEd) : TSd := fun dk De ρ => te dk ρ fun r _ => De.rt r
noncomputable def sExpr (te : TEd) : TSd := fun dk De ρ => te dk ρ fun _ ρ' => De.nx ρ'
noncomputable def sIf (c : TTd) (t u : TSd) : TSd := fun dk De ρ => c dk ρ fun b ρ' => if b = true then t dk De ρ' else u dk De ρ'
noncomputable def sSet (i : Nat) (te : TEd) : TSd := fun dk De ρ => te dk ρ fun r ρ' => De.nx (ρ'.set i r)
section
variable {X : Cx} {K : PySem.W.Frag} {B : Bs} {H : Hp} {st : Stmt} {rest a b : List Stmt} {t u : TSd} {pos : Pos} {e c : Expr} {te : TEd} {tc : TTd} {T : Ents} {n : Nat} {De : DEnds} {Dn : Ends}
theorem Lnk.seq (h : Lnk K B T n De Dn) {P : List Sl → Prop} {N : St → Hp → Prop} (k : ∀ ρ' σ' H', ρ'.length = σ'.length → σ'.length = n → DS K B (ρ'.zip σ' ++ T) H' → P ρ' → N σ' H') : Lnk K B T n { De with nx := P } { Dn with nx := N } :=
  ⟨fun ρ' σ' H' l1 l2 d => ⟨k ρ' σ' H' l1 l2 d, (h.1 ρ' σ' H' l1 l2 d).2⟩, h.2⟩
theorem ss_nil : PSsd X [] sNil := pss_nil.mono fun Dn σ H ⟨B, ρ, T, De, hl, hd, ht, lk⟩ => (lk.1 ρ σ H hl rfl hd).1 ht
theorem ss_cons (h1 : PSd X st t) (h2 : PSsd X rest u) : PSsd X (st :: rest) (sSeq t u) := (pss_cons h1 h2).mono fun Dn σ H ⟨B, ρ, T, De, hl, hd, ht, lk⟩ =>
  ⟨B, ρ, T, _, hl, hd, ht, lk.seq fun ρ' σ' H' l1 l2 d q => ⟨B, ρ', T, De, l1, d, q, by rw [l2]; exact lk⟩⟩
theorem ss_one (h : PSd X st t) : PSsd X [st] t := pss_one h
theorem s_ret (h : PD X e te) : PSd X (.Return (some e) pos) (sRet te) := (ps_ret h).mono fun Dn σ H ⟨B, ρ, T, De, hl, hd, ht, lk⟩ => ⟨B, ρ, T, _, hl, hd, ht, fun r ρ' v H' l1 d1 h1 => lk.2 r v ρ' σ H' l1 d1 h1⟩
theorem s_expr (h : PD X e te) (hs : swapsWith e none pos.line X.env = pure false := by rfl) : PSd X (.Expr e pos) (sExpr te) := (ps_expr h hs).mono fun Dn σ H ⟨B, ρ, T, De, hl, hd, ht, lk⟩ => ⟨B, ρ, T, _, hl, hd, ht, fun r ρ' v H' l1 d1 h1 => (lk.1 ρ' σ H' l1 rfl d1.drop).1 h1⟩
theorem s_if (hc : PDt X c tc) (ha : PSsd X a t) (hb : PSsd X b u) : PSd X (.If c a b pos) (sIf tc t u) := (ps_if hc ha hb).mono fun Dn σ H ⟨B, ρ, T, De, hl, hd, ht, lk⟩ => ⟨B, ρ, T, _, hl, hd, ht, fun c ρ' H' l1 d1 h1 => by
  cases c with
  | true => exact (if_pos rfl).mpr ⟨B, ρ', T, De, l1, d1, (if_pos rfl).mp h1, lk⟩
  | false => exact iteF ⟨B, ρ', T, De, l1, d1, (if_neg (by decide)).mp h1, lk⟩⟩
theorem DS.assign {ρ : List Sl} {σ : St} {r : Sl} {v : V} (hl : ρ.length = σ.length) (h : DS K B (ρ.zip σ ++ (r, some v) :: T) H) (i : Nat) : DS K B ((ρ.set i r).zip (σ.set i (some v)) ++ T) H := by
  by_cases hi : i < ρ.length
  · obtain ⟨l1, y, l2, _, _, hz, hset⟩ := zip_at hl (List.getElem?_eq_getElem hi)
    rw [hset r (some v)]
    rw [hz] at h
    have h2 : DS K B (l1 ++ (l2 ++ (r, some v) :: T)) H := DS.drop (L1 := l1) (x := (ρ[i], y)) (by simpa using h)
    have h3 : DS K B ((l1 ++ l2) ++ (r, some v) :: T) H := by simpa using h2
    have h4 := h3.front
    have h5 : DS K B ((r, some v) :: (l1 ++ (l2 ++ T))) H := by simpa using h4
    simpa using h5.mid
  · rw [List.set_eq_of_length_le (by omega), List.set_eq_of_length_le (by omega)]
    exact h.drop
theorem s_set {i : Nat} {x : Str} {pos' : Pos} (hN : X.N.Nodup) (hi : X.N[i]? = some x) (hx : Loc X.env.scope x) (he : PD X e te) (hs : swapsWith e (some (.Name x pos')) pos.line X.env = pure false := by rfl)
    (hf : X.fn x = true ∨ X.env.scope.names.lookup x = some .local := by first | exact .inl rfl | exact .inr rfl | assumption) : PSd X (.Assign [.Name x pos'] e pos) (sSet i te) :=
  (ps_set hN hi hx he hs hf).mono fun Dn σ H ⟨B, ρ, T, De, hl, hd, ht, lk⟩ => ⟨B, ρ, T, _, hl, hd, ht, fun r ρ' v H' l1 d1 h1 => (lk.1 _ _ H' (by rw [List.length_set, List.length_set]; exact l1) (List.length_set ..) (d1.assign l1 i)).1 h1⟩
end
noncomputable def ini (N : List Str) (ds : List D) : List Sl := ds.map .val ++ List.replicate (N.length - ds.length) .no
section
variable {P : Program} {w : World} {K : PySem.W.Frag} {mg : Str → Option Value} {base : Heap}
theorem zip_ini : ∀ {ds : List D} {vs : List V} (n : Nat), ds.length = vs.length → (ds.map Sl.val ++ List.replicate n Sl.no).zip (vs.map some ++ List.replicate n none) = (ds.zip vs).map (fun p => (Sl.val p.1, some p.2)) ++ List.replicate n (Sl.no, none)
  | [], [], n, _ => by simp
  | [], _ :: _, _, e => by simp at e
  | _ :: _, [], _, e => by simp at e
  | d :: ds, v :: vs, n, e => by
    simp only [List.map_cons, List.cons_append, List.zip_cons_cons, List.cons.injEq, true_and]
    exact zip_ini n (by simpa using e)
theorem reps_zip {A : Addr → Prop} {H : Hp} : ∀ {ds : List D} {vs : List V}, Reps K A H ds vs → ∀ p ∈ ds.zip vs, Rep K A H p.1 p.2
  | _, _, .nil, p, hp => by cases hp
  | _, _, .cons h r, p, hp => by
    rw [List.zip_cons_cons] at hp
    rcases List.mem_cons.mp hp with rfl | q
    · exact h
    · exact reps_zip r p q
theorem Fun.okD {x qual : Str} {st : Stmt} {f : Addr} {fd : FuncData} {N ps : List Str} {k : Nat} {R : RD} (F : Fun K x qual st f fd) (S : FnScope N ps (defScope st)) (hlen : ∀ dk ds Φ, R dk ds Φ → ds.length = ps.length) (hps : ps.length ≤ N.length)
    (hbody : ∀ (cdv : Value) (A : Around) (outer : List Env) (s : Shared) (H : Hp) (E : XK) (dk : List Addr) (ds : List D) (Φ : Sl → Prop), Room k (A.deeper (envOfC qual (defScope st) s.heap.objs.size f cdv)) → R dk ds Φ →
      ∃ t, PSsd (cxOf CX0 P w K mg base N qual (defScope st) f cdv A outer s H E).nox (defBody st) t ∧ t dk { nx := fun _ => Φ (.val .non), rt := Φ } (ini N ds)) : FnOk P w K mg base CX0 (k + 1) f fd ps (spD K R) := by
  refine F.ok S (fun vs H Q E ⟨dk, A, ds, Φ, _, _, r, hR, _⟩ => by rw [← r.length]; exact hlen _ _ _ hR) fun cdv A outer s H vs Q E hr ⟨dk, A1, ds, Φ, hdk, hA, r, hR, hq⟩ => ?_
  obtain ⟨t, ht, hb⟩ := hbody cdv A outer s H E dk ds Φ hr hR
  have el : ds.length = vs.length := r.length
  have dl : ds.length = ps.length := hlen _ _ _ hR
  refine ⟨_, ht, ⟨dk, A1, H⟩, ini N ds, [], _, ?_, ?_, hb, ?_, ?_⟩
  · unfold ini start; rw [List.length_append, List.length_append, List.length_map, List.length_map, List.length_replicate, List.length_replicate, el]
  · have e0 : (ini N ds).zip (start N vs) = (ds.zip vs).map (fun p => (Sl.val p.1, some p.2)) ++ List.replicate (N.length - ds.length) (Sl.no, none) := by
      unfold ini start; rw [← el]; exact zip_ini _ el
    have e1 : roots ((ini N ds).zip (start N vs)) = [] := by
      rw [e0]
      refine List.eq_nil_iff_forall_not_mem.mpr fun a ha => ?_
      obtain ⟨q, hq', e⟩ := mem_roots.mp ha
      rcases List.mem_append.mp hq' with z | z
      · obtain ⟨p, _, rfl⟩ := List.mem_map.mp z; cases e
      · rw [(List.mem_replicate.mp z).2] at e; cases e
    rw [List.append_nil]
    refine ⟨fun b o e _ => e, hdk, by rw [e1]; exact List.nodup_nil, (fun a ha => by rw [e1] at ha; exact absurd ha List.not_mem_nil), fun q hq' => ?_⟩
    rw [e1]
    rw [e0] at hq'
    rcases List.mem_append.mp hq' with z | z
    · obtain ⟨p, hp, rfl⟩ := List.mem_map.mp z
      exact ⟨p.2, rfl, (reps_zip r p hp).mono (.all fun a ha => ⟨hA a ha, List.not_mem_nil, .inl ha⟩)⟩
    · rw [(List.mem_replicate.mp z).2]; trivial
  · intro ρ' σ' H' l1 l2 d1
    refine ⟨fun h => hq _ _ H' h d1.fr d1.dk .non, fun h => h.elim, fun h => h.elim⟩
  · intro s' v ρ' σ' H' l1 d1 h
    refine hq s' v H' h d1.fr d1.dk ?_
    cases s' with
    | no => trivial
    | val d => exact d1.valAt.mono (.all fun a z => ⟨z.1, z.2.2⟩)
    | own d =>
      obtain ⟨a, rfl, r'⟩ := d1.ownAt
      have nw := d1.new a (by rw [root_mid]; simp [root1])
      exact ⟨a, rfl, nw.1, nw.2, r'.mono (.all fun b z => ⟨z.1, fun q => z.2.1 (by simp [q]), z.2.2⟩) fun _ q => q⟩
end
end L2
namespace L2
open PySem PySem.Spec PyProof.Rows Lw
noncomputable abbrev TGd := D → List Sl → (List Sl → Prop) → Prop
noncomputable abbrev TGsd := List D → List Sl → (List Sl → Prop) → Prop
noncomputable def vEnts (ds : List D) (vs : List V) : Ents := (ds.zip vs).map fun p => (Sl.val p.1, some p.2)
noncomputable def dG (K : PySem.W.Frag) (n : Nat) (γ : TGd) : TG := fun v σ H Q => ∃ (B : Bs) (ρ : List Sl) (T : Ents) (d : D) (Φ : List Sl → Prop), ρ.length = σ.length ∧ DS K B (ρ.zip σ ++ (.val d, some v) :: T) H ∧ γ d ρ Φ ∧
  ∀ (ρ' : List Sl) (σ' : St) (H' : Hp), ρ'.length = σ'.length → σ'.length = σ.length → (∀ j, n ≤ j → σ'[j]? = σ[j]?) → DS K B (ρ'.zip σ' ++ T) H' → Φ ρ' → Q σ' H'
noncomputable def dGs (K : PySem.W.Frag) (n : Nat) (γ : TGsd) : TGs := fun vs σ H Q => ∃ (B : Bs) (ρ : List Sl) (T : Ents) (ds : List D) (Φ : List Sl → Prop), ρ.length = σ.length ∧ ds.length = vs.length ∧ DS K B (ρ.zip σ ++ (vEnts ds vs ++ T)) H ∧ γ ds ρ Φ ∧
  ∀ (ρ' : List Sl) (σ' : St) (H' : Hp), ρ'.length = σ'.length → σ'.length = σ.length → (∀ j, n ≤ j → σ'[j]? = σ[j]?) → DS K B (ρ'.zip σ' ++ T) H' → Φ ρ' → Q σ' H'
noncomputable abbrev PGd (X : Cx) (n : Nat) (e : Expr) (γ : TGd) : Prop := PG X e (dG X.K n γ)
noncomputable abbrev PGsd (X : Cx) (n : Nat) (es : List Expr) (γ : TGsd) : Prop := PGs X es (dGs X.K n γ)
theorem PG.mono {X : Cx} {e : Expr} {t t' : TG} (h : PG X e t) (k : ∀ v σ H Q, t' v σ H Q → t v σ H Q) : PG X e t' := fun pins s σ H v u Q I r q => h pins s σ H v u Q I r (k v σ H Q q)
theorem PGs.mono {X : Cx} {es : List Expr} {t t' : TGs} (h : PGs X es t) (k : ∀ v σ H Q, t' v σ H Q → t v σ H Q) : PGs X es t' := fun pins s σ H v u Q I r q => h pins s σ H v u Q I r (k v σ H Q q)
noncomputable def gN (i : Nat) : TGd := fun d ρ Φ => Φ (ρ.set i (.val d))
noncomputable def gsN : TGsd := fun ds ρ Φ => ds = [] ∧ Φ ρ
noncomputable def gsC (g : TGd) (gs : TGsd) : TGsd := fun ds ρ Φ => match ds with
  | d :: ds => g d ρ fun ρ' => gs ds ρ' Φ
  | [] => False
noncomputable def gTp (n : Nat) (gs : TGsd) : TGd := fun d ρ Φ => match d with
  | .tup ds => ds.length = n ∧ gs ds ρ Φ
  | _ => False
section
variable {X : Cx} {K : PySem.W.Frag} {B : Bs} {H : Hp} {L T : Ents} {pos : Pos} {e : Expr} {es : List Expr} {g : TGd} {gs : TGsd} {m : Nat}
theorem DS.pushs {A : Addr → Prop} : ∀ {ds : List D} {vs : List V}, DS K B (L ++ T) H → Reps K (Al B (roots (L ++ T))) H ds vs → DS K B (L ++ (vEnts ds vs ++ T)) H
  | _, _, h, .nil => h
  | _, _, h, .cons (ds := ds) (vs := vs) r rs => by
    have h1 := DS.pushs (A := A) h rs
    have e1 : roots (L ++ (vEnts ds vs ++ T)) = roots (L ++ T) := by
      have : ∀ (ds : List D) (vs : List V), roots (vEnts ds vs) = [] := fun ds vs => by
        refine List.eq_nil_iff_forall_not_mem.mpr fun a ha => ?_
        obtain ⟨q, hq, e⟩ := mem_roots.mp ha
        obtain ⟨p, _, rfl⟩ := List.mem_map.mp hq
        cases e
      rw [roots_app, roots_app, roots_app, this, List.nil_append]
    exact h1.push (by rw [e1]; exact r)
theorem g_n {i : Nat} {x : Str} (hN : X.N.Nodup) (hi : X.N[i]? = some x) (hx : Loc X.env.scope x) (hm : i < m := by decide) (hf : X.fn x = true ∨ X.env.scope.names.lookup x = some .local := by first | exact .inl rfl | exact .inr rfl | assumption) : PGd X m (.Name x pos) (gN i) :=
  (pg_name hN hi hx hf).mono fun v σ H Q ⟨B, ρ, T, d, Φ, hl, hd, ht, k⟩ => k _ _ H (by rw [List.length_set, List.length_set]; exact hl) (List.length_set ..) (fun j hj => List.getElem?_set_ne (by omega)) (hd.assign hl i) ht
theorem gs_n : PGsd X m [] gsN := pgs_nil.mono fun vs σ H Q ⟨B, ρ, T, ds, Φ, hl, hv, hd, ⟨ht0, ht⟩, k⟩ => by
  subst ht0
  cases vs with
  | nil => exact ⟨rfl, k ρ σ H hl rfl (fun _ _ => rfl) hd ht⟩
  | cons _ _ => simp at hv
theorem gs_c (h1 : PGd X m e g) (h2 : PGsd X m es gs) (hs : (assignEach (e :: es) X.env).map (·.2) = assign e X.env :: (assignEach es X.env).map (·.2) := by rfl) : PGsd X m (e :: es) (gsC g gs) :=
  (pgs_cons h1 h2 hs).mono fun vs σ H Q ⟨B, ρ, T, ds, Φ, hl, hv, hd, ht, k⟩ => by
    cases ds with
    | nil => exact ht.elim
    | cons d ds =>
      cases vs with
      | nil => simp at hv
      | cons v vs =>
        refine ⟨v, vs, rfl, B, ρ, vEnts ds vs ++ T, d, _, hl, hd, ht, fun ρ' σ' H' l1 l2 f1 d1 q => ⟨B, ρ', T, ds, Φ, l1, by simpa using hv, d1, q, fun ρ2 σ2 H2 m1 m2 f2 d2 q2 => k ρ2 σ2 H2 m1 (m2.trans l2) (fun j hj => (f2 j hj).trans (f1 j hj)) d2 q2⟩⟩
theorem g_t {k : Nat} {n : Nat} (hc : X.calm = true) (h : PGsd X m es gs) (hn : (assignEach es X.env).length = n := by rfl) (hst : (assignEach es X.env).findIdx? (·.1) = none := by rfl) : PGd X m (.Tuple es k pos) (gTp n gs) :=
  (pg_tup hc h hn hst).mono fun v σ H Q ⟨B, ρ, T, d, Φ, hl, hd, ht, k⟩ => by
    cases d with
    | tup ds =>
      obtain ⟨a, vs, rfl, h1, r1⟩ := hd.valAt.tup_inv
      exact ⟨a, vs, rfl, SqT.of h1, by rw [← r1.length]; exact ht.1, B, ρ, T, ds, Φ, hl, r1.length, hd.drop.pushs (A := fun _ => True) r1, ht.2, k⟩
    | _ => exact ht.elim
end
noncomputable def sAsg (te : TEd) (g : TGd) : TSd := fun dk De ρ => te dk ρ fun r ρ' => match sd r with
  | some d => g d ρ' De.nx
  | none => False
noncomputable def setD : D → D → D → Option D
  | .lst xs, .int i, d => (ixN xs.length i).map fun j => .lst (xs.set j d)
  | .dK kvs, k, d => if kvs.length < 100000 then (keyOf k).map fun k => .dK (putD kvs k d) else none
  | .dT kvs, .tup ks, d => if kvs.length < 100000 then (keysOf ks).map fun k => .dT (putD kvs k d) else none
  | _, _, _ => none
noncomputable def sSub (i : Nat) (ti tv : TEd) : TSd := fun dk De ρ => tv dk ρ fun rv ρ1 => (at? ρ1 i).isSome = true ∧ ti dk ρ1 fun rk ρ2 => match sd rv, sd rk, ρ2[i]? with
  | some d, some k, some (.own c) => ∃ c', setD c k d = some c' ∧ De.nx (ρ2.set i (.own c'))
  | _, _, _ => False
section
variable {X : Cx} {K : PySem.W.Frag} {B : Bs} {H : Hp} {L T : Ents} {pos pos' : Pos} {e o i : Expr} {te tv ti : TEd} {g : TGd}
theorem s_asg {tg : Expr} {m : Nat} (he : PD X e te) (hg : PGd X m tg g) (hs : swapsWithSole [tg] e pos.line X.env = pure false := by rfl) (hw : swappedStores [tg] e X.env = pure none := by rfl)
    (h1 : (assignEach [tg] X.env).map (·.2) = [assign tg X.env] := by rfl) : PSd X (.Assign [tg] e pos) (sAsg te g) := (ps_asg he hg hs hw h1).mono fun Dn σ H ⟨B, ρ, T, De, hl, hd, ht, lk⟩ => ⟨B, ρ, T, _, hl, hd, ht, fun r ρ' v H' l1 d1 h1 => by
  cases e1 : sd r with
  | none => rw [e1] at h1; exact h1.elim
  | some d =>
    rw [e1] at h1
    exact ⟨B, ρ', T, d, _, l1, d1.thaw e1, h1, fun ρ2 σ2 H2 m1 m2 _ d2 q2 => (lk.1 ρ2 σ2 H2 m1 m2 d2).1 q2⟩⟩
noncomputable def rSetA : TSet := fun o i v H Q => rSetL o i v H Q ∨ ∃ a H', o = .ref a ∧ DPut H a i v H' ∧ Q H'
theorem set_any (hu : X.A.units + 1 < cLine) : PSet X rSetA := by
  intro pins s σ H o i v ov iv u Q I ro ri rv h
  rcases h with h | ⟨a, H', rfl, g, q⟩
  · exact set_list pins s σ H o i v ov iv u Q I ro ri rv h
  · cases ro
    exact d_setItem hu I g ri rv fun s' I' => ⟨H', I', q⟩
theorem DS.slotW {ρ : List Sl} {σ : St} (hl : ρ.length = σ.length) (h : DS K B (ρ.zip σ ++ T) H) {i : Nat} {c : D} (e : ρ[i]? = some (.own c)) : ∃ a, σ[i]? = some (some (.ref a)) ∧ Root K (Al B (roots (ρ.zip σ ++ T))) H a c ∧
    ∀ (o : HO) (c' : D), (∀ A', Kp (Al B (roots (ρ.zip σ ++ T))) A' H (upd H a o) → Root K A' (upd H a o) a c') → DS K B ((ρ.set i (.own c')).zip σ ++ T) (upd H a o) := by
  obtain ⟨l1, y, l2, hy, _, hz, hset⟩ := zip_at hl e
  have h' : DS K B (l1 ++ (.own c, y) :: (l2 ++ T)) H := by rw [hz] at h; simpa using h
  obtain ⟨a, rfl, _⟩ := h'.at
  have er : roots (ρ.zip σ ++ T) = roots l1 ++ a :: roots (l2 ++ T) := by rw [hz, List.append_assoc, List.cons_append, root_mid]; rfl
  obtain ⟨a', e', r⟩ := h'.ownAt
  cases e'
  refine ⟨a, hy, by rw [er]; exact r, fun o c' hr => ?_⟩
  rw [er] at hr
  have h2 := h'.write (o := o) (d' := c') hr
  have := hset (.own c') (some (.ref a))
  rw [set_same hy] at this
  rw [this]
  simpa using h2
theorem setD_ok {c k d c' : D} {a : Addr} {y v : V} {A : Addr → Prop} {Q : Hp → Prop} (h : setD c k d = some c') (r : Root K A H a c) (ry : Peek K A H k y) (rv : Rep K A H d v)
    (hq : ∀ o, (∀ A', Kp A A' H (upd H a o) → Root K A' (upd H a o) a c') → Q (upd H a o)) : rSetA (.ref a) y v H Q := by
  cases c with
  | lst xs =>
    cases k with
    | int i =>
      obtain ⟨vs, h1, r1⟩ := r
      simp only [setD, Option.map_eq_some_iff] at h
      obtain ⟨j, hj, rfl⟩ := h
      have := ry.int_inv
      subst this
      exact .inl ⟨a, vs, i, j, rfl, rfl, h1, by rw [← r1.length]; exact hj, hq _ fun A' kp => ⟨_, upd_same, (r1.set rv j).mono kp⟩⟩
    | _ => simp [setD] at h
  | dK kvs =>
    obtain ⟨vs, h1, e1, r1⟩ := r
    simp only [setD] at h
    split at h
    · rename_i hlt
      simp only [Option.map_eq_some_iff] at h
      obtain ⟨j, hj, rfl⟩ := h
      rw [keyOf_rep hj ry]
      obtain ⟨q1, q2⟩ := repK_put e1 r1 (k := j) rv
      have hl : vs.length < sizeLine := by
        have := congrArg List.length e1
        simp only [List.length_map] at this
        exact Nat.lt_of_lt_of_le (show vs.length < 100000 by omega) (by decide)
      exact .inr ⟨a, _, rfl, DPut.k h1 hl, hq _ fun A' kp => ⟨_, upd_same, q1, q2.mono kp⟩⟩
    · cases h
  | dT kvs =>
    cases k with
    | tup ks =>
      obtain ⟨vs, h1, e1, r1⟩ := r
      simp only [setD] at h
      split at h
      · rename_i hlt
        simp only [Option.map_eq_some_iff] at h
        obtain ⟨j, hj, rfl⟩ := h
        obtain ⟨b, us, rfl, h2, r2⟩ := ry.tup_inv
        rw [keysOf_rep hj r2] at h2
        obtain ⟨q1, q2⟩ := repK_put e1 r1 (k := j) rv
        have hl : vs.length < sizeLine := by
          have := congrArg List.length e1
          simp only [List.length_map] at this
          exact Nat.lt_of_lt_of_le (show vs.length < 100000 by omega) (by decide)
        exact .inr ⟨a, _, rfl, DPut.t h1 h2 hl, hq _ fun A' kp => ⟨_, upd_same, q1, q2.mono kp⟩⟩
      · cases h
    | _ => simp [setD] at h
  | _ => simp [setD] at h
theorem s_sub {n : Nat} (hu : X.A.units + 1 < cLine) (hv : PD X e tv) (ho : PE X o (tVar n)) (hi : PD X i ti)
    (ha : ∀ v, assign (.Subscript o i pos') X.env v = (do
      let ov ← holding [v] (eval o X.env)
      let iv ← holding [v, ov] (eval i X.env)
      standAt pos'
      holding [v, ov, iv] (setItem ov iv v)
      release [v, ov, iv] []) := by intro _; rfl)
    (hs : swapsWithSole [.Subscript o i pos'] e pos.line X.env = pure false := by rfl) (hw : swappedStores [.Subscript o i pos'] e X.env = pure none := by rfl)
    (h1 : (assignEach [.Subscript o i pos'] X.env).map (·.2) = [assign (.Subscript o i pos') X.env] := by rfl) : PSd X (.Assign [.Subscript o i pos'] e pos) (sSub n ti tv) :=
  (ps_asg hv (pg_sub ho hi (set_any hu) ha) hs hw h1).mono fun Dn σ H ⟨B, ρ, T, De, hl, hd, ht, lk⟩ => ⟨B, ρ, T, _, hl, hd, ht, fun rv ρ1 v H1 l1 d1 ⟨hi, h1⟩ => by
    obtain ⟨d0, h0⟩ := Option.isSome_iff_exists.mp hi
    obtain ⟨x, hx, _⟩ := d1.peek l1 h0
    refine ⟨x, hx, B, ρ1, (rv, some v) :: T, _, l1, d1, h1, fun rk ρ2 y H2 l2 d2 h2 => ?_⟩
    cases e1 : sd rv with
    | none => rw [e1] at h2; exact h2.elim
    | some d =>
      cases e2 : sd rk with
      | none => rw [e1, e2] at h2; exact h2.elim
      | some k =>
        cases e3 : ρ2[n]? with
        | none => rw [e1, e2, e3] at h2; exact h2.elim
        | some s =>
          cases s with
          | no => rw [e1, e2, e3] at h2; exact h2.elim
          | val c => rw [e1, e2, e3] at h2; exact h2.elim
          | own c =>
            rw [e1, e2, e3] at h2
            obtain ⟨c', hc, h2⟩ := h2
            obtain ⟨q1, q2, q3⟩ := d2.two e1 e2
            obtain ⟨a, ha, ra, wr⟩ := q1.slotW l2 e3
            rw [hx] at ha
            cases ha
            exact setD_ok hc ra q3.peek q2 fun o hr => (lk.1 _ _ _ (by rw [List.length_set]; exact l2) rfl (wr o c' hr)).1 h2⟩
end
end L2
namespace L2
open PySem PySem.Spec PyProof.Rows Lw
section
variable {X : Cx} {tg : Expr}
noncomputable def WalkV (K : PySem.W.Frag) (R : It → Hp → Prop) (x : V) (H : Hp) : Prop := (∃ a, x = .ref a ∧ (∃ xs, SqL K H a xs) ∧ R (Itl K a) H) ∨ (∃ a, x = .ref a ∧ (∃ xs, SqT K H a xs) ∧ R (Itt K a) H) ∨ ∃ z : Str, x = .str z ∧ z.cps.all (· < 128) = true ∧ R (Its z) H
noncomputable def iAny (K : PySem.W.Frag) (tl : TE) : TI := fun σ H R => tl σ H fun x H1 => WalkV K R x H1
theorem pi_any {l : Expr} {tl : TE} (hl : PE X l tl) : PI X tg l (iAny X.K tl) := by
  intro pins s σ H R I h
  refine thn (hl pins s σ H _ I h) fun v s1 ⟨x, H1, I1, r1, q1⟩ => ?_
  have fp : ∀ b ∈ [s1.heap.objs.size], FpOk X pins H1 b := fun b hb => by
    have e : b = s1.heap.objs.size := by simpa using hb
    subst e
    exact I1.fpOk (Nat.le_refl _) (I1.hok.fresh (Nat.le_refl _))
  rcases q1 with ⟨a, rfl, ⟨xs, hq⟩, q⟩ | ⟨a, rfl, ⟨xs, hq⟩, q⟩ | ⟨z, rfl, ha, q⟩
  · cases r1
    obtain ⟨its, rv, p, hz⟩ := I1.list hq
    exact wpAny_pyIter_list p.isList ⟨s1.heap.objs.size, [s1.heap.objs.size], _, _, H1, rfl, I1.kept (t' := s1.toks) fun b o e => Heap.get?_push_of_some _ e, turn_list a _, ⟨_, Heap.get?_push_size _ rfl, rfl, rfl⟩, fp, q⟩
  · cases r1
    obtain ⟨its, rv, p, hz⟩ := I1.tuple hq
    exact wpAny_pyIter_tuple (show s1.heap.IsTuple a its.toArray from p) ⟨s1.heap.objs.size, [s1.heap.objs.size], _, _, H1, rfl, I1.kept (t' := s1.toks) fun b o e => Heap.get?_push_of_some _ e, turn_tuple a _, ⟨_, Heap.get?_push_size _ rfl, rfl, rfl⟩, fp, q⟩
  · obtain ⟨t, rfl⟩ := r1
    exact wpAny_pyIter_ascii ha ⟨s1.heap.objs.size, [s1.heap.objs.size], _, Its z, H1, rfl, I1.kept (t' := s1.toks) fun b ob q => Heap.get?_push_of_some _ q, turn_str z t _, ⟨_, Heap.get?_push_size _ rfl, rfl, rfl⟩, fp, q⟩
end
noncomputable def EOk (K : PySem.W.Frag) (A : Addr → Prop) (H : Hp) (E : Ents) : Prop := ∀ p ∈ E, SlOk K A H p.1 p.2
structure YD (K : PySem.W.Frag) (J : It) (ds : List D) (E : Ents) : Prop where
  vals : roots E = []
  go : ∀ i H A, i < ds.length → EOk K A H E → J.go i H
  yld : ∀ i H A x H', i < ds.length → EOk K A H E → J.yld i H x H' → ∃ d, ds[i]? = some d ∧ ((H' = H ∧ Rep K A H d x) ∨ ∃ p es vs, H p = none ∧ x = .ref p ∧ H' = upd H p (.tup vs) ∧ d = .tup es ∧ Reps K A H es vs)
  stop : ∀ i H A, i = ds.length → EOk K A H E → J.stop i H
noncomputable abbrev TId := List Addr → List Sl → (List D → List Sl → Prop) → Prop
noncomputable def dI (K : PySem.W.Frag) (ι : TId) : TI := fun σ H R => ∃ (B : Bs) (ρ : List Sl) (T : Ents) (Ψ : List D → List Sl → Prop), ρ.length = σ.length ∧ DS K B (ρ.zip σ ++ T) H ∧ ι B.dk ρ Ψ ∧
  ∀ (J : It) (ds : List D) (ρ' : List Sl) (E : Ents) (H' : Hp), ρ'.length = σ.length → DS K B (ρ'.zip σ ++ (E ++ T)) H' → YD K J ds E → Ψ ds ρ' → R J H'
noncomputable abbrev PId (X : Cx) (tg iter : Expr) (ι : TId) : Prop := PI X tg iter (dI X.K ι)
theorem PI.mono {X : Cx} {tg iter : Expr} {w w' : TI} (h : PI X tg iter w) (k : ∀ σ H R, w' σ H R → w σ H R) : PI X tg iter w' := fun pins s σ H R I q => h pins s σ H R I (k σ H R q)
noncomputable def signsD (z : Str) : List D := z.cps.toList.map fun c => D.str ⟨#[c]⟩
noncomputable def walkD : D → Option (List D)
  | .lst xs => some xs
  | .tup xs => some xs
  | .con xs => some xs
  | .scr xs => some xs
  | .str z => if z.cps.all (· < 128) then some (signsD z) else none
  | _ => none
noncomputable def iV (te : TEd) : TId := fun dk ρ Ψ => te dk ρ fun r ρ' => match (sd r).bind walkD with
  | some ds => Ψ ds ρ'
  | none => False
noncomputable def intsD (lo : Int) (n : Nat) : List D := (List.range n).map fun (i : Nat) => D.int (lo + i)
noncomputable def iR1 (te : TEd) : TId := fun dk ρ Ψ => te dk ρ fun r ρ' => match r with
  | .val (.int j) => -(2 ^ 62) ≤ j ∧ j < 2 ^ 62 ∧ Ψ (intsD 0 j.toNat) ρ'
  | _ => False
section
variable {X : Cx} {K : PySem.W.Frag} {tg e a b : Expr} {te ta tb : TEd} {pos p : Pos}
theorem yd_list {a : Addr} {ds : List D} : YD K (Itl K a) ds [(.val (.lst ds), some (.ref a))] where
  vals := rfl
  go := fun i H A hi ok => by
    obtain ⟨v, e, r⟩ := ok _ List.mem_cons_self
    cases e
    obtain ⟨a', vs, e, _, h1, r1⟩ := r.lst_inv
    cases e
    exact ⟨vs, vs[i]'(by rw [← r1.length]; exact hi), SqL.of h1, List.getElem?_eq_getElem _⟩
  yld := fun i H A x H' hi ok y => by
    obtain ⟨v, e, r⟩ := ok _ List.mem_cons_self
    cases e
    obtain ⟨a', vs, e, _, h1, r1⟩ := r.lst_inv
    cases e
    obtain ⟨d, hd, rd⟩ := r1.getV (y.2 vs (SqL.of h1))
    exact ⟨d, hd, .inl ⟨y.1, rd⟩⟩
  stop := fun i H A hi ok => by
    obtain ⟨v, e, r⟩ := ok _ List.mem_cons_self
    cases e
    obtain ⟨a', vs, e, _, h1, r1⟩ := r.lst_inv
    cases e
    exact ⟨vs, SqL.of h1, by rw [← r1.length]; omega⟩
theorem yd_scr {a : Addr} {ds : List D} : YD K (Itl K a) ds [(.val (.scr ds), some (.ref a))] where
  vals := rfl
  go := fun i H A hi ok => by
    obtain ⟨v, e, r⟩ := ok _ List.mem_cons_self
    cases e
    obtain ⟨a', vs, e, h1, r1⟩ := r.scr_inv
    cases e
    exact ⟨vs, vs[i]'(by rw [← r1.length]; exact hi), h1.sqL, List.getElem?_eq_getElem _⟩
  yld := fun i H A x H' hi ok y => by
    obtain ⟨v, e, r⟩ := ok _ List.mem_cons_self
    cases e
    obtain ⟨a', vs, e, h1, r1⟩ := r.scr_inv
    cases e
    obtain ⟨d, hd, rd⟩ := r1.getV (y.2 vs h1.sqL)
    exact ⟨d, hd, .inl ⟨y.1, rd⟩⟩
  stop := fun i H A hi ok => by
    obtain ⟨v, e, r⟩ := ok _ List.mem_cons_self
    cases e
    obtain ⟨a', vs, e, h1, r1⟩ := r.scr_inv
    cases e
    exact ⟨vs, h1.sqL, by rw [← r1.length]; omega⟩
theorem yd_tup {a : Addr} {d : D} {ds : List D} (hd : d = .tup ds ∨ d = .con ds) : YD K (Itt K a) ds [(.val d, some (.ref a))] := by
  have key : ∀ A H, EOk K A H [(.val d, some (.ref a))] → ∃ vs, SqT K H a vs ∧ Reps K A H ds vs := fun A H ok => by
    obtain ⟨v, e, r⟩ := ok _ List.mem_cons_self
    cases e
    rcases hd with rfl | rfl
    · obtain ⟨a', vs, e, h1, r1⟩ := r.tup_inv
      cases e
      exact ⟨vs, SqT.of h1, r1⟩
    · obtain ⟨a', vs, e, h1, r1⟩ := r.con_inv
      cases e
      exact ⟨vs, h1.sqT, r1⟩
  refine ⟨rfl, fun i H A hi ok => ?_, fun i H A x H' hi ok y => ?_, fun i H A hi ok => ?_⟩
  · obtain ⟨vs, h1, r1⟩ := key A H ok
    exact ⟨vs, vs[i]'(by rw [← r1.length]; exact hi), h1, List.getElem?_eq_getElem _⟩
  · obtain ⟨vs, h1, r1⟩ := key A H ok
    obtain ⟨d, hd, rd⟩ := r1.getV (y.2 vs h1)
    exact ⟨d, hd, .inl ⟨y.1, rd⟩⟩
  · obtain ⟨vs, h1, r1⟩ := key A H ok
    exact ⟨vs, h1, by rw [← r1.length]; omega⟩
theorem yd_str {z : Str} : YD K (Its z) (signsD z) [] where
  vals := rfl
  go := fun i H A hi _ => by simpa [Its, signsD, Str.length] using hi
  yld := fun i H A x H' hi _ y => by
    obtain ⟨e, c, hc, rfl⟩ := y
    refine ⟨.str ⟨#[c]⟩, ?_, .inl ⟨e, .str _⟩⟩
    unfold signsD
    rw [List.getElem?_map, Array.getElem?_toList, hc]
    rfl
  stop := fun i H A hi _ => by simp [Its, hi, signsD, Str.length]
theorem yd_range {lo : Int} {n : Nat} : YD K (Itr lo n) (intsD lo n) [] where
  vals := rfl
  go := fun i H A hi _ => by simpa [Itr, intsD] using hi
  yld := fun i H A x H' hi _ y => by
    have hi' : i < n := by simpa [intsD] using hi
    refine ⟨.int (lo + i), by simp [intsD, hi'], .inl ⟨y.1, ?_⟩⟩
    rw [y.2]; exact .int _
  stop := fun i H A hi _ => by simp [Itr, intsD, hi]
theorem i_v (he : PD X e te) : PId X tg e (iV te) := (pi_any he).mono fun σ H R ⟨B, ρ, T, Ψ, hl, hd, ht, k⟩ => ⟨B, ρ, T, _, hl, hd, ht, fun r ρ' v H' l1 d1 h1 => by
  cases e1 : sd r with
  | none => rw [e1] at h1; exact h1.elim
  | some d =>
    rw [e1] at h1
    have d2 := d1.thaw e1
    have rv := d2.valAt
    cases d with
    | lst xs => obtain ⟨a, vs, rfl, _, h2, r2⟩ := rv.lst_inv; exact .inl ⟨a, rfl, ⟨vs, SqL.of h2⟩, k _ xs ρ' [_] H' l1 d2 yd_list h1⟩
    | scr xs => obtain ⟨a, vs, rfl, h2, r2⟩ := rv.scr_inv; exact .inl ⟨a, rfl, ⟨vs, h2.sqL⟩, k _ xs ρ' [_] H' l1 d2 yd_scr h1⟩
    | tup xs => obtain ⟨a, vs, rfl, h2, r2⟩ := rv.tup_inv; exact .inr (.inl ⟨a, rfl, ⟨vs, SqT.of h2⟩, k _ xs ρ' [_] H' l1 d2 (yd_tup (.inl rfl)) h1⟩)
    | con xs => obtain ⟨a, vs, rfl, h2, r2⟩ := rv.con_inv; exact .inr (.inl ⟨a, rfl, ⟨vs, h2.sqT⟩, k _ xs ρ' [_] H' l1 d2 (yd_tup (.inr rfl)) h1⟩)
    | str z =>
      have := rv.str_inv
      subst this
      simp only [Option.bind_some, walkD] at h1
      by_cases hz : z.cps.all (· < 128) = true
      · rw [if_pos hz] at h1
        exact .inr (.inr ⟨z, rfl, hz, k _ _ ρ' [] H' l1 d2.drop yd_str h1⟩)
      · rw [if_neg hz] at h1
        exact h1.elim
    | _ => exact h1.elim⟩
theorem i_r1 (hg : Gl X "range") (hm : X.mg "range" = none) (ha : PD X a te) (hs : starEach [a] X.env = [(false, eval a X.env)] := by rfl) (hn : noStar a = true := by rfl) : PId X tg (.Call (.Name "range" p) [a] [] pos) (iR1 te) :=
  (pi_range1 hg hm (pa_c ha pa_nil hn) hs).mono fun σ H R ⟨B, ρ, T, Ψ, hl, hd, ht, k⟩ => ⟨B, ρ, T, _, hl, hd, ht, fun r ρ' v H' l1 d1 h1 => by
    split at h1
    · have := d1.valAt.int_inv
      subst this
      exact ⟨_, rfl, h1.1, h1.2.1, k _ _ ρ' [] H' l1 d1.drop yd_range h1.2.2⟩
    · exact h1.elim⟩
noncomputable def sFor (ι : TId) (g : TGd) (tb : TSd) : TSd := fun dk De ρ => ι dk ρ fun ds ρ1 => ∃ Pv : Nat → List Sl → Prop, Pv 0 ρ1 ∧
  (∀ i d ρ', ds[i]? = some d → Pv i ρ' → g d ρ' fun ρ2 => tb dk { nx := Pv (i + 1), ct := Pv (i + 1), bk := De.nx, rt := De.rt } ρ2) ∧ ∀ ρ', Pv ds.length ρ' → De.nx ρ'
theorem DS.rmE {B : Bs} {H : Hp} {L T : Ents} : ∀ {E : Ents}, DS K B (L ++ (E ++ T)) H → DS K B (L ++ T) H
  | [], h => h
  | x :: E, h => DS.rmE (E := E) (DS.drop (L1 := L) (x := x) (by simpa using h))
theorem s_for {iter : Expr} {m : Nat} {body : List Stmt} {ι : TId} {g : TGd} {tb : TSd} (hp : PassesOwn (model X.prog X.w) X.A X.env X.xe) (hc : X.calm = true) (hi : PId X tg iter ι) (hg : PGd X m tg g) (hb : PSsd X body tb)
    (hs : ∀ x, foldedSetIterable iter X.env x = pure x := by intro _; rfl) : PSd X (.For tg iter body [] pos) (sFor ι g tb) :=
  (ps_for hp hc hi hg hb hs).mono fun Dn σ H ⟨B, ρ, T, De, hl, hd, ht, lk⟩ => ⟨B, ρ, T, _, hl, hd, ht, fun J ds ρ1 E H1 l1 d1 Y ⟨Pv, p0, step, fin⟩ => by
    refine ⟨fun i m σ' H' => m = ds.length - i ∧ i ≤ ds.length ∧ ∃ ρ', ρ'.length = σ'.length ∧ σ'.length = σ.length ∧ DS X.K B (ρ'.zip σ' ++ (E ++ T)) H' ∧ Pv i ρ', ⟨_, rfl, Nat.zero_le _, ρ1, l1, rfl, d1, p0⟩, ?_⟩
    rintro i m σ' H' ⟨rfl, hi', ρ', m1, m2, d', pv⟩
    have eok : EOk X.K (Al B (roots (ρ'.zip σ' ++ (E ++ T)))) H' E := fun q hq => d'.ok q (by simp [hq])
    by_cases hlt : i < ds.length
    · refine .inr ⟨Y.go i H' _ hlt eok, fun σ2 H2 => ∃ ρ2, ρ2.length = σ2.length ∧ σ2.length = σ.length ∧ DS X.K B (ρ2.zip σ2 ++ (E ++ T)) H2 ∧ Pv (i + 1) ρ2, fun σ2 H2 ⟨ρ2, q1, q2, q3, q4⟩ => ⟨_, (by omega : ds.length - (i + 1) < _), rfl, hlt, ρ2, q1, q2, q3, q4⟩, fun x H2 y => ?_⟩
      obtain ⟨d, hdi, alt⟩ := Y.yld i H' _ x H2 hlt eok y
      have d2 : DS X.K B (ρ'.zip σ' ++ (.val d, some x) :: (E ++ T)) H2 := by
        rcases alt with ⟨rfl, rx⟩ | ⟨p, es, vs, hp', rfl, rfl, rfl, rr⟩
        · exact d'.push rx
        · exact d'.tup hp' rr
      refine ⟨B, ρ', E ++ T, d, _, m1, d2, step i d ρ' hdi pv, fun ρ2 σ2 H3 n1 n2 _ d3 q3 => ⟨B, ρ2, E ++ T, _, n1, d3, q3, ?_, ?_⟩⟩
      · intro ρ4 σ4 H4 a1 a2 a3
        refine ⟨fun z => ⟨ρ4, a1, by omega, a3, z⟩, fun z => ?_, fun z => ⟨ρ4, a1, by omega, a3, z⟩⟩
        exact (lk.1 ρ4 σ4 H4 a1 (by omega) a3.rmE).1 z
      · intro r v ρ4 σ4 H4 a1 a3 z
        refine lk.2 r v ρ4 σ4 H4 a1 ?_ z
        have : DS X.K B ((ρ4.zip σ4 ++ [(r, some v)]) ++ (E ++ T)) H4 := by simpa using a3
        simpa using this.rmE
    · have ei : i = ds.length := by omega
      subst ei
      exact .inl ⟨Y.stop _ H' _ rfl eok, (lk.1 ρ' σ' H' m1 m2 d'.rmE).1 (fin ρ' pv)⟩⟩
noncomputable def sWhile (c : TTd) (tb : TSd) : TSd := fun dk De ρ => ∃ (Pv : List Sl → Prop) (μ : List Sl → Nat), Pv ρ ∧ ∀ ρ, Pv ρ → c dk ρ fun b ρ1 =>
  if b = true then tb dk { nx := fun ρ' => Pv ρ' ∧ μ ρ' < μ ρ, ct := fun ρ' => Pv ρ' ∧ μ ρ' < μ ρ, bk := De.nx, rt := De.rt } ρ1 else De.nx ρ1
theorem s_while {c : Expr} {body : List Stmt} {tc : TTd} {tb : TSd} (hp : PassesOwn (model X.prog X.w) X.A X.env X.xe) (hc : PDt X c tc) (hb : PSsd X body tb) : PSd X (.While c body [] pos) (sWhile tc tb) :=
  (ps_while hp hc hb).mono fun Dn σ H ⟨B, ρ, T, De, hl, hd, ⟨Pv, μ, p0, step⟩, lk⟩ => by
    refine ⟨fun m σ' H' => ∃ ρ', m = μ ρ' ∧ ρ'.length = σ'.length ∧ σ'.length = σ.length ∧ DS X.K B (ρ'.zip σ' ++ T) H' ∧ Pv ρ', ⟨_, ρ, rfl, hl, rfl, hd, p0⟩, ?_⟩
    rintro m σ' H' ⟨ρ', rfl, m1, m2, d', pv⟩
    refine ⟨B, ρ', T, _, m1, d', step ρ' pv, fun b ρ1 H1 l1 d1 h1 => ?_⟩
    cases b with
    | true =>
      refine (if_pos rfl).mpr ⟨fun σ2 H2 => ∃ ρ2, ρ2.length = σ2.length ∧ σ2.length = σ.length ∧ DS X.K B (ρ2.zip σ2 ++ T) H2 ∧ Pv ρ2 ∧ μ ρ2 < μ ρ', fun σ2 H2 ⟨ρ2, q1, q2, q3, q4, q5⟩ => ⟨_, q5, ρ2, rfl, q1, q2, q3, q4⟩, B, ρ1, T, _, l1, d1, (if_pos rfl).mp h1, ?_, ?_⟩
      · intro ρ4 σ4 H4 a1 a2 a3
        exact ⟨fun z => ⟨ρ4, a1, by omega, a3, z⟩, fun z => (lk.1 ρ4 σ4 H4 a1 (by omega) a3).1 z, fun z => ⟨ρ4, a1, by omega, a3, z⟩⟩
      · exact fun r v ρ4 σ4 H4 a1 a3 z => lk.2 r v ρ4 σ4 H4 a1 a3 z
    | false => exact iteF ((lk.1 ρ1 σ' H1 l1 m2 d1).1 ((if_neg (by decide)).mp h1))
end
end L2
namespace L2
open PySem PySem.Spec PyProof.Rows Lw
noncomputable def pinB (B : Bs) (D : Addr) (ys : List V) : Bs := ⟨B.dk, fun a => (B.A0 a ∨ B.H0 a = none) ∧ a ≠ D, fun a => if a = D then some (.lst ys) else B.H0 a⟩
section
variable {K : PySem.W.Frag} {B : Bs} {H : Hp} {L R : Ents} {D : Addr} {ys ys' : List V}
theorem pinB_al {R : List Addr} {a : Addr} : Al (pinB B D ys) R a ↔ Al B R a ∧ a ≠ D := by
  unfold Al pinB
  constructor
  · rintro ⟨h1, h2, h3 | h3⟩
    · exact ⟨⟨h1, h2, h3.1⟩, h3.2⟩
    · dsimp only at h3
      by_cases z : a = D
      · rw [if_pos z] at h3; cases h3
      · rw [if_neg z] at h3; exact ⟨⟨h1, h2, .inr h3⟩, z⟩
  · rintro ⟨⟨h1, h2, h3⟩, h4⟩
    exact ⟨h1, h2, .inl ⟨h3, h4⟩⟩
theorem DS.pin (h : DS K B L H) (hD : H D = none) : DS K (pinB B D []) L (upd H D (.lst [])) := by
  obtain ⟨f1, f2, f3⟩ := h.free hD
  refine ⟨fun b o e n => ?_, h.dk.upd f2, h.nd, fun a ha => ?_, fun p hp => (h.ok p hp).mono (.laid hD fun a z n => pinB_al.mpr ⟨z, n⟩) fun b hb o q => by rw [upd_ne (ne_of_none q hD)]; exact q⟩
  · by_cases z : b = D
    · subst z; simp only [pinB, if_true] at e; cases e; exact upd_same
    · simp only [pinB, if_neg z] at e; rw [upd_ne z]; exact h.fr b o e n
  · have := h.new a ha
    have z : a ≠ D := fun q => f3 (q ▸ ha)
    exact ⟨by simp only [pinB, if_neg z]; exact this.1, this.2⟩
theorem DS.pinAt (h : DS K (pinB B D ys) L H) (hn : D ∉ B.dk) : H D = some (.lst ys) := h.fr D _ (by simp [pinB]) hn
theorem DS.pinW (h : DS K (pinB B D ys) L H) (hn : D ∉ B.dk) : DS K (pinB B D ys') L (upd H D (.lst ys')) := by
  have hD := h.pinAt hn
  have kp : Kp (Al (pinB B D ys) (roots L)) (Al (pinB B D ys') (roots L)) H (upd H D (.lst ys')) :=
    (Kp.write (A := Al (pinB B D ys) (roots L)) hD rfl fun z => (pinB_al.mp z).2 rfl).trans (.all fun a z => pinB_al.mpr (pinB_al.mp z))
  refine ⟨fun b o e n => ?_, h.dk.upd hn, h.nd, fun a ha => ?_, fun p hp => (h.ok p hp).mono kp fun b hb o q => ?_⟩
  · by_cases z : b = D
    · subst z; simp only [pinB, if_true] at e; cases e; exact upd_same
    · simp only [pinB, if_neg z] at e
      rw [upd_ne z]; exact h.fr b o (by simp only [pinB, if_neg z]; exact e) n
  · have := h.new a ha
    have z : a ≠ D := fun q => by subst q; simp [pinB] at this
    simp only [pinB, if_neg z] at this ⊢
    exact this
  · have := (h.new b (mem_roots.mpr ⟨p, hp, hb⟩)).1
    have z : b ≠ D := fun w => by subst w; simp [pinB] at this
    rw [upd_ne z]; exact q
theorem DS.unpin {yd : List L2.D} (h : DS K (pinB B D ys) L H) (r : Reps K (Al (pinB B D ys) (roots L)) H yd ys) (h0 : B.H0 D = none) (hn : D ∉ B.dk) : DS K B ((.own (.lst yd), some (.ref D)) :: L) H := by
  have hD := h.pinAt hn
  have nr : D ∉ roots L := fun z => by have := (h.new D z).1; simp [pinB] at this
  have e1 : roots ((Sl.own (.lst yd), some (V.ref D)) :: L) = D :: roots L := rfl
  have al : ∀ a, Al (pinB B D ys) (roots L) a → Al B (D :: roots L) a := fun a z => by
    obtain ⟨z1, z2⟩ := pinB_al.mp z
    exact ⟨z1.1, fun q => (List.mem_cons.mp q).elim z2 z1.2.1, z1.2.2⟩
  refine ⟨fun b o e n => ?_, h.dk, by rw [e1]; exact List.nodup_cons.mpr ⟨nr, h.nd⟩, fun a ha => ?_, fun p hp => ?_⟩
  · have z : b ≠ D := fun q => by subst q; rw [h0] at e; cases e
    exact h.fr b o (by simp only [pinB, if_neg z]; exact e) n
  · rw [e1] at ha
    rcases List.mem_cons.mp ha with q | q
    · subst q; exact ⟨h0, hn⟩
    · have := h.new a q
      have z : a ≠ D := fun w => nr (w ▸ q)
      simp only [pinB, if_neg z] at this
      exact this
  · rw [e1]
    rcases List.mem_cons.mp hp with q | q
    · subst q; exact ⟨D, rfl, ys, hD, r.mono (.all al)⟩
    · exact (h.ok p q).mono (.all al) fun _ _ _ w => w
theorem DS.lend1 {ρ : List Sl} {σ : St} (hl : ρ.length = σ.length) (h : DS K B (ρ.zip σ ++ R) H) (i : Nat) : DS K B ((ρ.set i .no).zip σ ++ ((ρ[i]?).getD .no, (σ[i]?).join) :: R) H := by
  by_cases hi : i < ρ.length
  · obtain ⟨l1, y, l2, hy, _, hz, hset⟩ := zip_at hl (List.getElem?_eq_getElem hi)
    rw [hz] at h
    have h1 : DS K B (l1 ++ (ρ[i], y) :: (l2 ++ R)) H := by simpa using h
    have h2 := h1.front
    have h3 : DS K B (((ρ[i], y) :: l1) ++ (.no, y) :: (l2 ++ R)) H := DS.pushN (L1 := (ρ[i], y) :: l1) (by simpa using h2) y
    have e := hset .no y
    rw [set_same hy] at e
    rw [e, List.getElem?_eq_getElem hi, hy]
    have h4 : DS K B ((ρ[i], y) :: ((l1 ++ (Sl.no, y) :: l2) ++ R)) H := by simpa using h3
    exact h4.mid
  · rw [List.set_eq_of_length_le (by omega), List.getElem?_eq_none (by omega), List.getElem?_eq_none (by omega)]
    exact h.pushN _
theorem DS.back1 {ρ : List Sl} {σ : St} {s : Sl} {y : Option V} (hl : ρ.length = σ.length) (h : DS K B (ρ.zip σ ++ (s, y) :: R) H) {i : Nat} (hy : (σ[i]?).join = y) : DS K B ((ρ.set i s).zip σ ++ R) H := by
  by_cases hi : i < ρ.length
  · obtain ⟨l1, y', l2, hy', _, hz, hset⟩ := zip_at hl (List.getElem?_eq_getElem hi)
    rw [hy'] at hy
    have hy : y' = y := hy
    subst hy
    have e := hset s y'
    rw [set_same hy'] at e
    rw [e]
    rw [hz] at h
    have h2 : DS K B (l1 ++ (l2 ++ (s, y') :: R)) H := DS.drop (L1 := l1) (x := (ρ[i], y')) (by simpa using h)
    have h3 : DS K B ((l1 ++ l2) ++ (s, y') :: R) H := by simpa using h2
    have h4 : DS K B ((s, y') :: (l1 ++ (l2 ++ R))) H := by simpa using h3.front
    simpa using h4.mid
  · rw [List.set_eq_of_length_le (by omega)]
    exact h.drop
noncomputable def capS (caps : List Nat) (ρ : List Sl) : List Sl := caps.map fun i => (ρ[i]?).getD .no
noncomputable def capV (caps : List Nat) (σ : St) : St := caps.map fun i => (σ[i]?).join
noncomputable def lent (caps : List Nat) (ρ : List Sl) : List Sl := caps.foldl (fun ρ i => ρ.set i .no) ρ
noncomputable def backS : List Nat → List Sl → List Sl → List Sl
  | i :: caps, s :: cs, ρ => backS caps cs (ρ.set i s)
  | _, _, ρ => ρ
theorem lent_len : ∀ (caps : List Nat) (ρ : List Sl), (lent caps ρ).length = ρ.length
  | [], _ => rfl
  | i :: caps, ρ => by show (lent caps (ρ.set i .no)).length = _; rw [lent_len caps, List.length_set]
theorem back_len : ∀ (caps : List Nat) (cs : List Sl) (ρ : List Sl), (backS caps cs ρ).length = ρ.length
  | [], _, _ => rfl
  | _ :: _, [], _ => rfl
  | i :: caps, s :: cs, ρ => by rw [backS, back_len caps, List.length_set]
theorem DS.lend {σ : St} : ∀ {caps : List Nat} {ρ : List Sl} {R : Ents}, caps.Nodup → ρ.length = σ.length → DS K B (ρ.zip σ ++ R) H → DS K B ((lent caps ρ).zip σ ++ ((capS caps ρ).zip (capV caps σ) ++ R)) H
  | [], ρ, R, _, hl, h => h
  | i :: caps, ρ, R, hn, hl, h => by
    obtain ⟨n1, n2⟩ := List.nodup_cons.mp hn
    have h1 := DS.lend (caps := caps) (R := ((ρ[i]?).getD .no, (σ[i]?).join) :: R) n2 (by rw [List.length_set]; exact hl) (h.lend1 hl i)
    have e : capS caps (ρ.set i .no) = capS caps ρ := List.map_congr_left fun j hj => by rw [List.getElem?_set_ne (fun z : i = j => n1 (by rw [z]; exact hj))]
    rw [e] at h1
    show DS K B ((lent caps (ρ.set i .no)).zip σ ++ ((((ρ[i]?).getD .no, (σ[i]?).join) :: (capS caps ρ).zip (capV caps σ)) ++ R)) H
    refine h1.perm (List.Perm.append_left _ ?_)
    rw [List.cons_append]
    exact List.perm_middle
theorem DS.back {σ : St} : ∀ {caps : List Nat} {cs : List Sl} {ρ : List Sl} {R : Ents}, cs.length = caps.length → ρ.length = σ.length → DS K B (ρ.zip σ ++ (cs.zip (capV caps σ) ++ R)) H → DS K B ((backS caps cs ρ).zip σ ++ R) H
  | [], [], ρ, R, _, hl, h => h
  | [], _ :: _, _, _, e, _, _ => by simp at e
  | _ :: _, [], _, _, e, _, _ => by simp at e
  | i :: caps, s :: cs, ρ, R, e, hl, h => by
    have h1 : DS K B (ρ.zip σ ++ (s, (σ[i]?).join) :: (cs.zip (capV caps σ) ++ R)) H := h
    exact DS.back (caps := caps) (cs := cs) (by simpa using e) (by rw [List.length_set]; exact hl) (h1.back1 hl rfl)
theorem back_lent (caps : List Nat) : ∀ (cs : List Sl) (ρ : List Sl), cs.length = caps.length → caps.Nodup → backS caps cs (lent caps ρ) = backS caps cs ρ := by
  have ext : ∀ (caps : List Nat) (cs : List Sl) (ρ ρ' : List Sl), cs.length = caps.length → ρ.length = ρ'.length → (∀ j, j ∉ caps → ρ[j]? = ρ'[j]?) → backS caps cs ρ = backS caps cs ρ' := by
    intro caps
    induction caps with
    | nil => intro cs ρ ρ' _ _ h; cases cs <;> exact List.ext_getElem? fun j => h j List.not_mem_nil
    | cons i caps ih =>
      intro cs ρ ρ' e hl h
      cases cs with
      | nil => simp at e
      | cons s cs =>
        rw [backS, backS]
        refine ih cs _ _ (by simpa using e) (by simp [hl]) fun j hj => ?_
        by_cases z : j = i
        · subst z; rw [List.getElem?_set, List.getElem?_set, hl, if_pos rfl, if_pos rfl]
        · rw [List.getElem?_set_ne (Ne.symm z), List.getElem?_set_ne (Ne.symm z)]
          exact h j fun q => (List.mem_cons.mp q).elim z hj
  intro cs ρ e _
  refine ext caps cs _ _ e (lent_len caps ρ) fun j hj => ?_
  have : ∀ (caps : List Nat) (ρ : List Sl), j ∉ caps → (lent caps ρ)[j]? = ρ[j]? := by
    intro caps
    induction caps with
    | nil => intro ρ _; rfl
    | cons i caps ih =>
      intro ρ hj
      show (lent caps (ρ.set i .no))[j]? = _
      rw [ih _ (fun z => hj (List.mem_cons_of_mem _ z)), List.getElem?_set_ne (fun z => hj (by simp [z]))]
  exact this caps ρ hj
theorem reps_of_ents {A : Addr → Prop} : ∀ {yd : List L2.D} {ys : List V}, yd.length = ys.length → (∀ p ∈ vEnts yd ys, SlOk K A H p.1 p.2) → Reps K A H yd ys
  | [], [], _, _ => .nil
  | [], _ :: _, e, _ => by simp at e
  | _ :: _, [], e, _ => by simp at e
  | c :: yd, y :: ys, e, key => by
    obtain ⟨u, e1, r⟩ := key (.val c, some y) (by simp [vEnts])
    cases e1
    exact .cons r (reps_of_ents (by simpa using e) fun p hp => key p (by simp only [vEnts, List.zip_cons_cons, List.map_cons, List.mem_cons] at hp ⊢; exact .inr hp))
theorem DS.forget {ρ : List Sl} {σ : St} (n : Nat) (hl : ρ.length = σ.length) (hn : n ≤ ρ.length) (h : DS K B (ρ.zip σ ++ R) H) : DS K B ((List.replicate n Sl.no ++ ρ.drop n).zip σ ++ R) H := by
  induction n generalizing ρ σ R with
  | zero => simpa using h
  | succ n ih =>
    cases ρ with
    | nil => simp at hn
    | cons r ρ =>
      cases σ with
      | nil => simp at hl
      | cons y σ =>
        have h1 : DS K B (ρ.zip σ ++ R) H := DS.drop (L1 := []) (x := (r, y)) h
        have h2 := ih (ρ := ρ) (σ := σ) (R := R) (by simpa using hl) (by simpa using hn) h1
        rw [List.replicate_succ, List.cons_append, List.drop_succ_cons, List.zip_cons_cons]
        exact DS.pushN (L1 := []) h2 y
end
noncomputable def yesD : TTd := fun _ ρ Φ => Φ true ρ
noncomputable def eLC (n : Nat) (caps : List Nat) (ι : TId) (g : TGd) (tt : TTd) (te : TEd) : TEd := fun dk ρ Φ => ι dk ρ fun ds ρ1 => ∃ Pv : Nat → List D → List Sl → Prop, Pv 0 [] (capS caps ρ1) ∧
  (∀ i d ys cs, ds[i]? = some d → cs.length = caps.length → Pv i ys cs → g d (List.replicate n Sl.no ++ cs) fun ρ2 => tt dk ρ2 fun b ρ3 => if b = true then te dk ρ3 fun r ρ4 => match sd r with
    | some c => ys.length < 100000 ∧ Pv (i + 1) (ys ++ [c]) (ρ4.drop n)
    | none => False
    else Pv (i + 1) ys (ρ3.drop n)) ∧
  ∀ ys cs, cs.length = caps.length → Pv ds.length ys cs → Φ (.own (.lst ys)) (backS caps cs ρ1)
section
variable {X : Cx}
theorem ifs_n : PIfs X [] (dTt X.K yesD) := fun pins s σ H Q I ⟨B, ρ, T, Φ, hl, hd, ht, k⟩ => pifs_nil pins s σ H Q I (k true ρ H hl hd ht)
theorem ifs_1 {c : Expr} {t : TTd} (h : PDt X c t) : PIfs X [c] (dTt X.K t) := pifs_one h
theorem lc_walk {T : List Str} {caps : List Nat} {ι : TId} {g : TGd} {tt : TTd} {te : TEd} {K : PySem.W.Frag} (hcap : caps.Nodup) {σ : St} {H : Hp} {Q : VK} (h : dE K (eLC T.length caps ι g tt te) σ H Q) :
    tLC T caps (dI K ι) (dG K T.length g) (dTt K tt) (dE K te) σ H Q := by
  obtain ⟨B, ρ, Tm, Φ, hl, hd, ht, k⟩ := h
  refine ⟨B, ρ, Tm, _, hl, hd, ht, fun J ds ρ1 E H1 l1 d1 Y ⟨Pv, p0, step, fin⟩ D hD => ?_⟩
  obtain ⟨f1, f2, f3⟩ := d1.free hD
  refine ⟨fun i m ys σ' H' => m = ds.length - i ∧ i ≤ ds.length ∧ σ'.length = T.length + caps.length ∧ (∀ j, T.length ≤ j → σ'[j]? = (lcs T caps σ)[j]?) ∧ ∃ (yd : List L2.D) (cs : List Sl), cs.length = caps.length ∧ yd.length = ys.length ∧
    DS K (pinB B D ys) ((List.replicate T.length Sl.no ++ cs).zip σ' ++ ((lent caps ρ1).zip σ ++ (vEnts yd ys ++ (E ++ Tm)))) H' ∧ Pv i yd cs, ?_, ?_⟩
  · refine ⟨_, rfl, Nat.zero_le _, by simp [lcs], fun _ _ => rfl, [], capS caps ρ1, by simp [capS], rfl, ?_, p0⟩
    have h2 := (d1.lend hcap l1).pin hD
    have e : (List.replicate T.length Sl.no ++ capS caps ρ1).zip (lcs T caps σ) = List.replicate T.length (Sl.no, none) ++ (capS caps ρ1).zip (capV caps σ) := by
      have : ∀ n, (List.replicate n Sl.no ++ capS caps ρ1).zip (List.replicate n none ++ capV caps σ) = List.replicate n (Sl.no, none) ++ (capS caps ρ1).zip (capV caps σ) := by
        intro n
        induction n with
        | zero => rfl
        | succ n ih => simp only [List.replicate_succ, List.cons_append, List.zip_cons_cons, ih]
      have e2 : lcs T caps σ = List.replicate T.length none ++ capV caps σ := by unfold lcs capV; rw [List.map_const']
      rw [e2]; exact this _
    rw [e]
    have h3 : DS K (pinB B D []) ((capS caps ρ1).zip (capV caps σ) ++ ((lent caps ρ1).zip σ ++ (E ++ Tm))) (upd H1 D (.lst [])) := h2.perm (by
      rw [← List.append_assoc, ← List.append_assoc (as := (capS caps ρ1).zip (capV caps σ))]
      exact List.perm_append_comm.append_right _)
    have : ∀ n, DS K (pinB B D []) (List.replicate n (Sl.no, none) ++ ((capS caps ρ1).zip (capV caps σ) ++ ((lent caps ρ1).zip σ ++ (E ++ Tm)))) (upd H1 D (.lst [])) := by
      intro n
      induction n with
      | zero => exact h3
      | succ n ih => rw [List.replicate_succ]; exact DS.pushN (L1 := []) ih none
    have e3 : vEnts ([] : List L2.D) ([] : List V) = [] := rfl
    rw [e3]
    simpa using this T.length
  · rintro i m ys σ' H' ⟨rfl, hi, ls, fs, yd, cs, lc, ly, d', pv⟩
    have eok : EOk K (Al (pinB B D ys) (roots ((List.replicate T.length Sl.no ++ cs).zip σ' ++ ((lent caps ρ1).zip σ ++ (vEnts yd ys ++ (E ++ Tm)))))) H' E := fun q hq => d'.ok q (by simp [hq])
    by_cases hlt : i < ds.length
    · refine .inr ⟨Y.go i H' _ hlt eok, fun σ2 v H5 => σ2.length = T.length + caps.length ∧ (∀ j, T.length ≤ j → σ2[j]? = (lcs T caps σ)[j]?) ∧ ys.length < 100000 ∧ ∃ (c : L2.D) (ρ4 : List Sl), ρ4.length = σ2.length ∧ DS K (pinB B D ys) (ρ4.zip σ2 ++ (.val c, some v) :: ((lent caps ρ1).zip σ ++ (vEnts yd ys ++ (E ++ Tm)))) H5 ∧ Pv (i + 1) (yd ++ [c]) (ρ4.drop T.length),
        fun σ2 H4 => σ2.length = T.length + caps.length ∧ (∀ j, T.length ≤ j → σ2[j]? = (lcs T caps σ)[j]?) ∧ ∃ ρ4 : List Sl, ρ4.length = σ2.length ∧ DS K (pinB B D ys) (ρ4.zip σ2 ++ ((lent caps ρ1).zip σ ++ (vEnts yd ys ++ (E ++ Tm)))) H4 ∧ Pv (i + 1) yd (ρ4.drop T.length), ?_, ?_, fun x H2 y => ?_⟩
      · rintro σ2 v H5 ⟨q1, q2, q3, c, ρ4, q4, q5, q6⟩
        refine ⟨q5.pinAt f2, Nat.lt_of_lt_of_le q3 (by decide), ds.length - (i + 1), by omega, rfl, hlt, q1, q2, yd ++ [c], ρ4.drop T.length, by rw [List.length_drop]; omega, by simp [ly], ?_, q6⟩
        have w1 := (q5.pinW (ys' := ys ++ [v]) f2).forget T.length q4 (by omega)
        refine w1.perm (List.Perm.append_left _ ?_)
        have ev : vEnts (yd ++ [c]) (ys ++ [v]) = vEnts yd ys ++ [(.val c, some v)] := by unfold vEnts; rw [List.zip_append ly, List.map_append]; rfl
        rw [ev]
        have p1 : ((Sl.val c, some v) :: ((lent caps ρ1).zip σ ++ (vEnts yd ys ++ (E ++ Tm)))).Perm ((lent caps ρ1).zip σ ++ (vEnts yd ys ++ ((Sl.val c, some v) :: (E ++ Tm)))) := by
          rw [← List.append_assoc, ← List.append_assoc (as := (lent caps ρ1).zip σ)]
          exact List.perm_middle.symm
        simpa using p1
      · rintro σ2 H4 ⟨q1, q2, ρ4, q4, q5, q6⟩
        exact ⟨ds.length - (i + 1), by omega, rfl, hlt, q1, q2, yd, ρ4.drop T.length, by rw [List.length_drop]; omega, ly, q5.forget T.length q4 (by omega), q6⟩
      · obtain ⟨d, hdi, alt⟩ := Y.yld i H' _ x H2 hlt eok y
        have d2 : DS K (pinB B D ys) ((List.replicate T.length Sl.no ++ cs).zip σ' ++ (.val d, some x) :: ((lent caps ρ1).zip σ ++ (vEnts yd ys ++ (E ++ Tm)))) H2 := by
          rcases alt with ⟨rfl, rx⟩ | ⟨p, es, vs, hp', rfl, rfl, rfl, rr⟩
          · exact d'.push rx
          · exact d'.tup hp' rr
        refine ⟨pinB B D ys, _, _, d, _, by simp [lc, ls], d2, step i d yd cs hdi lc pv, fun ρ2 σ2 H3 n1 n2 fr d3 q3 => ⟨pinB B D ys, ρ2, _, _, n1, d3, q3, fun b ρ3 H4 m1 d4 q4 => ?_⟩⟩
        have fr2 : ∀ j, T.length ≤ j → σ2[j]? = (lcs T caps σ)[j]? := fun j hj => (fr j hj).trans (fs j hj)
        cases b with
        | false => exact iteF ⟨by omega, fr2, ρ3, m1, d4, (if_neg (by decide)).mp q4⟩
        | true =>
          refine (if_pos rfl).mpr ⟨pinB B D ys, ρ3, _, _, m1, d4, (if_pos rfl).mp q4, fun r ρ4 v H5 m4 d5 q5 => ?_⟩
          cases e1 : sd r with
          | none => rw [e1] at q5; exact q5.elim
          | some c =>
            rw [e1] at q5
            exact ⟨by omega, fr2, by rw [← ly]; exact q5.1, c, ρ4, m4, d5.thaw e1, q5.2⟩
    · have ei : i = ds.length := by omega
      subst ei
      refine .inl ⟨Y.stop _ H' _ rfl eok, ?_⟩
      have es : σ' = σ'.take T.length ++ capV caps σ := by
        apply List.ext_getElem?
        intro j
        by_cases hj : j < T.length
        · rw [List.getElem?_append_left (by rw [List.length_take]; omega), List.getElem?_take_of_lt hj]
        · rw [List.getElem?_append_right (by rw [List.length_take]; omega), List.length_take, fs j (by omega)]
          have e2 : lcs T caps σ = List.replicate T.length none ++ capV caps σ := by unfold lcs capV; rw [List.map_const']
          rw [e2, List.getElem?_append_right (by rw [List.length_replicate]; omega), List.length_replicate]
          congr 1
          omega
      have ez : (List.replicate T.length Sl.no ++ cs).zip σ' = (List.replicate T.length Sl.no).zip (σ'.take T.length) ++ cs.zip (capV caps σ) := by
        conv => lhs; rw [es]
        exact List.zip_append (by rw [List.length_replicate, List.length_take]; omega)
      have rr : Reps K (Al (pinB B D ys) (roots ((backS caps cs (lent caps ρ1)).zip σ ++ Tm))) H' yd ys ∧ DS K (pinB B D ys) ((backS caps cs (lent caps ρ1)).zip σ ++ Tm) H' := by
        have g1 : DS K (pinB B D ys) (cs.zip (capV caps σ) ++ ((lent caps ρ1).zip σ ++ (vEnts yd ys ++ (E ++ Tm)))) H' := by
          rw [ez, List.append_assoc] at d'
          exact DS.rmE (L := []) (E := (List.replicate T.length Sl.no).zip (σ'.take T.length)) d'
        have g2 : DS K (pinB B D ys) ((lent caps ρ1).zip σ ++ (cs.zip (capV caps σ) ++ (vEnts yd ys ++ (E ++ Tm)))) H' := g1.perm (by
          rw [← List.append_assoc, ← List.append_assoc (as := (lent caps ρ1).zip σ)]
          exact List.perm_append_comm.append_right _)
        have g3 := g2.back lc (by rw [lent_len]; exact l1)
        have g4 : DS K (pinB B D ys) ((backS caps cs (lent caps ρ1)).zip σ ++ (vEnts yd ys ++ Tm)) H' := by
          have : DS K (pinB B D ys) (((backS caps cs (lent caps ρ1)).zip σ ++ vEnts yd ys) ++ (E ++ Tm)) H' := by simpa using g3
          simpa using this.rmE
        refine ⟨?_, g4.rmE⟩
        have er : roots ((backS caps cs (lent caps ρ1)).zip σ ++ (vEnts yd ys ++ Tm)) = roots ((backS caps cs (lent caps ρ1)).zip σ ++ Tm) := by
          have : roots (vEnts yd ys) = [] := by
            refine List.eq_nil_iff_forall_not_mem.mpr fun a ha => ?_
            obtain ⟨q, hq, e⟩ := mem_roots.mp ha
            obtain ⟨p, _, rfl⟩ := List.mem_map.mp hq
            cases e
          rw [roots_app, roots_app, roots_app, this, List.nil_append]
        have key : ∀ p ∈ vEnts yd ys, SlOk K (Al (pinB B D ys) (roots ((backS caps cs (lent caps ρ1)).zip σ ++ Tm))) H' p.1 p.2 := fun p hp => by
          have := g4.ok p (by simp [hp])
          rw [er] at this; exact this
        clear g1 g2 g3 g4 er d' eok ez es
        revert key ly
        generalize Al (pinB B D ys) (roots ((backS caps cs (lent caps ρ1)).zip σ ++ Tm)) = AA
        intro ly key
        exact reps_of_ents ly key
      have u := DS.unpin rr.2 rr.1 f1 f2
      rw [back_lent caps cs ρ1 lc hcap] at u
      exact k _ _ _ H' (by rw [back_len]; exact l1) u.mid (fin yd cs lc pv)
theorem pd_lc {elt tg iter : Expr} {ifs : List Expr} {scope : Scope} {pos : Pos} {ι : TId} {g : TGd} {tt : TTd} {te : TEd} (T capN : List Str) (caps : List Nat) (hc : X.calm = true) (hi : PId X tg iter ι)
    (hk : scope.kind = .function) (ho : lcOk X.N X.env.kindOf scope T capN caps = true)
    (hg : ∀ s₀ H₀ C cl fp, PGd (lcx X (T ++ capN) scope cl C s₀ H₀ fp) T.length tg g)
    (ht : ∀ s₀ H₀ C cl fp, PIfs (lcx X (T ++ capN) scope cl C s₀ H₀ fp) ifs (dTt X.K tt))
    (he : ∀ s₀ H₀ C cl fp, PD (lcx X (T ++ capN) scope cl C s₀ H₀ fp) elt te)
    (hcap : caps.Nodup := by decide) (hs : ∀ x, foldedSetIterable iter X.env x = pure x := by intro _; rfl) : PD X (.ListComp elt [⟨tg, iter, ifs, 0⟩] scope pos) (eLC T.length caps ι g tt te) :=
  (pe_lc T capN caps hc hi hk ho hg ht he hs).mono fun _ _ _ h => lc_walk hcap h
theorem s_setLC {i : Nat} {x : Str} {pos' spos : Pos} {elt tg iter : Expr} {ifs : List Expr} {scope : Scope} {pos : Pos} {ι : TId} {g : TGd} {tt : TTd} {te : TEd} (T capN : List Str) (caps : List Nat) (hN : X.N.Nodup) (hi' : X.N[i]? = some x) (hx : Loc X.env.scope x)
    (hc : X.calm = true) (hi : PId X tg iter ι) (hk : scope.kind = .function) (ho : lcOk X.N X.env.kindOf scope T capN caps = true)
    (hg : ∀ s₀ H₀ C cl fp, PGd (lcx X (T ++ capN) scope cl C s₀ H₀ fp) T.length tg g)
    (ht : ∀ s₀ H₀ C cl fp, PIfs (lcx X (T ++ capN) scope cl C s₀ H₀ fp) ifs (dTt X.K tt))
    (he : ∀ s₀ H₀ C cl fp, PD (lcx X (T ++ capN) scope cl C s₀ H₀ fp) elt te)
    (hcap : caps.Nodup := by decide)
    (hsw : swapsWith (.ListComp elt [⟨tg, iter, ifs, 0⟩] scope pos) (some (.Name x pos')) spos.line X.env = pure true := by rfl)
    (hs : ∀ x, foldedSetIterable iter X.env x = pure x := by intro _; rfl)
    (hf : X.fn x = true ∨ X.env.scope.names.lookup x = some .local := by first | exact .inl rfl | exact .inr rfl | assumption) :
    PSd X (.Assign [.Name x pos'] (.ListComp elt [⟨tg, iter, ifs, 0⟩] scope pos) spos) (sSet i (eLC T.length caps ι g tt te)) :=
  (ps_setLC T capN caps hN hi' hx hc hi hk ho hg ht he hsw hs hf).mono fun Dn σ H ⟨B, ρ, Tm, De, hl, hd, ht, lk⟩ => lc_walk hcap ⟨B, ρ, Tm, _, hl, hd, ht, fun r ρ' v H' l1 d1 h1 => (lk.1 _ _ H' (by rw [List.length_set, List.length_set]; exact l1) (List.length_set ..) (d1.assign l1 i)).1 h1⟩
end
end L2
namespace L2
open PySem PySem.Spec PyProof.Rows Lw
section
variable {X : Cx} {K : PySem.W.Frag}
theorem peeks1 {A : Addr → Prop} {H : Hp} {d : D} {xs : List V} (h : Peeks K A H [d] xs) : ∃ x, xs = [x] ∧ Peek K A H d x := by
  cases h with | cons h r => cases r; exact ⟨_, rfl, h⟩
theorem peeks2 {A : Addr → Prop} {H : Hp} {d e : D} {xs : List V} (h : Peeks K A H [d, e] xs) : ∃ x y, xs = [x, y] ∧ Peek K A H d x ∧ Peek K A H e y := by
  cases h with | cons h r => cases r with | cons g r => cases r; exact ⟨_, _, rfl, h, g⟩
noncomputable def lenD : D → Option Nat
  | .lst xs => some xs.length
  | .tup xs => some xs.length
  | .con xs => some xs.length
  | .scr xs => some xs.length
  | .str z => some z.length
  | .dK kvs => some kvs.length
  | _ => none
noncomputable def fLen : OC := fun ds Φ => match ds with
  | [d] => strS d = true ∧ ∃ n, lenD d = some n ∧ Φ (.val (.int n))
  | _ => False
noncomputable def rLenA (K : PySem.W.Frag) : List V → Hp → VK → Prop := fun xs H Q => (∃ p ys, xs = [.ref p] ∧ (SqL K H p ys ∨ SqT K H p ys) ∧ Q (.int ys.length) H) ∨ (∃ z, xs = [.str z] ∧ z.length ≤ sizeLine ∧ Q (.int z.length) H) ∨ ∃ a kvs, xs = [V.ref a] ∧ H a = some (.dK kvs) ∧ Q (.int kvs.length) H
theorem call_lenA : CallR X (.builtin "len") (rLenA X.K) := call_len_seq.or (call_len_str.or call_lenD)
theorem cd_len : CallD K (rLenA K) fLen := by
  intro B L H ds xs Φ Q hd hp hf k
  unfold fLen at hf
  split at hf
  · rename_i d
    obtain ⟨x, rfl, px⟩ := peeks1 hp
    obtain ⟨hs, n, hn, hf⟩ := hf
    have fin : Q (.int n) H := k _ _ H hf (hd.pushF (.int _))
    cases d <;> simp only [lenD, reduceCtorEq, Option.some.injEq] at hn <;> subst hn
    · have := px.str_inv; subst this; exact .inr (.inl ⟨_, rfl, big100 (of_decide_eq_true hs), fin⟩)
    · obtain ⟨a, vs, rfl, h, r⟩ := px.tup_inv; exact .inl ⟨a, vs, rfl, .inr (SqT.of h), by rw [← r.length]; exact fin⟩
    · obtain ⟨a, vs, rfl, h, r⟩ := px.lst_inv; exact .inl ⟨a, vs, rfl, .inl (SqL.of h), by rw [← r.length]; exact fin⟩
    · obtain ⟨a, vs, rfl, h, e, r⟩ := px.dK_inv
      refine .inr (.inr ⟨a, vs, rfl, h, ?_⟩)
      have := congrArg List.length e
      simp only [List.length_map] at this
      rw [← this]; exact fin
    · obtain ⟨a, vs, rfl, h, r⟩ := px.scr_inv; exact .inl ⟨a, vs, rfl, .inl h.sqL, by rw [← r.length]; exact fin⟩
    · obtain ⟨a, vs, rfl, h, r⟩ := px.con_inv; exact .inl ⟨a, vs, rfl, .inr h.sqT, by rw [← r.length]; exact fin⟩
  · exact hf.elim
noncomputable def intsOf : List D → Option (List Int)
  | [] => some []
  | .int i :: ds => (intsOf ds).map (i :: ·)
  | _ => none
theorem intsOf_map : ∀ (ns : List Int), intsOf (ns.map D.int) = some ns
  | [] => rfl
  | n :: ns => by rw [List.map_cons, intsOf, intsOf_map ns]; rfl
theorem intsOf_rep {A : Addr → Prop} {H : Hp} : ∀ {ds : List D} {ns : List Int} {vs : List V}, intsOf ds = some ns → Reps K A H ds vs → vs = ns.map V.int
  | [], ns, _, h, .nil => by simp only [intsOf, Option.some.injEq] at h; subst h; rfl
  | d :: ds, ns, _, h, .cons r rs => by
    cases d with
    | int i =>
      simp only [intsOf, Option.map_eq_some_iff] at h
      obtain ⟨ms, h1, rfl⟩ := h
      rw [r.int_inv, intsOf_rep h1 rs]; rfl
    | _ => simp [intsOf] at h
noncomputable def fMin : OC := fun ds Φ => match ds with
  | [.lst xs] => ∃ ns, intsOf xs = some ns ∧ ns ≠ [] ∧ ∀ m : Int, m ∈ ns → (∀ a ∈ ns, m ≤ a) → Φ (.val (.int m))
  | [.int i, .int j] => ∀ m : Int, (m = i ∨ m = j) → m ≤ i → m ≤ j → Φ (.val (.int m))
  | _ => False
noncomputable def fMax : OC := fun ds Φ => match ds with
  | [.lst xs] => ∃ ns, intsOf xs = some ns ∧ ns ≠ [] ∧ ∀ m : Int, m ∈ ns → (∀ a ∈ ns, a ≤ m) → Φ (.val (.int m))
  | [.int i, .int j] => ∀ m : Int, (m = i ∨ m = j) → i ≤ m → j ≤ m → Φ (.val (.int m))
  | _ => False
noncomputable def rMinA (K : PySem.W.Frag) : List V → Hp → VK → Prop := fun xs H Q => (∃ (p : Addr) (ns : List Int), xs = [.ref p] ∧ SqL K H p (ns.map V.int) ∧ ns ≠ [] ∧ ∀ m : Int, m ∈ ns → (∀ a ∈ ns, m ≤ a) → Q (.int m) H) ∨ ∃ i j, xs = [.int i, .int j] ∧ Q (.int (if j < i then j else i)) H
noncomputable def rMaxA (K : PySem.W.Frag) : List V → Hp → VK → Prop := fun xs H Q => (∃ (p : Addr) (ns : List Int), xs = [.ref p] ∧ SqL K H p (ns.map V.int) ∧ ns ≠ [] ∧ ∀ m : Int, m ∈ ns → (∀ a ∈ ns, a ≤ m) → Q (.int m) H) ∨ ∃ i j, xs = [.int i, .int j] ∧ Q (.int (if j > i then j else i)) H
theorem call_minA (hc : X.calm = true) : CallR X (.builtin "min") (rMinA X.K) := (call_minL hc).or (call_min2 hc)
theorem call_maxA (hc : X.calm = true) : CallR X (.builtin "max") (rMaxA X.K) := (call_maxL hc).or (call_max2 hc)
theorem cd_min : CallD K (rMinA K) fMin := by
  intro B L H ds xs Φ Q hd hp hf k
  unfold fMin at hf
  split at hf
  · obtain ⟨x, rfl, px⟩ := peeks1 hp
    obtain ⟨ns, hn, h0, hf⟩ := hf
    obtain ⟨a, vs, rfl, h, r⟩ := px.lst_inv
    rw [intsOf_rep hn r] at h
    exact .inl ⟨a, ns, rfl, SqL.of h, h0, fun m h1 h2 => k _ _ H (hf m h1 h2) (hd.pushF (.int _))⟩
  · obtain ⟨x, y, rfl, px, py⟩ := peeks2 hp
    have := px.int_inv; have := py.int_inv; subst_vars
    rename_i i j
    refine .inr ⟨_, _, rfl, ?_⟩
    by_cases z : j < i
    · rw [if_pos z]; exact k _ _ H (hf _ (.inr rfl) (by omega) (by omega)) (hd.pushF (.int _))
    · rw [if_neg z]; exact k _ _ H (hf _ (.inl rfl) (by omega) (by omega)) (hd.pushF (.int _))
  · exact hf.elim
theorem cd_max : CallD K (rMaxA K) fMax := by
  intro B L H ds xs Φ Q hd hp hf k
  unfold fMax at hf
  split at hf
  · obtain ⟨x, rfl, px⟩ := peeks1 hp
    obtain ⟨ns, hn, h0, hf⟩ := hf
    obtain ⟨a, vs, rfl, h, r⟩ := px.lst_inv
    rw [intsOf_rep hn r] at h
    exact .inl ⟨a, ns, rfl, SqL.of h, h0, fun m h1 h2 => k _ _ H (hf m h1 h2) (hd.pushF (.int _))⟩
  · obtain ⟨x, y, rfl, px, py⟩ := peeks2 hp
    have := px.int_inv; have := py.int_inv; subst_vars
    rename_i i j
    refine .inr ⟨_, _, rfl, ?_⟩
    by_cases z : j > i
    · rw [if_pos z]; exact k _ _ H (hf _ (.inr rfl) (by omega) (by omega)) (hd.pushF (.int _))
    · rw [if_neg z]; exact k _ _ H (hf _ (.inl rfl) (by omega) (by omega)) (hd.pushF (.int _))
  · exact hf.elim
noncomputable def seqD : D → Option (List D)
  | .lst xs => some xs
  | .tup xs => some xs
  | .con xs => some xs
  | .scr xs => some xs
  | _ => none
theorem seqD_rep {A : Addr → Prop} {H : Hp} {d : D} {xs : List D} {x : V} (h : seqD d = some xs) (p : Peek K A H d x) : ∃ a vs, x = .ref a ∧ (SqL K H a vs ∨ SqT K H a vs) ∧ Reps K A H xs vs := by
  cases d <;> simp only [seqD, reduceCtorEq, Option.some.injEq] at h <;> subst h
  · obtain ⟨a, vs, rfl, h, r⟩ := p.tup_inv; exact ⟨a, vs, rfl, .inr (SqT.of h), r⟩
  · obtain ⟨a, vs, rfl, h, r⟩ := p.lst_inv; exact ⟨a, vs, rfl, .inl (SqL.of h), r⟩
  · obtain ⟨a, vs, rfl, h, r⟩ := p.scr_inv; exact ⟨a, vs, rfl, .inl h.sqL, r⟩
  · obtain ⟨a, vs, rfl, h, r⟩ := p.con_inv; exact ⟨a, vs, rfl, .inr h.sqT, r⟩
noncomputable def fList : OC := fun ds Φ => match ds with
  | [d] => ∃ xs, seqD d = some xs ∧ Φ (.own (.lst xs))
  | _ => False
theorem cd_list : CallD K (fun xs H Q => ∃ p ys, xs = [.ref p] ∧ (SqL K H p ys ∨ SqT K H p ys) ∧ ∀ l, H l = none → Q (.ref l) (upd H l (.lst ys))) fList := by
  intro B L H ds xs Φ Q hd hp hf k
  unfold fList at hf
  split at hf
  · obtain ⟨x, rfl, px⟩ := peeks1 hp
    obtain ⟨xs, hx, hf⟩ := hf
    obtain ⟨a, vs, rfl, hs, r⟩ := seqD_rep hx px
    exact ⟨a, vs, rfl, hs, fun l hl => k _ _ _ hf (hd.lstF hl r)⟩
  · exact hf.elim
noncomputable def fTup : OC := fun ds Φ => match ds with
  | [.lst xs] => Φ (.val (.tup xs))
  | [.tup xs] => Φ (.val (.tup xs))
  | _ => False
theorem cd_tup : CallD K (fun xs H Q => ∃ p ys, xs = [.ref p] ∧ ((SqL K H p ys ∧ ∀ l, H l = none → Q (.ref l) (upd H l (.tup ys))) ∨ (SqT K H p ys ∧ Q (.ref p) H))) fTup := by
  intro B L H ds xs Φ Q hd hp hf k
  unfold fTup at hf
  split at hf
  · obtain ⟨x, rfl, px⟩ := peeks1 hp
    obtain ⟨a, vs, rfl, h, r⟩ := px.lst_inv
    exact ⟨a, vs, rfl, .inl ⟨SqL.of h, fun l hl => k _ _ _ hf (hd.tupF hl r)⟩⟩
  · obtain ⟨x, rfl, px⟩ := peeks1 hp
    have px' := px
    obtain ⟨a, vs, rfl, h, r⟩ := px.tup_inv
    exact ⟨a, vs, rfl, .inr ⟨SqT.of h, k _ _ _ hf (hd.pushF px')⟩⟩
  · exact hf.elim
noncomputable def pairK : List D → Option (List (Key × D))
  | [] => some []
  | .tup [k, d] :: ds => match keyOf k, pairK ds with
    | some k, some r => some ((k, d) :: r)
    | _, _ => none
  | _ => none
theorem pairK_map {α : Type} {f : α → D} {g : α → Key × D} (h : ∀ x, ∃ k, f x = .tup [k, (g x).2] ∧ keyOf k = some (g x).1) : ∀ xs : List α, pairK (xs.map f) = some (xs.map g)
  | [] => rfl
  | x :: xs => by
    obtain ⟨k, e1, e2⟩ := h x
    rw [List.map_cons, e1, pairK, e2, pairK_map h xs]; rfl
noncomputable def mergeD (kvs more : List (Key × D)) : List (Key × D) := more.foldl (fun acc kv => putD acc kv.1 kv.2) kvs
theorem pairK_rep {A : Addr → Prop} {H : Hp} : ∀ {ds : List D} {kvs : List (Key × D)} {vs : List V}, pairK ds = some kvs → Reps K A H ds vs → ∃ (ts : List Addr) (kws : List (Key × V)), vs = ts.map V.ref ∧ PairsAt H ts kws ∧ kvs.map (·.1) = kws.map (·.1) ∧ Reps K A H (kvs.map (·.2)) (kws.map (·.2))
  | [], kvs, _, h, .nil => by simp only [pairK, Option.some.injEq] at h; subst h; exact ⟨[], [], rfl, .nil, rfl, .nil⟩
  | d :: ds, kvs, _, h, .cons r rs => by
    unfold pairK at h
    split at h
    · rename_i heq; cases heq
    · rename_i k e ds' heq
      cases heq
      cases e1 : keyOf k with
      | none => rw [e1] at h; simp at h
      | some kk =>
        cases e2 : pairK ds with
        | none => rw [e1, e2] at h; simp at h
        | some rr =>
          rw [e1, e2] at h
          simp only [Option.some.injEq] at h
          subst h
          obtain ⟨a, us, rfl, ha, ru⟩ := r.tup_inv
          obtain ⟨ts, kws, h1, h2, h3, h4⟩ := pairK_rep e2 rs
          cases ru with
          | cons r1 ru =>
            cases ru with
            | cons r2 ru =>
              cases ru
              have := keyOf_rep e1 r1.peek
              subst this
              exact ⟨a :: ts, (kk, _) :: kws, by rw [h1]; rfl, .cons ha h2, by simp [h3], .cons r2 h4⟩
    · cases h
theorem merge_rep {A : Addr → Prop} {H : Hp} : ∀ {more : List (Key × D)} {mv : List (Key × V)} {kvs : List (Key × D)} {vs : List (Key × V)}, more.map (·.1) = mv.map (·.1) → Reps K A H (more.map (·.2)) (mv.map (·.2)) → kvs.map (·.1) = vs.map (·.1) → Reps K A H (kvs.map (·.2)) (vs.map (·.2)) →
    (mergeD kvs more).map (·.1) = (mergeK vs mv).map (·.1) ∧ Reps K A H ((mergeD kvs more).map (·.2)) ((mergeK vs mv).map (·.2))
  | [], [], _, _, _, _, e, r => ⟨e, r⟩
  | [], _ :: _, _, _, e, _, _, _ => by simp at e
  | _ :: _, [], _, _, e, _, _, _ => by simp at e
  | (k, d) :: more, (j, v) :: mv, kvs, vs, e1, r1, e, r => by
    simp only [List.map_cons, List.cons.injEq] at e1
    obtain ⟨rfl, e1⟩ := e1
    cases r1 with
    | cons h r1 =>
      obtain ⟨q1, q2⟩ := repK_put e r (k := k) h
      exact merge_rep (more := more) (mv := mv) e1 r1 q1 q2
noncomputable def fDict : OC := fun ds Φ => match ds with
  | [.dK kvs] => Φ (.own (.dK kvs))
  | [.lst xs] => ∃ kvs, pairK xs = some kvs ∧ kvs.length ≤ 1000 ∧ Φ (.own (.dK (mergeD [] kvs)))
  | _ => False
noncomputable def rDictA (K : PySem.W.Frag) : List V → Hp → VK → Prop := fun xs H Q => (∃ (a : Addr) (kvs : List (Key × V)), xs = [.ref a] ∧ H a = some (.dK kvs) ∧ ∀ p, H p = none → Q (.ref p) (upd H p (.dK kvs))) ∨
  ∃ (p : Addr) (ts : List Addr) (kvs : List (Key × V)), xs = [.ref p] ∧ SqL K H p (ts.map V.ref) ∧ PairsAt H ts kvs ∧ kvs.length ≤ 1000 ∧ ∀ d, H d = none → Q (.ref d) (upd H d (.dK (mergeK [] kvs)))
theorem call_dictA (hc : X.calm = true) : CallR X (.type "dict") (rDictA X.K) := call_dictOf.or (call_dictPairs hc)
theorem cd_dict : CallD K (rDictA K) fDict := by
  intro B L H ds xs Φ Q hd hp hf k
  unfold fDict at hf
  split at hf
  · obtain ⟨x, rfl, px⟩ := peeks1 hp
    obtain ⟨a, vs, rfl, h, e, r⟩ := px.dK_inv
    exact .inl ⟨a, vs, rfl, h, fun p hp => k _ _ _ hf (hd.dKF hp e r)⟩
  · obtain ⟨x, rfl, px⟩ := peeks1 hp
    obtain ⟨kvs, hk, hl, hf⟩ := hf
    obtain ⟨a, vs, rfl, h, r⟩ := px.lst_inv
    obtain ⟨ts, kws, rfl, h2, h3, h4⟩ := pairK_rep hk r
    obtain ⟨q1, q2⟩ := merge_rep (kvs := []) (vs := []) h3 h4 rfl .nil
    have hl' : kws.length ≤ 1000 := by
      have := congrArg List.length h3
      simp only [List.length_map] at this
      omega
    exact .inr ⟨a, ts, kws, rfl, SqL.of h, h2, hl', fun p hp => k _ _ _ hf (hd.dKF hp q1 q2)⟩
  · exact hf.elim
noncomputable def fInt : OC := fun ds Φ => match ds with
  | [.int i] => Φ (.val (.int i))
  | [.bl b] => Φ (.val (.int (if b then 1 else 0)))
  | _ => False
theorem cd_int : CallD K (fun xs H Q => (∃ i, xs = [.int i] ∧ Q (.int i) H) ∨ ∃ k, xs = [.bl k] ∧ Q (.int (if k then 1 else 0)) H) fInt := by
  intro B L H ds xs Φ Q hd hp hf k
  unfold fInt at hf
  split at hf
  · obtain ⟨x, rfl, px⟩ := peeks1 hp
    have := px.int_inv; subst this
    exact .inl ⟨_, rfl, k _ _ H hf (hd.pushF (.int _))⟩
  · obtain ⟨x, rfl, px⟩ := peeks1 hp
    have := px.bl_inv; subst this
    exact .inr ⟨_, rfl, k _ _ H hf (hd.pushF (.int _))⟩
  · exact hf.elim
noncomputable def fStr : OC := fun ds Φ => match ds with
  | [.int i] => i.natAbs.log2 < 1920 ∧ Φ (.val (.str (toString i)))
  | _ => False
theorem cd_str : CallD K (fun xs H Q => ∃ i, xs = [.int i] ∧ i.natAbs.log2 < 1920 ∧ Q (.str (toString i)) H) fStr := by
  intro B L H ds xs Φ Q hd hp hf k
  unfold fStr at hf
  split at hf
  · obtain ⟨x, rfl, px⟩ := peeks1 hp
    have := px.int_inv; subst this
    exact ⟨_, rfl, hf.1, k _ _ H hf.2 (hd.pushF (.str _))⟩
  · exact hf.elim
end
end L2
namespace L2
open PySem PySem.Spec PyProof.Rows Lw
noncomputable def tyD (T : String) : D → Bool
  | .str _ => T == "str"
  | .lst _ => T == "list"
  | .scr _ => T == "list"
  | .dK _ => T == "dict"
  | .dT _ => T == "dict"
  | _ => false
section
variable {X : Cx} {K : PySem.W.Frag} {A : Addr → Prop} {H : Hp}
theorem tyD_peek {T : String} {d : D} {x : V} (h : tyD T d = true) (p : Peek K A H d x) : tyV K T x H := by
  cases d <;> simp only [tyD, Bool.false_eq_true] at h <;> (try (have h := eq_of_beq h)) <;> subst h
  · have := p.str_inv; subst this; rfl
  · obtain ⟨a, vs, rfl, h, r⟩ := p.lst_inv; exact .inl ⟨rfl, vs, SqL.of h⟩
  · obtain ⟨a, vs, rfl, h, e, r⟩ := p.dK_inv; exact .inr (.inr (.inl ⟨rfl, .inl ⟨vs, h⟩⟩))
  · obtain ⟨a, vs, rfl, h, e, r⟩ := p.dT_inv; exact .inr (.inr (.inl ⟨rfl, .inr ⟨vs, h⟩⟩))
  · obtain ⟨a, vs, rfl, h, r⟩ := p.scr_inv; exact .inl ⟨rfl, vs, h.sqL⟩
noncomputable abbrev OM := D → List D → (Sl → Prop) → Prop
noncomputable abbrev RM := V → List V → Hp → VK → Prop
noncomputable def MtD (K : PySem.W.Frag) (r : RM) (f : OM) : Prop := ∀ (B : Bs) (L : Ents) (H : Hp) (d : D) (ds : List D) (x : V) (xs : List V) (Φ : Sl → Prop) (Q : VK), DS K B L H → Peek K (Al B (roots L)) H d x → Peeks K (Al B (roots L)) H ds xs → f d ds Φ →
  (∀ s v H', Φ s → DS K B ((s, some v) :: L) H' → Q v H') → r x xs H Q
noncomputable def dM (T : String) (f : OM) (to : TEd) (ta : TAd) : TEd := fun dk ρ Φ => to dk ρ fun r ρ1 => match sd r with
  | some d => tyD T d = true ∧ ta dk ρ1 fun as ρ2 => match arDs ρ2 as with
    | some ds => f d ds fun s => Φ s ρ2
    | none => False
  | none => False
noncomputable def dMs (T : String) (f : OM) (i : Nat) (ta : TAd) : TEd := fun dk ρ Φ => (match at? ρ i with | some d => tyD T d = true | none => False) ∧ ta dk ρ fun as ρ2 => match at? ρ2 i, arDs ρ2 as with
  | some d, some ds => f d ds fun s => Φ s ρ2
  | _, _ => False
variable {o e : Expr} {es : List Expr} {to : TEd} {ta : TAd} {name : Str} {apos cpos : Pos} {T id : String} {r : RM} {f : OM} {i : Nat}
theorem pd_ms (pa : PlainAttrs T) (slot : Slot T name id) (hty : typeOf (.builtin id) = pure (.type "method_descriptor")) (hm : MtR X id r) (hf : MtD X.K r f) (ho : PE X o (tVar i)) (ha : PAd X (e :: es) ta)
    (hbase : attributeBase o name X.env (eval o X.env) = eval o X.env := by rfl)
    (hfew : ((backTo cpos (starEach (e :: es) X.env)).all (fun x => !x.1) && (backToKw cpos (keywordEach [] X.env)).all (fun x => x.1.isSome)
      && decide ((e :: es).length + ([] : List Keyword).length + (if ([] : List Keyword).isEmpty then 0 else 1) < 30)) = true := by rfl)
    (hline : (apos.endLine == cpos.line) = true := by rfl) (hs : starEach (e :: es) X.env = (false, eval e X.env) :: starEach es X.env := by rfl) (hplain : (backTo cpos (starEach es X.env)).any (·.1) = false := by rfl) :
    PD X (.Call (.Attribute o name apos) (e :: es) [] cpos) (dMs T f i ta) :=
  (pe_bm pa slot hty hm ho ha hbase hfew hline hs hplain).mono fun σ H Q ⟨B, ρ, Tm, Φ, hl, hd, ⟨hi, ht⟩, k⟩ => by
    cases e1 : at? ρ i with
    | none => rw [e1] at hi; exact hi.elim
    | some d0 =>
      rw [e1] at hi
      obtain ⟨x, hx, px⟩ := hd.peek hl e1
      refine ⟨x, hx, tyD_peek hi px, B, ρ, Tm, _, hl, hd, ht, fun as ρ2 vs H2 l2 ok d2 h2 => ?_⟩
      cases e2 : at? ρ2 i with
      | none => rw [e2] at h2; exact h2.elim
      | some d =>
        cases e3 : arDs ρ2 as with
        | none => rw [e2, e3] at h2; exact h2.elim
        | some ds =>
          rw [e2, e3] at h2
          have d3 := d2.rmArgs
          obtain ⟨x', hx', px'⟩ := d3.peek l2 e2
          rw [hx] at hx'
          cases hx'
          exact hf B _ H2 d ds x vs _ Q d3 px' (d2.argsP l2 ok ds e3).1 h2 fun s v H' hs hd' => k s ρ2 v H' l2 hd'.mid hs
noncomputable abbrev OW := D → List D → (D → D → Prop) → Prop
noncomputable def MtW (K : PySem.W.Frag) (r : RM) (f : OW) : Prop := ∀ (A : Addr → Prop) (H : Hp) (a : Addr) (c : D) (ds : List D) (vs : List V) (Φ : D → D → Prop) (Q : VK), Root K A H a c → Reps K A H ds vs → f c ds Φ →
  (∀ d v o c', Φ d c' → Rep K A H d v → (∀ A', Kp A A' H (upd H a o) → Root K A' (upd H a o) a c') → Q v (upd H a o)) → r (.ref a) vs H Q
noncomputable def dW (T : String) (f : OW) (i : Nat) (ta : TAd) : TEd := fun dk ρ Φ => (match at? ρ i with | some d => tyD T d = true | none => False) ∧ ta dk ρ fun as ρ2 => match ρ2[i]?, arTs as with
  | some (.own c), some ds => f c ds fun d c' => Φ (.val d) (ρ2.set i (.own c'))
  | _, _ => False
theorem dW_walk {f : OW} (hf : MtW X.K r f) {σ : St} {H : Hp} {Q : VK} (h : dE X.K (dW T f i ta) σ H Q) : tVar i σ H fun x H1 => tyV X.K T x H1 ∧ dA X.K ta σ H1 fun xs H2 => r x xs H2 Q := by
  obtain ⟨B, ρ, Tm, Φ, hl, hd, ⟨hi, ht⟩, k⟩ := h
  cases e1 : at? ρ i with
  | none => rw [e1] at hi; exact hi.elim
  | some d0 =>
    rw [e1] at hi
    obtain ⟨x, hx, px⟩ := hd.peek hl e1
    refine ⟨x, hx, tyD_peek hi px, B, ρ, Tm, _, hl, hd, ht, fun as ρ2 vs H2 l2 ok d2 h2 => ?_⟩
    cases e2 : ρ2[i]? with
    | none => rw [e2] at h2; exact h2.elim
    | some s =>
      cases s with
      | no => rw [e2] at h2; exact h2.elim
      | val c => rw [e2] at h2; exact h2.elim
      | own c =>
        cases e3 : arTs as with
        | none => rw [e2, e3] at h2; exact h2.elim
        | some ds =>
          rw [e2, e3] at h2
          have rds := d2.temps ok ds e3
          have d3 := d2.rmArgs
          obtain ⟨a, ha, ra, wr⟩ := d3.slotW l2 e2
          rw [hx] at ha
          cases ha
          obtain ⟨u, hu, tu⟩ := ra.some
          refine hf _ H2 a c ds vs _ Q ra rds h2 fun d v o c' hΦ rd hr => k _ _ v _ (by rw [List.length_set]; exact l2) ?_ hΦ
          refine (wr o c' hr).push ?_
          have er : roots ((ρ2.set i (.own c')).zip σ ++ Tm) = roots (ρ2.zip σ ++ Tm) := by
            obtain ⟨l1, y, l2', hy, _, hz, hset⟩ := zip_at l2 e2
            rw [hx] at hy
            cases hy
            have := hset (.own c') (some (.ref a))
            rw [set_same hx] at this
            rw [this, hz, List.append_assoc, List.append_assoc, List.cons_append, List.cons_append, root_mid, root_mid]; rfl
          rw [er]
          exact rd.mono (.write hu tu fun z => z.2.1 (by
            obtain ⟨l1, y, l2', hy, _, hz, _⟩ := zip_at l2 e2
            rw [hx] at hy
            cases hy
            rw [hz, List.append_assoc, List.cons_append, root_mid]; simp [root1]))
theorem pd_w {f : OW} (pa : PlainAttrs T) (slot : Slot T name id) (hty : typeOf (.builtin id) = pure (.type "method_descriptor")) (hm : MtR X id r) (hf : MtW X.K r f) (ho : PE X o (tVar i)) (ha : PAd X (e :: es) ta)
    (hbase : attributeBase o name X.env (eval o X.env) = eval o X.env := by rfl)
    (hfew : ((backTo cpos (starEach (e :: es) X.env)).all (fun x => !x.1) && (backToKw cpos (keywordEach [] X.env)).all (fun x => x.1.isSome)
      && decide ((e :: es).length + ([] : List Keyword).length + (if ([] : List Keyword).isEmpty then 0 else 1) < 30)) = true := by rfl)
    (hline : (apos.endLine == cpos.line) = true := by rfl) (hs : starEach (e :: es) X.env = (false, eval e X.env) :: starEach es X.env := by rfl) (hplain : (backTo cpos (starEach es X.env)).any (·.1) = false := by rfl) :
    PD X (.Call (.Attribute o name apos) (e :: es) [] cpos) (dW T f i ta) := (pe_bm pa slot hty hm ho ha hbase hfew hline hs hplain).mono fun _ _ _ h => dW_walk hf h
noncomputable def mApp : OW := fun c ds Φ => match c, ds with
  | .lst xs, [d] => xs.length < 100000 ∧ Φ .non (.lst (xs ++ [d]))
  | _, _ => False
theorem mw_app : MtW K rAppend mApp := by
  intro A H a c ds vs Φ Q ra rd hf k
  unfold mApp at hf
  split at hf
  · obtain ⟨us, h, r⟩ := ra
    cases rd with
    | cons r1 rd =>
      cases rd
      refine ⟨a, us, _, rfl, rfl, h, Nat.lt_of_lt_of_le (by rw [← r.length]; exact hf.1) (by decide), k _ _ _ _ hf.2 .non fun A' kp => ⟨_, upd_same, (r.append (.cons r1 .nil)).mono kp⟩⟩
  · exact hf.elim
noncomputable def mPop : OW := fun c ds Φ => match c, ds with
  | .lst xs, [.int i] => ∃ k y, -(2 ^ 63) ≤ i ∧ i < 2 ^ 63 ∧ seqIndex? i xs.length = some k ∧ xs[k]? = some y ∧ Φ y (.lst (xs.eraseIdx k))
  | _, _ => False
theorem mw_pop : MtW K rPopAt mPop := by
  intro A H a c ds vs Φ Q ra rd hf k
  unfold mPop at hf
  split at hf
  · obtain ⟨us, h, r⟩ := ra
    cases rd with
    | cons r1 rd =>
      cases rd
      have := r1.int_inv
      subst this
      obtain ⟨j, y, h1, h2, h3, h4, hf⟩ := hf
      obtain ⟨v, hv, rv⟩ := r.get h4
      exact ⟨a, us, _, j, v, rfl, rfl, h, h1, h2, by rw [← r.length]; exact h3, hv, k _ _ _ _ hf rv fun A' kp => ⟨_, upd_same, (r.erase j).mono kp⟩⟩
  · exact hf.elim
noncomputable def eGet (i : Nat) (ty tx : TEd) : TEd := fun dk ρ Φ => (match at? ρ i with | some d => tyD "dict" d = true | none => False) ∧ ty dk ρ fun rk ρ1 => tx dk ρ1 fun rx ρ2 => match at? ρ2 i, sd rk, sd rx with
  | some d, some k, some x => ∃ o, lookD d k = some o ∧ Φ (.val (o.getD x)) ρ2
  | _, _, _ => False
theorem pd_get {k x : Expr} {ty tx : TEd} (hu : X.A.units + 1 < cLine) (ho : PE X o (tVar i)) (he : PD X k ty) (hf : PD X x tx) (m : M2 X o "get" apos k x cpos := by exact ⟨rfl, rfl, rfl, rfl⟩) : PD X (.Call (.Attribute o "get" apos) [k, x] [] cpos) (eGet i ty tx) :=
  (pe_dget2 hu ho he hf m).mono fun σ H Q ⟨B, ρ, Tm, Φ, hl, hd, ⟨hi, ht⟩, k⟩ => by
    cases e1 : at? ρ i with
    | none => rw [e1] at hi; exact hi.elim
    | some d0 =>
      rw [e1] at hi
      obtain ⟨x, hx, px⟩ := hd.peek hl e1
      obtain ⟨a, rfl, isd⟩ : ∃ a, x = .ref a ∧ IsD H a := by
        cases d0 <;> simp only [tyD, Bool.false_eq_true] at hi <;> (try simp at hi)
        · obtain ⟨a, vs, rfl, h, e, r⟩ := px.dK_inv; exact ⟨a, rfl, .inl ⟨vs, .inl h⟩⟩
        · obtain ⟨a, vs, rfl, h, e, r⟩ := px.dT_inv; exact ⟨a, rfl, .inr ⟨vs, .inl h⟩⟩
      refine ⟨.ref a, hx, a, rfl, isd, B, ρ, Tm, _, hl, hd, ht, fun rk ρ1 y H1 l1 d1 h1 => ⟨B, ρ1, (rk, some y) :: Tm, _, l1, d1, h1, fun rx ρ2 z H2 l2 d2 h2 => ?_⟩⟩
      cases e2 : at? ρ2 i with
      | none => rw [e2] at h2; exact h2.elim
      | some d =>
        cases e3 : sd rk with
        | none => rw [e2, e3] at h2; exact h2.elim
        | some kk =>
          cases e4 : sd rx with
          | none => rw [e2, e3, e4] at h2; exact h2.elim
          | some xx =>
            rw [e2, e3, e4] at h2
            obtain ⟨oo, ho, h2⟩ := h2
            obtain ⟨q1, q2, q3⟩ := d2.two e3 e4
            obtain ⟨x', hx', px'⟩ := q1.peek l2 e2
            rw [hx] at hx'
            cases hx'
            obtain ⟨a', w, ea, g, g1, g2⟩ := lookD_rep ho px' q2.peek
            cases ea
            refine ⟨w, g, k _ ρ2 _ H2 l2 (q1.push ?_) h2⟩
            cases oo with
            | none => rw [g2 rfl]; exact q3
            | some c => obtain ⟨v, rfl, rv⟩ := g1 c rfl; exact rv
noncomputable def strsOf : List D → Option (List Str)
  | [] => some []
  | .str b :: ds => (strsOf ds).map (b :: ·)
  | _ => none
theorem strsOf_map : ∀ (ns : List Str), strsOf (ns.map D.str) = some ns
  | [] => rfl
  | n :: ns => by rw [List.map_cons, strsOf, strsOf_map ns]; rfl
theorem strsOf_rep : ∀ {ds : List D} {ns : List Str} {vs : List V}, strsOf ds = some ns → Reps K A H ds vs → vs = ns.map V.str
  | [], ns, _, h, .nil => by simp only [strsOf, Option.some.injEq] at h; subst h; rfl
  | d :: ds, ns, _, h, .cons r rs => by
    cases d with
    | str i =>
      simp only [strsOf, Option.map_eq_some_iff] at h
      obtain ⟨ms, h1, rfl⟩ := h
      rw [r.str_inv, strsOf_rep h1 rs]; rfl
    | _ => simp [strsOf] at h
noncomputable def fSplit : OM := fun d ds Φ => match d, ds with
  | .str z, [.str y] => y.length ≠ 0 ∧ z.length ≤ 1000000 ∧ Φ (.own (.lst ((Txt.split z y).map D.str)))
  | _, _ => False
theorem reps_strs : ∀ (ys : List Str), Reps K A H (ys.map D.str) (ys.map V.str)
  | [] => .nil
  | y :: ys => .cons (.str y) (reps_strs ys)
theorem md_split : MtD K rSplit fSplit := by
  intro B L H d ds x xs Φ Q hd px ps hf k
  unfold fSplit at hf
  split at hf
  · obtain ⟨y, rfl, py⟩ := peeks1 ps
    have := px.str_inv; have := py.str_inv; subst_vars
    exact ⟨_, _, rfl, rfl, hf.1, hf.2.1, fun p hp => k _ _ _ hf.2.2 (hd.lstF hp (reps_strs _))⟩
  · exact hf.elim
end
end L2
namespace L2
open PySem PySem.Spec PyProof.Rows Lw
section
variable {X : Cx} {a b : Expr} {tb : TEd} {pos : Pos} {i : Nat}
theorem pd_ixS (hu : X.A.units + 1 < cLine) (ha : PE X a (tVar i)) (hb : PD X b tb) (hs : PlainIx b := by exact fun _ _ => rfl) : PD X (.Subscript a b pos) (d2s fIx i tb) :=
  (pe_ix (ix_any hu) ha hb hs).mono fun _ _ _ h => d2s_walk od_ix h
end
end L2
namespace L2
open PySem PySem.Spec PyProof.Rows Lw
section
variable {X : Cx} {K : PySem.W.Frag}
theorem call_min3 (hc : X.calm = true) : CallR X (.builtin "min") (fun xs H Q => ∃ i j k, xs = [.int i, .int j, .int k] ∧ ∀ m : Int, (m = i ∨ m = j ∨ m = k) → m ≤ i → m ≤ j → m ≤ k → Q (.int m) H) := by
  intro pins s σ H xs us Q I r h
  obtain ⟨i, j, k, rfl, q⟩ := h
  cases r with
  | cons r1 r =>
    obtain ⟨v, u, rfl, ⟨t2, rfl⟩, ⟨t3, rfl⟩⟩ := vals2 r
    obtain ⟨t1, rfl⟩ := r1
    refine min_three_ints (I.ok.hd hc) fun h' tk kk => ?_
    have fin : ∀ (m : Int) (t : Tok), (m = i ∨ m = j ∨ m = k) → m ≤ i → m ≤ j → m ≤ k → EP X pins σ Q (.int m t) { s with heap := h', toks := tk } := fun m t a b c d => ⟨.int m, H, I.kept kk, ⟨t, rfl⟩, q m a b c d⟩
    by_cases h1 : j < i
    · rw [if_pos h1]
      by_cases h2 : k < j
      · rw [if_pos h2]; exact fin _ _ (.inr (.inr rfl)) (by omega) (by omega) (by omega)
      · rw [if_neg h2]; exact fin _ _ (.inr (.inl rfl)) (by omega) (by omega) (by omega)
    · rw [if_neg h1]
      by_cases h2 : k < i
      · rw [if_pos h2]; exact fin _ _ (.inr (.inr rfl)) (by omega) (by omega) (by omega)
      · rw [if_neg h2]; exact fin _ _ (.inl rfl) (by omega) (by omega) (by omega)
noncomputable def rMinB (K : PySem.W.Frag) : List V → Hp → VK → Prop := fun xs H Q => rMinA K xs H Q ∨ ∃ i j k, xs = [.int i, .int j, .int k] ∧ ∀ m : Int, (m = i ∨ m = j ∨ m = k) → m ≤ i → m ≤ j → m ≤ k → Q (.int m) H
theorem call_minB (hc : X.calm = true) : CallR X (.builtin "min") (rMinB X.K) := (call_minA hc).or (call_min3 hc)
noncomputable def fMinB : OC := fun ds Φ => match ds with
  | [.int i, .int j, .int k] => ∀ m : Int, (m = i ∨ m = j ∨ m = k) → m ≤ i → m ≤ j → m ≤ k → Φ (.val (.int m))
  | ds => fMin ds Φ
theorem cd_minB : CallD K (rMinB K) fMinB := by
  intro B L H ds xs Φ Q hd hp hf k
  unfold fMinB at hf
  split at hf
  · cases hp with
    | cons p1 hp =>
      obtain ⟨x, y, rfl, px, py⟩ := peeks2 hp
      have := p1.int_inv; have := px.int_inv; have := py.int_inv; subst_vars
      exact .inr ⟨_, _, _, rfl, fun m a b c d => k _ _ H (hf m a b c d) (hd.pushF (.int _))⟩
  · exact .inl (cd_min B L H _ xs Φ Q hd hp hf k)
noncomputable def tnD : D → Option String
  | .non => some "NoneType"
  | .bl _ => some "bool"
  | .int _ => some "int"
  | .str _ => some "str"
  | .lst _ => some "list"
  | .tup _ => some "tuple"
  | .dK _ => some "dict"
  | .dT _ => some "dict"
  | _ => none
theorem tnD_ty {A : Addr → Prop} {H : Hp} {d : D} {n : String} {x : V} (h : tnD d = some n) (p : Peek K A H d x) : TyOf K H x (.type n) := by
  cases d <;> simp only [tnD, reduceCtorEq, Option.some.injEq] at h <;> subst h
  · have := p.non_inv; subst this; exact .non
  · have := p.bl_inv; subst this; exact .bl _
  · have := p.int_inv; subst this; exact .int _
  · have := p.str_inv; subst this; exact .str _
  · obtain ⟨a, vs, rfl, h, r⟩ := p.tup_inv; exact .tup h
  · obtain ⟨a, vs, rfl, h, r⟩ := p.lst_inv; exact .lst h
  · obtain ⟨a, vs, rfl, h, e, r⟩ := p.dK_inv; exact .dK h
  · obtain ⟨a, vs, rfl, h, e, r⟩ := p.dT_inv; exact .dT h
noncomputable def fIsi (K : PySem.W.Frag) : OC := fun ds Φ => match ds with
  | [d, .raw (.ty c)] => ∃ n b, tnD d = some n ∧ PySem.W.kitOne K (.type n) (.type c) = some b ∧ Φ (.val (.bl b))
  | _ => False
theorem cd_isi : CallD K (rIsi K) (fIsi K) := by
  intro B L H ds xs Φ Q hd hp hf k
  unfold fIsi at hf
  split at hf
  · obtain ⟨x, y, rfl, px, py⟩ := peeks2 hp
    obtain ⟨n, b, h1, h2, hf⟩ := hf
    have := py.raw_inv; subst this
    exact ⟨x, _, _, _, b, rfl, rfl, tnD_ty h1 px, h2, k _ _ H hf (hd.pushF (.bl _))⟩
  · exact hf.elim
theorem pd_ty {x : Str} {n : String} {pos : Pos} (hg : Gl X x) (hm : X.mg x = none) (hv : bootBuiltins x = some (.type n)) (hn : x ≠ "__name__" := by decide) (hd : (x == ("__debug__" : Str)) = false := by decide) : PD X (.Name x pos) (cd (.raw (.ty n))) :=
  pd_c (pe_bltn (v := .ty n) hg hm hv rfl hn hd) fun _ _ _ => .raw _
end
end L2
namespace PySem
open PyProof.Rows L2
noncomputable abbrev ZipO (h : Heap) (z TI TO T : Addr) (f : Bool) : Prop := h.get? z = some { cls := .type "zip", dict := none, data := .fields #[rawInt T, .bool f, .bool false, .ref TI, .ref TO], slots := #[] }
section
variable {prog : Program} {w : World} {A : Around} {E : Value → Shared → Prop} {s : Shared}
theorem alive_load {a : Addr} {o : Obj} {Q : Option Obj → Shared → Prop} (ho : s.heap.get? a = some o) (h : Q (some o) s) : wpAny (model prog w) A (loadIfAlive a) Q E s := fun _ _ _ => by
  show Q (s.heap.get? a) s
  rw [ho]; exact h
theorem still_out {z TI TO T : Addr} {f : Bool} {oT : Obj} {Q : Bool → Shared → Prop} (hz : ZipO s.heap z TI TO T f) (hT : s.heap.get? T = some oT) (hQ : ∀ h', ZipO h' z TI TO T true → Heap.SameBut z s.heap h' → Q false { s with heap := h' }) :
    wpAny (model prog w) A (Builtin.SmallTypes.ownedTupleIsFree (.ref z)) Q E s := by
  unfold Builtin.SmallTypes.ownedTupleIsFree
  refine wpAny_bind (wpAny_field hz rfl (x := rawInt T) rfl ?_)
  show wpAny _ _ (loadIfAlive ((T : Int).toNat) >>= _) _ _ _
  rw [Int.toNat_natCast]
  refine wpAny_bind (alive_load hT ?_)
  simp only [Option.isNone_some, Bool.false_eq_true, if_false]
  refine wpAny_bind (wpAny_field hz rfl (x := .bool f) rfl ?_)
  cases f with
  | true =>
    rw [if_neg (show ¬ ((Value.bool true != Value.bool true) = true) from Bool.false_ne_true)]
    exact wpAny_pure (hQ _ hz (Heap.SameBut.refl _ _))
  | false =>
    rw [if_pos (show (Value.bool false != Value.bool true) = true from rfl)]
    exact wpAny_bind (wpAny_setField_rec hz (by simp) fun h3 z3 s3 => wpAny_pure (hQ _ z3 s3))
noncomputable def BothDrawn (prog : Program) (w : World) (A : Around) (a b : Value) (Q : Fin → Shared → Prop) (E : Value → Shared → Prop) (s : Shared) : Prop :=
  wpAny (model prog w) A (Builtin.SmallTypes.nextOf a) (fun x s1 => wpAny (model prog w) A (Builtin.SmallTypes.nextOf b) (fun y s2 => wpAny (model prog w) A (newTuple [x, y]) (fun t s3 => Q (.done (.ret t)) s3) E s2) E s1) E s
theorem zip_turn {z TI TO T : Addr} {f : Bool} {oT : Obj} {a b : Value} {Q : Fin → Shared → Prop} (hz : ZipO s.heap z TI TO T f) (hT : s.heap.get? T = some oT) (hTI : IsPair s.heap TI a b)
    (go : ∀ h', ZipO h' z TI TO T true → Heap.SameBut z s.heap h' → BothDrawn prog w A a b Q E { s with heap := h' }) :
    wpAny (model prog w) A (Builtin.«zip.__next__» ⟨[.ref z], []⟩) Q E s := by
  have busy : wpAny (model prog w) A (Builtin.SmallTypes.ownedTupleIsFree (.ref z)) (fun x s' => x = false ∧ BothDrawn prog w A a b Q E s') E s :=
    still_out hz hT fun h' z' k => ⟨rfl, go h' z' k⟩
  unfold Builtin.«zip.__next__»
  refine wpAny_bind (wpAny_pure (wpAny_bind (wpAny_field hz rfl (x := .bool false) rfl (wpAny_bind (wpAny_field hz rfl (x := .ref TI) rfl (wpAny_bind (wpAny_seqItems hTI rfl ?_)))))))
  refine wpAny_bind (thn busy ?_)
  rintro _ s' ⟨rfl, g⟩
  simp only [if_neg Bool.false_ne_true, ← Array.forIn_toList, List.forIn_cons, List.forIn_nil, bind_assoc]
  refine wpAny_bind (wpAny_holding (wpAny_bind (thn g fun x s1 g1 => wpAny_pure (wpAny_bind (wpAny_pure ?_)))))
  refine wpAny_bind (wpAny_bind (wpAny_holding (wpAny_bind (thn g1 fun y s2 g2 => wpAny_pure (wpAny_bind (wpAny_pure (wpAny_pure ?_)))))))
  exact wpAny_bind (thn g2 fun t s3 g3 => wpAny_pure g3)
theorem zip_out {z TI TO T i1 i2 l1 l2 : Addr} {k1 k2 : Nat} {f : Bool} {oT : Obj} {xs ys : Array Value} {x y : Value} {Q : Value → Shared → Prop} (D : ZipApart z TI TO i1 i2 l1 l2)
    (hz : ZipO s.heap z TI TO T f) (hT : s.heap.get? T = some oT) (hTI : IsPair s.heap TI (.ref i1) (.ref i2))
    (h1 : s.heap.IsListIter i1 l1 k1) (h2 : s.heap.IsListIter i2 l2 k2) (hl1 : s.heap.IsList l1 xs) (hl2 : s.heap.IsList l2 ys) (hx : xs[k1]? = some x) (hy : ys[k2]? = some y)
    (hQ : ∀ h', ZipO h' z TI TO T true → h'.IsListIter i1 l1 (k1 + 1) → h'.IsListIter i2 l2 (k2 + 1) → IsPair h' s.heap.objs.size x y → h'.objs.size = s.heap.objs.size + 1 →
      (∀ c o, c ≠ z → c ≠ i1 → c ≠ i2 → s.heap.get? c = some o → h'.get? c = some o) → Q (.ref s.heap.objs.size) { s with heap := h' }) :
    wpAny (model prog w) A (Builtin.«zip.__next__» ⟨[.ref z], []⟩) (fun fin s' => ∃ v, fin = .done (.ret v) ∧ Q v s') E s := by
  refine zip_turn hz hT hTI fun h3 z3 k3 => ?_
  have up1 : ∀ c o, c ≠ z → s.heap.get? c = some o → h3.get? c = some o := fun c o n e => k3.extBut _ _ n e
  have there : h3.IsListIter i1 l1 k1 ∧ h3.IsListIter i2 l2 k2 ∧ h3.IsList l1 xs ∧ h3.IsList l2 ys := ⟨h1.at fun o e => up1 _ o D.i1z e, h2.at fun o e => up1 _ o D.i2z e, hl1.at fun o e => up1 _ o D.l1z e, hl2.at fun o e => up1 _ o D.l2z e⟩
  refine wpAny_nextOf_list_item there.1 there.2.2.1 hx fun h4 j1 k4 => ?_
  have up2 : ∀ c o, c ≠ i1 → h3.get? c = some o → h4.get? c = some o := fun c o n e => k4.extBut _ _ n e
  refine wpAny_nextOf_list_item (there.2.1.at fun o e => up2 _ o D.i12.symm e) (there.2.2.2.at fun o e => up2 _ o D.l2i1 e) hy fun h5 j2 k5 => ?_
  have up3 : ∀ c o, c ≠ i2 → h4.get? c = some o → h5.get? c = some o := fun c o n e => k5.extBut _ _ n e
  have n5 : h5.objs.size = s.heap.objs.size := k5.1.trans (k4.1.trans k3.1)
  have more : ∀ {c : Addr} {o p : Obj}, h5.get? c = some o → (h5.push p).get? c = some o := fun e => Heap.get?_push_of_some _ e
  refine wpAny_newTuple ⟨_, rfl, ?_⟩ (hsz := (show 2 ≤ sizeLine by decide))
  have last := hQ (h5.push (seqObj "tuple" #[x, y] 0)) (more (up3 _ _ D.i2z.symm (up2 _ _ D.i1z.symm z3))) (j1.at fun o e => more (up3 _ o D.i12 e)) (j2.at fun o e => more e) (n5 ▸ Heap.get?_push_size _ rfl) ((Heap.size_push ..).trans (by rw [n5]))
    fun c o c1 c2 c3 e => more (up3 _ _ c3 (up2 _ _ c2 (up1 _ _ c1 e)))
  rw [← n5] at last
  exact last
theorem zip_out_end {z TI TO T i1 i2 l1 l2 : Addr} {k1 k2 : Nat} {f : Bool} {oT : Obj} {xs ys : Array Value} {Q : Fin → Shared → Prop} (hh : A.handled = none) (D : ZipApart z TI TO i1 i2 l1 l2)
    (hz : ZipO s.heap z TI TO T f) (hT : s.heap.get? T = some oT) (hTI : IsPair s.heap TI (.ref i1) (.ref i2))
    (h1 : s.heap.IsListIter i1 l1 k1) (h2 : s.heap.IsListIter i2 l2 k2) (hl1 : s.heap.IsList l1 xs) (hl2 : s.heap.IsList l2 ys) (hend : xs[k1]? = none ∨ ys[k2]? = none)
    (hE : ∀ h' e, (∀ c o, c ≠ z → c ≠ i1 → c ≠ i2 → s.heap.get? c = some o → h'.get? c = some o) → (∃ o, h'.get? e = some o ∧ o.cls = .type "StopIteration") → E (.ref e) { s with heap := h' }) :
    wpAny (model prog w) A (Builtin.«zip.__next__» ⟨[.ref z], []⟩) Q E s := by
  refine zip_turn hz hT hTI fun h3 z3 k3 => ?_
  have up1 : ∀ c o, c ≠ z → s.heap.get? c = some o → h3.get? c = some o := fun c o n e => k3.extBut _ _ n e
  have there : h3.IsListIter i1 l1 k1 ∧ h3.IsList l1 xs := ⟨h1.at fun o e => up1 _ o D.i1z e, hl1.at fun o e => up1 _ o D.l1z e⟩
  rcases Option.eq_none_or_eq_some xs[k1]? with e1 | ⟨x, e1⟩
  · exact wpAny_nextOf_list_end hh there.1 there.2 e1 fun h4 e b4 x4 => hE h4 e (fun c o c1 c2 _ q => b4 c o c2 (up1 c o c1 q)) x4
  · refine wpAny_nextOf_list_item there.1 there.2 e1 fun h4 j1 k4 => ?_
    have up2 : ∀ c o, c ≠ z → c ≠ i1 → s.heap.get? c = some o → h4.get? c = some o := fun c o n m e => k4.extBut _ _ m (up1 c o n e)
    have e2 : ys[k2]? = none := hend.elim (fun n => by rw [n] at e1; cases e1) id
    exact wpAny_nextOf_list_end hh (h2.at fun o e => up2 _ o D.i2z D.i12.symm e) (hl2.at fun o e => up2 _ o D.l2z D.l2i1 e) e2 fun h5 e b5 x5 => hE h5 e (fun c o c1 c2 c3 q => b5 c o c3 (up2 c o c1 c2 q)) x5
noncomputable def ZipAt (h : Heap) (z TI TO i1 i2 : Addr) : Prop := IsPair h TI (.ref i1) (.ref i2) ∧ (∃ a b, IsPair h TO a b) ∧ (IsZip h z TI TO .none ∨ ∃ T f o, ZipO h z TI TO T f ∧ h.get? T = some o ∧ T ≠ z ∧ T ≠ TO ∧ T ≠ i1 ∧ T ≠ i2)
theorem zip_next {z TI TO i1 i2 l1 l2 : Addr} {k : Nat} {xs ys : Array Value} {x y : Value} {Q : Option Value → Shared → Prop} (D : ZipApart z TI TO i1 i2 l1 l2)
    (hz : ZipAt s.heap z TI TO i1 i2) (h1 : s.heap.IsListIter i1 l1 k) (h2 : s.heap.IsListIter i2 l2 k) (hl1 : s.heap.IsList l1 xs) (hl2 : s.heap.IsList l2 ys) (hx : xs[k]? = some x) (hy : ys[k]? = some y)
    (hQ : ∀ h', ZipAt h' z TI TO i1 i2 → h'.IsListIter i1 l1 (k + 1) → h'.IsListIter i2 l2 (k + 1) → IsPair h' s.heap.objs.size x y → h'.objs.size = s.heap.objs.size + 1 →
      (∀ c o, c ≠ z → c ≠ TO → c ≠ i1 → c ≠ i2 → s.heap.get? c = some o → h'.get? c = some o) → Q (some (.ref s.heap.objs.size)) { s with heap := h' }) :
    wpAny (model prog w) A (pyNext (.ref z)) Q E s := by
  obtain ⟨hTI, ⟨a, b, hTO⟩, hz⟩ := hz
  obtain ⟨o1, p1, _⟩ := id h1
  obtain ⟨o2, p2, _⟩ := id h2
  have fr : ∀ {c o}, s.heap.get? c = some o → s.heap.objs.size ≠ c := fun e => (Nat.ne_of_lt (Heap.lt_size e)).symm
  rcases hz with hz | ⟨T, f, o, hz, hT, t1, t2, t3, t4⟩
  · refine wpAny_pyNext_zip_item D hz hTI hTO h1 h2 hl1 hl2 hx hy fun h' a1 a2 a3 a4 a5 a6 a7 => ?_
    exact hQ h' ⟨a7 _ _ D.TIz D.TITO D.TIi1 D.TIi2 hTI, ⟨_, _, a2⟩, .inr ⟨_, false, _, a1, a5, fr hz, fr hTO, fr p1, fr p2⟩⟩ a3 a4 a5 a6 a7
  · have hTy : s.TypeIs (.ref z) "zip" := ⟨_, hz, rfl⟩
    unfold pyNext
    refine wpAny_bind (wpAny_attempt (wpAny_callSpecial?_slot (name := Str.ofString "__next__") hTy F.slot_zip_next
      (wpAny_call_entry F.slot_zip_next hTy F.entry_zip_next
        (zip_out D hz hT hTI h1 h2 hl1 hl2 hx hy fun h' a1 a3 a4 a5 a6 a7 => wpAny_pure ?_) (F.args_zip_next_1 _))))
    exact hQ h' ⟨a7 _ _ D.TIz D.TIi1 D.TIi2 hTI, ⟨_, _, a7 _ _ D.TOz D.TOi1 D.TOi2 hTO⟩, .inr ⟨T, true, _, a1, a7 _ _ t1 t3 t4 hT, t1, t2, t3, t4⟩⟩ a3 a4 a5 a6 fun c o c1 _ c3 c4 e => a7 c o c1 c3 c4 e
theorem zip_stop {z TI TO i1 i2 l1 l2 : Addr} {k : Nat} {xs ys : Array Value} {Q : Option Value → Shared → Prop} (hh : A.handled = none) (D : ZipApart z TI TO i1 i2 l1 l2)
    (hz : ZipAt s.heap z TI TO i1 i2) (h1 : s.heap.IsListIter i1 l1 k) (h2 : s.heap.IsListIter i2 l2 k) (hl1 : s.heap.IsList l1 xs) (hl2 : s.heap.IsList l2 ys) (hend : xs[k]? = none ∨ ys[k]? = none)
    (hQ : ∀ h', (∀ c o, c ≠ z → c ≠ TO → c ≠ i1 → c ≠ i2 → s.heap.get? c = some o → h'.get? c = some o) → Q none { s with heap := h' }) : wpAny (model prog w) A (pyNext (.ref z)) Q E s := by
  obtain ⟨hTI, ⟨a, b, hTO⟩, hz⟩ := hz
  rcases hz with hz | ⟨T, f, o, hz, hT, t1, t2, t3, t4⟩
  · exact wpAny_pyNext_zip_end hh D hz hTI hTO h1 h2 hl1 hl2 hend hQ
  · have hTy : s.TypeIs (.ref z) "zip" := ⟨_, hz, rfl⟩
    unfold pyNext
    refine wpAny_bind (wpAny_attempt (wpAny_callSpecial?_slot (name := Str.ofString "__next__") hTy F.slot_zip_next
      (wpAny_call_entry F.slot_zip_next hTy F.entry_zip_next (zip_out_end hh D hz hT hTI h1 h2 hl1 hl2 hend fun h' e hk he => ?_) (F.args_zip_next_1 _))))
    obtain ⟨o, ho, hc⟩ := he
    refine wpAny_bind (wpAny_isInstance (T := "StopIteration") (b := true) ⟨o, ho, hc⟩ isSubtype_stop ?_)
    exact wpAny_pure (hQ _ fun c o c1 _ c3 c4 e => hk c o c1 c3 c4 e)
end
theorem zip_no_keys : typeLookup (.type "zip") "keys" = pure none := am_miss_of_fast (by decide +kernel)
theorem zip_entry_get : entryFor table "zip.__getattribute__" = some Builtin.«object.__getattribute__» := entryFor_alias (id' := "object.__getattribute__") (by kernel_rfl) (by decide +kernel) (by decide +kernel) (by kernel_rfl)
theorem zip_no_getattr : typeLookup (.type "zip") "__getattr__" = pure none := am_miss_of_fast (by decide +kernel)
theorem zip_found {prog : Program} {w : World} {A : Around} {E : Value → Shared → Prop} {s : Shared} {a : Addr} {fs : Array Value} {sl : Array (Option Value)} {Q : Builtin.ObjectAttr.Found → Shared → Prop}
    (l : s.heap.get? a = some { cls := .type "zip", dict := none, data := .fields fs, slots := sl }) (q : Q .missing s) : wpAny (model prog w) A (Builtin.ObjectAttr.find (.ref a) (.type "zip") "keys") Q E s := by
  have own : wpAny (model prog w) A (Builtin.ObjectAttr.inOwnDict "keys" (.ref a)) (fun r s' => r = none ∧ s' = s) E s :=
    wpAny_bind (wpAny_bind (wpAny_loadPart l (wpAny_bind (wpAny_loadPart l (wpAny_pure (wpAny_pure ⟨rfl, rfl⟩))))))
  have guard : wpAny (model prog w) A (Builtin.ObjectAttr.copiedAttributeGuard "keys" (.ref a)) (fun _ s' => s' = s) E s := by
    have no : ¬ (([Str.ofString "__module__", Str.ofString "__name__", Str.ofString "__qualname__", Str.ofString "__doc__", Str.ofString "__annotations__"] : List Str).contains (Str.ofString "keys") = true) := by decide +kernel
    simp only [Builtin.ObjectAttr.copiedAttributeGuard, if_neg no]
    exact wpAny_pure rfl
  unfold Builtin.ObjectAttr.find
  rw [zip_no_keys]
  refine wpAny_bind (wpAny_pure (wpAny_bind (wpAny_pure (wpAny_bind (wpAny_pure (wpAny_bind (thn own ?_)))))))
  rintro _ _ ⟨rfl, rfl⟩
  refine wpAny_bind (thn guard ?_)
  rintro _ _ rfl
  exact wpAny_bind (wpAny_rule (wpAny_pure q))
theorem zip_miss (a : Addr) (fs : Array Value) (sl : Array (Option Value)) (u : Tok) : Meets (Builtin.«object.__getattribute__» ⟨[.ref a, .str "keys" u], []⟩) (fun A R s => s.heap.get? a = some { cls := .type "zip", dict := none, data := .fields fs, slots := sl } ∧ raisesAttr (.ref a) "keys" A R s) :=
  Meets.of_wp fun prog w A R s hs => by
    obtain ⟨l, calm, out⟩ := hs
    have tp : s.TypeIs (.ref a) "zip" := ⟨_, l, rfl⟩
    unfold Builtin.«object.__getattribute__»
    refine wpAny_bind (wpAny_pure (wpAny_bind (wpAny_pure (wpAny_bind (wpAny_typeOf tp (wpAny_bind (zip_found l ?_)))))))
    have named : wpAny (model prog w) A.in1 (typeNameOfCut 100 (.ref a)) (fun n s' => n = "zip" ∧ s' = s) (fun e s' => R (.error e) s') s :=
      wpAny_bind (wpAny_bind (wpAny_typeOf tp (wpAny_pure (wpAny_pure ⟨by decide +kernel, rfl⟩))))
    show wpAny _ _ (Builtin.ObjectAttr.noSuchAttribute (.ref a) "keys") _ _ _
    unfold Builtin.ObjectAttr.noSuchAttribute
    refine wpAny_bind (thn named ?_)
    rintro _ _ ⟨rfl, rfl⟩
    exact wpAny_raiseAttrError calm out (by decide +kernel)
end PySem
namespace PySem
open PyProof.Rows L2
section
variable {prog : Program} {w : World} {A : Around}
theorem zip_ask {E : Value → Shared → Prop} {s : Shared} {a : Addr} {fs : Array Value} {sl : Array (Option Value)} {u : Tok} {Q : Value → Shared → Prop}
    (l : s.heap.get? a = some { cls := .type "zip", dict := none, data := .fields fs, slots := sl }) (calm : A.handled = none) (out : ∀ h' tk e, Heap.NewAttrErr s.heap h' e (.ref a) "keys" → E (.ref e) { s with heap := h', toks := tk }) :
    wpAny (model prog w) A (boundAndCalled (.builtin "zip.__getattribute__") (.ref a) (.str "keys" u)) Q E s := by
  have ask : wpAny (model prog w) A (call (.builtin "zip.__getattribute__") [.ref a, .str "keys" u]) Q E s :=
    call_meets F.slot_zip_getattribute ⟨_, l, rfl⟩ zip_entry_get (F.args_zip_getattribute_2 _ _) (zip_miss a fs sl u) ⟨l, calm, out⟩
  unfold boundAndCalled
  rw [F.slot_zip_getattribute.bind (.ref a)]
  exact wpAny_bind (wpAny_pure ask)
theorem zip_on {E : Value → Shared → Prop} {s : Shared} {o name : Value} {e : Addr} {Q : Value → Shared → Prop} (t : s.TypeIs (.ref e) "AttributeError") (out : E (.ref e) s) :
    wpAny (model prog w) A (getattributeRaised o name (.type "zip") (.ref e) none false false) Q E s := by
  have last : wpAny (model prog w) A (hookOrError o name (.ref e) false false none) Q E s := wpAny_bind (wpAny_throw out)
  have none' : hookBehind (.type "zip") none = pure none := zip_no_getattr
  unfold getattributeRaised
  refine wpAny_bind (wpAny_isInstance t sub_AttributeError ?_)
  rw [if_pos rfl, none']
  exact wpAny_bind (wpAny_pure last)
theorem zip_keys {E : Value → Shared → Prop} {s : Shared} {a : Addr} {fs : Array Value} {sl : Array (Option Value)} {Q : Option Value → Shared → Prop}
    (l : s.heap.get? a = some { cls := .type "zip", dict := none, data := .fields fs, slots := sl }) (calm : A.handled = none) (out : ∀ h' tk e, Heap.NewExcOf s.heap h' e "AttributeError" → Q none { s with heap := h', toks := tk }) :
    wpAny (model prog w) A (getAttr? (.ref a) "keys") Q E s := by
  have ends : ∀ h' tk e, Heap.NewAttrErr s.heap h' e (.ref a) "keys" → (∃ o, h'.get? e = some o ∧ o.cls = .type "AttributeError") ∧ Q none { s with heap := h', toks := tk } := fun h' tk e x => by
    obtain ⟨_, _, y⟩ := x.there
    exact ⟨⟨_, y, rfl⟩, out h' tk e x.of⟩
  let s1 : Shared := { s with toks := s.toks + 1 }
  let got : Except Value Value → Shared → Prop := fun r s2 => wpAny (model prog w) A (match r with | .ok v => pure (some v) | .error e => do if ← isInstance e (.type "AttributeError") then pure none else throw e) Q E s2
  have look : wpAny (model prog w) A (getAttrBy (.ref a) (.str "keys" s.toks) false) (fun v => got (.ok v)) (fun e => got (.error e)) s1 := by
    refine wpAny_holding (wpAny_bind (wpAny_typeOf (T := "zip") ⟨_, l, rfl⟩ (wpAny_bind (wpAny_of_eq F.slot_zip_getattribute.lookup ?_))))
    have own : wpAny (model prog w) A (getAttrByItsOwn (.ref a) (.str "keys" s.toks) (.type "zip") (.builtin "zip.__getattribute__") false false) (fun v => got (.ok v)) (fun e => got (.error e)) s1 := by
      refine wpAny_bind (wpAny_pure (wpAny_bind (wpAny_attempt (wpAny_holding (zip_ask (s := s1) l calm fun h' tk e x => ?_)))))
      obtain ⟨⟨o, y1, y2⟩, q⟩ := ends h' tk e x
      exact zip_on ⟨o, y1, y2⟩ (wpAny_bind (wpAny_isInstance (T := "AttributeError") ⟨o, y1, y2⟩ sub_AttributeError (wpAny_pure q)))
    exact own
  exact wpAny_bind (wpAny_mkText (wpAny_bind (wpAny_attempt look)))
end
section
variable {prog : Program} {w : World} {K : Type} [DecidableEq K] {knd : KeyKind prog w K} {A : Around} {R : Result → Shared → Prop}
theorem zip_pairs {z TI TO i1 i2 l1 l2 d : Addr} (hh : A.handled = none) (D : ZipApart z TI TO i1 i2 l1 l2) (hd : d ∉ [z, TI, TO, i1, i2, l1, l2]) {xs ys : Array Value} (more : List (K × Value)) (hn : more.length = min xs.size ys.size) (hb : more.length ≤ sizeLine)
    (hT : ∀ (i : Nat) x y, xs[i]? = some x → ys[i]? = some y → ∃ k, knd.is k x = true ∧ more[i]? = some (k, y)) (h0 : Heap) :
    ∀ (m i : Nat) (s : Shared), more.length - i = m → i ≤ more.length → ZipAt s.heap z TI TO i1 i2 → s.heap.IsListIter i1 l1 i → s.heap.IsListIter i2 l2 i → s.heap.IsList l1 xs → s.heap.IsList l2 ys → (∀ b o, b ∉ [z, TO, i1, i2, d] → h0.get? b = some o → s.heap.get? b = some o) → s.heap.DictOf knd d (merged [] (more.take i)) →
      (∀ h' tk, (∀ b o, b ∉ [z, TO, i1, i2, d] → h0.get? b = some o → h'.get? b = some o) → h'.DictOf knd d (merged [] more) → R (.ok (.ret .none)) { s with heap := h', toks := tk }) →
      codeAny (model prog w) A (.builtin "dict.update.loop" ⟨[.ref d, .ref z, .int (i : Int) 0, .none], []⟩) R s := by
  simp only [List.mem_cons, List.not_mem_nil, or_false, not_or] at hd
  obtain ⟨d1, d2, d3, d4, d5, d6, d7⟩ := hd
  have na : ∀ {b : Addr}, b ∉ [z, TO, i1, i2, d] → b ≠ z ∧ b ≠ TO ∧ b ≠ i1 ∧ b ≠ i2 ∧ b ≠ d := fun hb => by
    simpa only [List.mem_cons, List.not_mem_nil, or_false, not_or] using hb
  intro m
  induction m with
  | zero =>
    intro i s hm hi hz h1 h2 hl1 hl2 kp hS hR
    have ei : i = more.length := by omega
    subst ei
    rw [List.take_of_length_le (Nat.le_refl _)] at hS
    refine codeAny_builtin entry_dict_update_loop ?_
    rw [Around.under_plainId plain_dict_update_loop _]
    show wpAny _ A.in1 (pyNext (.ref z) >>= _) _ _ s
    refine wpAny_bind (zip_stop (by simpa using hh) D hz h1 h2 hl1 hl2 ?_ fun h' kk => ?_)
    · rcases Nat.le_total xs.size ys.size with q | q
      · exact .inl (Array.getElem?_eq_none (by omega))
      · exact .inr (Array.getElem?_eq_none (by omega))
    · show wpAny _ A.in1 (Builtin.Dict.addKeywords d [] >>= _) _ _ _
      refine wpAny_bind (wpAny_pure ?_)
      obtain ⟨o, es, ep, ho, rest⟩ := hS
      exact wpAny_pure (hR h' _ (fun b o hb e => let ⟨b1, b2, b3, b4, b5⟩ := na hb; kk b o b1 b2 b3 b4 (kp b o hb e)) ⟨o, es, ep, kk d _ d1 d3 d4 d5 ho, rest⟩)
  | succ m ih =>
    intro i s hm hi hz h1 h2 hl1 hl2 kp hS hR
    have hlt : i < more.length := by omega
    obtain ⟨x, hx⟩ : ∃ x, xs[i]? = some x := ⟨_, Array.getElem?_eq_getElem (by omega)⟩
    obtain ⟨y, hy⟩ : ∃ y, ys[i]? = some y := ⟨_, Array.getElem?_eq_getElem (by omega)⟩
    obtain ⟨ky, hkey, hmore⟩ := hT i x y hx hy
    refine codeAny_builtin entry_dict_update_loop ?_
    rw [Around.under_plainId plain_dict_update_loop _]
    show wpAny _ A.in1 (pyNext (.ref z) >>= _) _ _ s
    refine wpAny_bind (zip_next D hz h1 h2 hl1 hl2 hx hy fun h' z' i1' i2' pr sz kk => ?_)
    have hS1 : h'.DictOf knd d (merged [] (more.take i)) := by
      obtain ⟨o, es, ep, ho, rest⟩ := hS
      exact ⟨o, es, ep, kk d _ d1 d3 d4 d5 ho, rest⟩
    have kl1 : h'.IsList l1 xs := hl1.at fun o e => kk l1 o D.l1z D.l1TO D.l1i1 D.l1i2 e
    have kl2 : h'.IsList l2 ys := hl2.at fun o e => kk l2 o D.l2z D.l2TO D.l2i1 D.l2i2 e
    have pd : s.heap.objs.size ≠ d := by
      obtain ⟨o, es, ep, ho, rest⟩ := hS
      exact (Nat.ne_of_lt (Heap.lt_size ho)).symm
    show wpAny _ A.in1 (holding [Value.ref s.heap.objs.size] _ >>= _) _ _ _
    refine wpAny_bind (wpAny_holding ?_)
    refine wpAny_bind (wpAny_tryCatch ?_)
    unfold Builtin.Dict.pairItems
    refine wpAny_bind (wpAny_typeOf (T := "tuple") ⟨_, pr, rfl⟩ ?_)
    rw [if_pos (by decide)]
    refine wpAny_bind (wpAny_seqItems pr rfl ?_)
    refine wpAny_pure ?_
    show wpAny _ A.in1 (holding [x, y] (dictSet d x y)) _ _ _
    refine wpAny_holding ?_
    have hroom : (merged [] (more.take i)).length ≤ sizeLine := by
      have e1 := merged_length_le ([] : List (K × Value)) (more.take i)
      rw [List.length_nil, List.length_take] at e1
      omega
    refine wpAny_dictSet_pairs (hsz := hroom) hkey hS1 fun h2' hS2 sb => ?_
    rw [← merged_take_succ [] more i (ky, y) hmore] at hS2
    refine wpAny_pure ⟨plainId_quiet plain_dict_update_loop _, ?_⟩
    have e1 : (rawInt ((i : Int) + 1)) = Value.int ((i + 1 : Nat) : Int) 0 := by rfl
    rw [e1]
    have up : ∀ b o, b ≠ d → h'.get? b = some o → h2'.get? b = some o := fun b o hb e => by rw [sb.2 b hb]; exact e
    have zz : ZipAt h2' z TI TO i1 i2 := by
      obtain ⟨p1, ⟨a, b, p2⟩, p3⟩ := z'
      refine ⟨up _ _ (Ne.symm d2) p1, ⟨a, b, up _ _ (Ne.symm d3) p2⟩, ?_⟩
      rcases p3 with p3 | ⟨T, f, o, q1, q2, q3, q4, q5, q6⟩
      · exact .inl (up _ _ (Ne.symm d1) p3)
      · by_cases hTd : T = d
        · subst hTd
          obtain ⟨o', es, ep, ho, rest⟩ := hS2
          exact .inr ⟨T, f, _, up _ _ (Ne.symm d1) q1, ho, q3, q4, q5, q6⟩
        · exact .inr ⟨T, f, o, up _ _ (Ne.symm d1) q1, up _ _ hTd q2, q3, q4, q5, q6⟩
    refine ih (i + 1) _ (by omega) hlt zz (i1'.at fun o e => up _ o (Ne.symm d4) e) (i2'.at fun o e => up _ o (Ne.symm d5) e) (kl1.at fun o e => up _ o (Ne.symm d6) e) (kl2.at fun o e => up _ o (Ne.symm d7) e) (fun b o hb e => ?_) hS2 fun h'' tk kk'' hS'' => hR h'' tk kk'' hS''
    obtain ⟨b1, b2, b3, b4, b5⟩ := na hb
    exact up b o b5 (kk b o b1 b2 b3 b4 (kp b o hb e))
theorem init_zip {E : Value → Shared → Prop} {s : Shared} {d z TI TO : Addr} {Q : Fin → Shared → Prop} (t : s.TypeIs (.ref d) "dict") (hz : IsZip s.heap z TI TO .none) (calm : A.handled = none)
    (on : ∀ h2 tk e, Heap.NewExcOf s.heap h2 e "AttributeError" → Q (.again (.builtin "dict.update.loop" ⟨[.ref d, .ref z, .int 0 0, .none], []⟩)) { s with heap := h2, toks := tk }) :
    wpAny (model prog w) A (Builtin.«dict.__init__» ⟨[.ref d, .ref z], []⟩) Q E s := by
  have first : wpAny (model prog w) A (Builtin.Dict.selfAndRest "__init__" ⟨[.ref d, .ref z], []⟩) (fun p s1 => p = (d, [Value.ref z]) ∧ s1 = s) E s := wpAny_bind (wpAny_notOrdered_dict t (wpAny_pure ⟨rfl, rfl⟩))
  have pairs : wpAny (model prog w) A (Builtin.Dict.updateFrom "dict.__init__" d (.ref z) [] .none) Q E s := by
    refine wpAny_bind (wpAny_typeOf (T := "zip") ⟨_, hz, rfl⟩ ?_)
    rw [if_pos (by decide)]
    refine wpAny_bind (zip_keys hz calm fun h2 tk e x => ?_)
    have hz2 : IsZip h2 z TI TO .none := x.keeps _ _ hz
    exact wpAny_bind (wpAny_rule (wpAny_bind (wpAny_pyIter_zip hz2 (wpAny_pure (on h2 tk e x)))))
  exact wpAny_bind (wpAny_mono first (fun p s1 q => by obtain ⟨rfl, rfl⟩ := q; exact pairs) fun _ _ q => q)
set_option maxHeartbeats 800000 in
theorem call_dict_zip {E : Value → Shared → Prop} {s : Shared} {z TI TO i1 i2 l1 l2 : Addr} {xs ys : Array Value} {more : List (K × Value)} {Q : Value → Shared → Prop} (hh : A.handled = none) (D : ZipApart z TI TO i1 i2 l1 l2)
    (hz : IsZip s.heap z TI TO .none) (hTI : IsPair s.heap TI (.ref i1) (.ref i2)) (hTO : IsPair s.heap TO .none .none) (h1 : s.heap.IsListIter i1 l1 0) (h2 : s.heap.IsListIter i2 l2 0) (hl1 : s.heap.IsList l1 xs) (hl2 : s.heap.IsList l2 ys)
    (hn : more.length = min xs.size ys.size) (hb : more.length ≤ sizeLine) (hT : ∀ (i : Nat) x y, xs[i]? = some x → ys[i]? = some y → ∃ k, knd.is k x = true ∧ more[i]? = some (k, y))
    (h : ∀ (h' : Heap) (tk : Nat), h'.DictOf knd s.heap.objs.size (merged [] more) → (∀ b o, b ∉ [z, TO, i1, i2] → s.heap.get? b = some o → h'.get? b = some o) → Q (.ref s.heap.objs.size) { s with heap := h', toks := tk }) :
    wpAny (model prog w) A (call (.type "dict") [.ref z]) Q E s := by
  let d := s.heap.objs.size
  have made : (withDict s).heap.DictOf knd d [] := Heap.DictOf.new s.heap
  have old : ∀ b o, s.heap.get? b = some o → (withDict s).heap.get? b = some o := fun b o e => Heap.get?_push_of_some _ e
  refine callType_codes F.kt_called_dict (F.kt_typeCall_dict_1 _) F.entry_dict_init (kt_code_dict_new _ (Q₁ := fun v s1 => v = .ref d ∧ s1 = withDict s) ⟨rfl, rfl⟩) fun v s1 q => ?_
  obtain ⟨rfl, rfl⟩ := q
  refine ⟨made.typeIs, F.args_dict_init_2 _ _, init_zip made.typeIs (old _ _ hz) (by simp [hh]) fun h2' tk e x => ⟨plainId_quiet plain_dict_update_loop _, ?_⟩⟩
  have keeps : ∀ b o, s.heap.get? b = some o → h2'.get? b = some o := fun b o e => x.keeps _ _ (old b o e)
  obtain ⟨o1, p1, _⟩ := id h1
  obtain ⟨o2, p2, _⟩ := id h2
  obtain ⟨o3, p3, _⟩ := id hl1
  obtain ⟨o4, p4, _⟩ := id hl2
  have nd : ∀ {b o}, s.heap.get? b = some o → d ≠ b := fun e => (Nat.ne_of_lt (Heap.lt_size e)).symm
  have at2 : h2'.DictOf knd d [] := by
    obtain ⟨o, es, ep, p, r⟩ := made
    exact ⟨o, es, ep, x.keeps _ _ p, r⟩
  refine zip_pairs (knd := knd) (by simp [hh]) D ?_ more hn hb hT s.heap more.length 0 _ rfl (Nat.zero_le _) ⟨keeps _ _ hTI, ⟨_, _, keeps _ _ hTO⟩, .inl (keeps _ _ hz)⟩ (h1.at fun o e => keeps _ o e) (h2.at fun o e => keeps _ o e) (hl1.at fun o e => keeps _ o e) (hl2.at fun o e => keeps _ o e) (fun b o _ e => keeps b o e) (by simpa [merged] using at2) fun h' tk' kk fin => ?_
  · simp only [List.mem_cons, List.not_mem_nil, or_false, not_or]
    exact ⟨nd hz, nd hTI, nd hTO, nd p1, nd p2, nd p3, nd p4⟩
  · refine ⟨rfl, h h' tk' fin fun b o hb e => kk b o (fun q => ?_) e⟩
    simp only [List.mem_cons, List.not_mem_nil, or_false, not_or] at hb q
    rcases q with q | q | q | q | q
    · exact hb.1 q
    · exact hb.2.1 q
    · exact hb.2.2.1 q
    · exact hb.2.2.2 q
    · exact nd e q.symm
end
end PySem
namespace L2
open PySem PySem.Spec PyProof.Rows Lw
section
variable {X : Cx} {a b : Expr} {ta : TA} {p p' pos pos' : Pos}
noncomputable def tDZ (K : PySem.W.Frag) (ta : TA) : TE := fun σ H Q => ta σ H fun xs H1 => ∃ (l m : Addr) (ks : List Key) (vs : List V), xs = [.ref l, .ref m] ∧ SqL K H1 l (ks.map kV) ∧ SqL K H1 m vs ∧ ks.length ≤ 1000 ∧ ∀ d, H1 d = none → Q (.ref d) (upd H1 d (.dK (mergeK [] (ks.zip vs))))
theorem zip_kv : ∀ (ks : List Key) {vs : List V} {ws : List Value}, Vals vs ws → KV (ks.zip vs) (ks.zip ws)
  | [], _, _, _ => .nil
  | k :: ks, _, _, .nil => .nil
  | k :: ks, _, _, .cons h r => .cons ⟨rfl, h⟩ (zip_kv ks r)
theorem pe_dzip (hcalm : X.calm = true) (hg : Gl X "dict") (hm : X.mg "dict" = none) (hg' : Gl X "zip") (hm' : X.mg "zip" = none) (ha : PA X [a, b] ta)
    (hs : starEach [a, b] X.env = (false, eval a X.env) :: starEach [b] X.env := by rfl) (hs2 : (backTo pos' (starEach [b] X.env)).any (·.1) = false := by rfl) :
    PE X (.Call (.Name "dict" p) [.Call (.Name "zip" p') [a, b] [] pos'] [] pos) (tDZ X.K ta) := by
  intro pins s σ H Q I h
  refine wpAny_Call_Name_kw (ld_blt I hg hm boot_dict ?_ (by decide) (by decide))
  refine PyProof.Rows.callWith_type1 ?_ rfl rfl
  show wpAny _ _ (spliced ((false, eval (.Call (.Name "zip" p') [a, b] [] pos') X.env) :: backTo pos (starEach [] X.env))) _ _ s
  refine Calls.spliced_cons ?_
  refine wpAny_Call_Name_kw (ld_blt I hg' hm' boot_zip ?_ (by decide) (by decide))
  refine PyProof.Rows.callWith_type1 (thn (ha pos' pins s σ H _ I h) fun us s1 ⟨xs, H1, I1, r1, q1⟩ => ?_) hs hs2
  obtain ⟨l, m, ks, vs, rfl, hl, hv, hn, q⟩ := q1
  obtain ⟨u1, u2, rfl, ru1, ru2⟩ : ∃ u1 u2, us = [u1, u2] ∧ RelV (.ref l) u1 ∧ RelV (.ref m) u2 := by
    cases r1 with | cons r1 r2 => cases r2 with | cons r2 r3 => cases r3; exact ⟨_, _, rfl, r1, r2⟩
  cases ru1
  cases ru2
  obtain ⟨its, r', pl, _⟩ := I1.list hl
  obtain ⟨jts, r2', pl2, _⟩ := I1.list hv
  refine call_zip_2 pl.isList pl2.isList fun h' z1 z2 z3 z4 z5 z6 z7 => ?_
  refine Calls.spliced_nil ?_
  have L1 := r'.length
  have L2 := r2'.length
  rw [List.length_map] at L1
  have hkv := zip_kv ks r2'
  have lt1 : l < s1.heap.objs.size := by obtain ⟨_, e, _⟩ := pl.isList; exact Heap.lt_size e
  have lt2 : m < s1.heap.objs.size := by obtain ⟨_, e, _⟩ := pl2.isList; exact Heap.lt_size e
  refine call_dict_zip (knd := mixKind X.prog X.w) (more := ks.zip jts) (s := { s1 with heap := h' }) (I1.ok.hd hcalm) (zipApart_new lt1 lt2) z1 z2 z3 z4 z5 (pl.isList.at fun o e => z7 _ o e) (pl2.isList.at fun o e => z7 _ o e) ?_ ?_ ?_ fun h2 tk hD hk => ?_
  · rw [List.length_zip, List.size_toArray, List.size_toArray]; omega
  · rw [List.length_zip]; exact Nat.le_of_lt (Nat.lt_of_le_of_lt (show min ks.length jts.length ≤ 1000 by omega) (by decide))
  · intro i x y hx hy
    have hx : its[i]? = some x := by simpa using hx
    have hy : jts[i]? = some y := by simpa using hy
    obtain ⟨hi, _⟩ := List.getElem?_eq_some_iff.mp hx
    obtain ⟨u, hu, ru⟩ := r'.get (i := i) (x := kV (ks[i]'(by omega))) (by simp [show i < ks.length by omega])
    rw [hu] at hx
    cases hx
    refine ⟨ks[i]'(by omega), kV_is ru, ?_⟩
    rw [List.getElem?_zip_eq_some]
    exact ⟨List.getElem?_eq_getElem _, hy⟩
  · have hz2 : (mergeK [] (ks.zip vs)).length ≤ sizeLine := by
      have h1 := length_mergeK (ks.zip vs) []
      rw [List.length_nil, List.length_zip] at h1
      exact Nat.le_of_lt (Nat.lt_of_le_of_lt (show (mergeK [] (ks.zip vs)).length ≤ 1000 by omega) (by decide))
    have hsz : s1.heap.objs.size ≤ h'.objs.size := by omega
    have kp : ∀ b o, s1.heap.get? b = some o → h2.get? b = some o := fun b o e => hk b o (fun q => by
      have := Heap.lt_size e
      simp only [List.mem_cons, List.not_mem_nil, or_false] at q
      rcases q with q | q | q | q <;> rw [q] at this <;> first | exact absurd this (Nat.lt_irrefl _) | exact absurd this (Nat.not_lt.mpr (Nat.le_add_right _ _))) (z7 b o e)
    refine ⟨.ref h'.objs.size, _, I1.laid (a := h'.objs.size) (o := .dK (mergeK [] (ks.zip vs))) (t' := tk) kp hsz ?_, rfl, q _ (I1.hok.fresh hsz)⟩
    exact dk_new hz2 (beq_eq_false_iff_ne.mpr (Ne.symm (Nat.ne_of_lt (Nat.lt_of_lt_of_le I1.big hsz)))) (hkv.merge .nil) hD
end
noncomputable def keysL : List D → Option (List Key)
  | [] => some []
  | d :: ds => match keyOf d, keysL ds with
    | some k, some ks => some (k :: ks)
    | _, _ => none
section
variable {X : Cx} {K : PySem.W.Frag}
theorem keysL_rep {A : Addr → Prop} {H : Hp} : ∀ {ds : List D} {ks : List Key} {vs : List V}, keysL ds = some ks → Reps K A H ds vs → vs = ks.map kV
  | [], ks, _, h, .nil => by simp only [keysL, Option.some.injEq] at h; subst h; rfl
  | d :: ds, ks, _, h, .cons r rs => by
    simp only [keysL] at h
    cases e1 : keyOf d with
    | none => rw [e1] at h; cases h
    | some k =>
      cases e2 : keysL ds with
      | none => rw [e1, e2] at h; cases h
      | some ms =>
        rw [e1, e2] at h
        cases h
        rw [keysL_rep e2 rs, keyOf_rep e1 r.peek]; rfl
theorem keysL_strs : ∀ (xs : List Str), keysL (xs.map D.str) = some (xs.map Sum.inr)
  | [] => rfl
  | x :: xs => by
    rw [List.map_cons, keysL, keysL_strs xs]; rfl
noncomputable def fDZ : OC := fun ds Φ => match ds with
  | [.lst xs, .lst ys] => ∃ ks, keysL xs = some ks ∧ ks.length ≤ 1000 ∧ Φ (.own (.dK (mergeD [] (ks.zip ys))))
  | _ => False
theorem zip_keys_eq : ∀ (ks : List Key) {ds : List D} {vs : List V} {A : Addr → Prop} {H : Hp}, Reps K A H ds vs → (ks.zip ds).map (·.1) = (ks.zip vs).map (·.1) ∧ Reps K A H ((ks.zip ds).map (·.2)) ((ks.zip vs).map (·.2))
  | [], _, _, _, _, _ => ⟨rfl, .nil⟩
  | k :: ks, _, _, _, _, .nil => ⟨rfl, .nil⟩
  | k :: ks, _, _, _, _, .cons h r => by
    obtain ⟨q1, q2⟩ := zip_keys_eq ks r
    exact ⟨by simp [q1], .cons h q2⟩
theorem cd_dz : CallD K (fun xs H Q => ∃ (l m : Addr) (ks : List Key) (vs : List V), xs = [.ref l, .ref m] ∧ SqL K H l (ks.map kV) ∧ SqL K H m vs ∧ ks.length ≤ 1000 ∧ ∀ d, H d = none → Q (.ref d) (upd H d (.dK (mergeK [] (ks.zip vs))))) fDZ := by
  intro B L H ds xs Φ Q hd hp hf k
  unfold fDZ at hf
  split at hf
  · obtain ⟨x, y, rfl, px, py⟩ := peeks2 hp
    obtain ⟨ks, hk, hl, hf⟩ := hf
    obtain ⟨a, us, rfl, ha, ra⟩ := px.lst_inv
    obtain ⟨b, vs, rfl, hb, rb⟩ := py.lst_inv
    have e := keysL_rep hk ra
    subst e
    obtain ⟨z1, z2⟩ := zip_keys_eq ks rb
    obtain ⟨q1, q2⟩ := merge_rep (kvs := []) (vs := []) z1 z2 rfl .nil
    exact ⟨a, b, ks, vs, rfl, SqL.of ha, SqL.of hb, hl, fun p hp => k _ _ _ hf (hd.dKF hp q1 q2)⟩
  · exact hf.elim
variable {a b : Expr} {ta : TAd} {p p' pos pos' : Pos}
theorem pd_dzip (hcalm : X.calm = true) (hg : Gl X "dict") (hm : X.mg "dict" = none) (hg' : Gl X "zip") (hm' : X.mg "zip" = none) (ha : PAd X [a, b] ta)
    (hs : starEach [a, b] X.env = (false, eval a X.env) :: starEach [b] X.env := by rfl) (hs2 : (backTo pos' (starEach [b] X.env)).any (·.1) = false := by rfl) :
    PD X (.Call (.Name "dict" p) [.Call (.Name "zip" p') [a, b] [] pos'] [] pos) (dC fDZ ta) := (pe_dzip hcalm hg hm hg' hm' ha hs hs2).mono fun _ _ _ h => dC_walk cd_dz h
end
end L2
namespace PySem
open PyProof.Rows L2
section
variable {prog : Program} {w : World} {A : Around} {E : Value → Shared → Prop} {R : Result → Shared → Prop}
noncomputable def keptOf : Option (Int × Tok) → Array Value
  | none => #[]
  | some (b, t) => #[.int b t, .int b t]
noncomputable def keepOne (o : Option (Int × Tok)) (x : Int × Tok) : Option (Int × Tok) :=
  match o with
  | none => some x
  | some b => if b.1 < x.1 then some x else some b
noncomputable def answerOf (d : Value) : Option (Int × Tok) → Value
  | none => d
  | some (b, t) => .int b t
noncomputable abbrev maxTurn (I S : Addr) (d : Value) : Code := .builtin "max.loop" ⟨[.ref I, .none, .ref S], [(Str.ofString "default", d)]⟩
noncomputable def MaxKeeps (h : Heap) (S : Addr) (o : Option (Int × Tok)) : Prop := ∃ c, h.get? S = some { cls := .type "list", dict := none, data := .seq (keptOf o) c, slots := #[] }
theorem MaxKeeps.on {h h' : Heap} {S : Addr} {o : Option (Int × Tok)} (k : MaxKeeps h S o) (e : h'.get? S = h.get? S) : MaxKeeps h' S o := k.imp fun _ q => e.trans q
theorem keeps_new {S : Addr} {o o' : Option (Int × Tok)} {s : Shared} {Q : Unit → Shared → Prop} {E : Value → Shared → Prop} (k : MaxKeeps s.heap S o) {f : Array Value → Array Value} (hf : f (keptOf o) = keptOf o')
    (go : ∀ h', MaxKeeps h' S o' → (∀ b, b ≠ S → h'.get? b = s.heap.get? b) → Q () { s with heap := h' }) : wpAny (model prog w) A (updateSeq S f) Q E s := by
  obtain ⟨c, hS⟩ := k
  have few : ∀ o, (keptOf o).size ≤ 2 := fun o => by cases o <;> simp [keptOf]
  have line : 2 ≤ sizeLine := by decide
  have now := Heap.get?_update_self (Obj.mapSeq f) hS rfl
  simp only [Obj.mapSeq, hf] at now
  exact wpAny_updateSeq hS rfl (go _ ⟨_, now⟩ fun b n => Heap.get?_update_other _ _ (Ne.symm n)) (Nat.le_trans (few _) line) (by rw [hf]; exact Nat.le_succ_of_le (Nat.le_trans (few _) line))
theorem max_on {I S : Addr} {d : Value} {s : Shared} (go : codeAny (model prog w) A (maxTurn I S d) R s) : (maxTurn I S d).quiet = true ∧ codeAny (model prog w) A (maxTurn I S d) R s := ⟨plainId_quiet F.plain_max_loop _, go⟩
theorem max_turn {I l S : Addr} {j : Nat} {d : Value} {o : Option (Int × Tok)} {n : Int} {t : Tok} {items : Array Value} {s : Shared} (hSI : S ≠ I) (hit : s.heap.IsListIter I l j) (hl : s.heap.IsList l items) (hj : items[j]? = some (.int n t)) (hS : MaxKeeps s.heap S o)
    (go : ∀ h', h'.IsListIter I l (j + 1) → MaxKeeps h' S (keepOne o (n, t)) → (∀ b, b ≠ I → b ≠ S → h'.get? b = s.heap.get? b) → codeAny (model prog w) A (maxTurn I S d) R { s with heap := h' }) :
    codeAny (model prog w) A (maxTurn I S d) R s := by
  have name : (toString "max" ++ toString ".loop" : String) = "max.loop" := rfl
  refine codeAny_builtin F.entry_max_loop ?_
  rw [Around.under_plainId F.plain_max_loop _]
  obtain ⟨c, hS0⟩ := id hS
  show wpAny _ A.in1 (seqItems? (.ref S) >>= _) _ _ s
  refine wpAny_bind (wpAny_seqItems hS0 rfl ?_)
  refine wpAny_bind (wpAny_tryCatch (wpAny_pyNext_list_item hit hl hj fun h1 hit1 k1 => ?_))
  have hS1 : MaxKeeps h1 S o := hS.on (k1.2 S hSI)
  refine wpAny_bind (wpAny_pure ?_)
  cases o with
  | none =>
    refine wpAny_bind (keeps_new (o' := some (n, t)) hS1 rfl fun h2 hS2 k2 => ?_)
    rw [name]
    exact wpAny_pure (max_on (go h2 (hit1.at fun o e => (k2 I (Ne.symm hSI)).trans e) hS2 fun b b1 b2 => (k2 b b2).trans (k1.2 b b1)))
  | some x =>
    obtain ⟨b, u⟩ := x
    refine wpAny_bind (wpAny_tryCatch (wpAny_holding (wpAny_bind (richCompare_gives (op := .Gt) (typeIs_int _ _ t) (typeIs_int _ _ u) F.slot_int_gt F.entry_int_gt (F.args_int_gt_2 _ _) (gives_int_gt _ _ t u) (fun x => nomatch x) ?_))))
    refine wpAny_bind (wpAny_holding (wpAny_truthy_bool (wpAny_bind (wpAny_letGo (wpAny_pure ?_)))))
    by_cases lt : b < n
    · have e : keepOne (some (b, u)) (n, t) = some (n, t) := if_pos lt
      rw [e] at go
      rw [if_pos (decide_eq_true lt)]
      refine wpAny_bind (keeps_new (o' := some (n, t)) hS1 rfl fun h2 hS2 k2 => wpAny_bind (wpAny_letGo ?_))
      rw [name]
      exact wpAny_pure (max_on (go h2 (hit1.at fun o e => (k2 I (Ne.symm hSI)).trans e) hS2 fun b b1 b2 => (k2 b b2).trans (k1.2 b b1)))
    · have e : keepOne (some (b, u)) (n, t) = some (b, u) := if_neg lt
      rw [e] at go
      rw [if_neg (by rw [decide_eq_true_eq]; exact lt)]
      refine wpAny_bind (wpAny_letGo ?_)
      rw [name]
      exact wpAny_pure (max_on (go h1 hit1 hS1 fun b b1 _ => k1.2 b b1))
theorem max_last {I l S : Addr} {j : Nat} {d : Value} {o : Option (Int × Tok)} {items : Array Value} {s : Shared} (calm : A.handled = none) (hSI : S ≠ I) (hit : s.heap.IsListIter I l j) (hl : s.heap.IsList l items) (hj : items[j]? = none) (hS : MaxKeeps s.heap S o)
    (out : ∀ h', (∀ b p, b ≠ I → b ≠ S → s.heap.get? b = some p → h'.get? b = some p) → R (.ok (.ret (answerOf d o))) { s with heap := h' }) :
    codeAny (model prog w) A (maxTurn I S d) R s := by
  refine codeAny_builtin F.entry_max_loop ?_
  rw [Around.under_plainId F.plain_max_loop _]
  obtain ⟨c, hS0⟩ := id hS
  show wpAny _ A.in1 (seqItems? (.ref S) >>= _) _ _ s
  refine wpAny_bind (wpAny_seqItems hS0 rfl ?_)
  refine wpAny_bind (wpAny_tryCatch (wpAny_pyNext_list_end (A := A.in1) calm hit hl hj fun h1 k1 => ?_))
  cases o with
  | none => exact wpAny_bind (wpAny_rule (wpAny_pure (out h1 fun b p b1 _ e => k1 b p b1 e)))
  | some x => exact wpAny_bind (keeps_new (o' := none) ⟨c, k1 S _ hSI hS0⟩ rfl fun h2 _ k2 => wpAny_bind (wpAny_letGo (wpAny_pure (out h2 fun b p b1 b2 e => (k2 b b2).trans (k1 b p b1 e)))))
theorem max_rest {I l S : Addr} {d : Value} {items : Array Value} (calm : A.handled = none) (hSI : S ≠ I) (hlI : l ≠ I) (hlS : l ≠ S) (left : List (Int × Tok)) :
    ∀ (j : Nat) (o : Option (Int × Tok)) (s : Shared), items.toList.drop j = left.map (fun x => .int x.1 x.2) → s.heap.IsListIter I l j → s.heap.IsList l items → MaxKeeps s.heap S o →
      (∀ h', (∀ b p, b ≠ I → b ≠ S → s.heap.get? b = some p → h'.get? b = some p) → R (.ok (.ret (answerOf d (left.foldl keepOne o)))) { s with heap := h' }) → codeAny (model prog w) A (maxTurn I S d) R s := by
  induction left with
  | nil =>
    intro j o s hd hit hl hS out
    have none' : items[j]? = none := by
      rw [← Array.getElem?_toList, ← Nat.add_zero j, ← List.getElem?_drop, hd]; rfl
    exact max_last calm hSI hit hl none' hS out
  | cons x left ih =>
    intro j o s hd hit hl hS out
    have this : items[j]? = some (.int x.1 x.2) := by
      rw [← Array.getElem?_toList, ← Nat.add_zero j, ← List.getElem?_drop, hd]; rfl
    have rest : items.toList.drop (j + 1) = left.map (fun x => .int x.1 x.2) := by
      rw [← List.drop_drop, hd]; rfl
    exact max_turn hSI hit hl this hS fun h1 hit1 hS1 k1 => ih (j + 1) _ _ rest hit1 (hl.at fun p e => (k1 l hlI hlS).trans e) hS1 fun h2 k2 => out h2 fun b p b1 b2 e => k2 b p b1 b2 ((k1 b b1 b2).trans e)
theorem kept_greatest : ∀ (left : List (Int × Tok)) (b : Int × Tok), ∃ m, left.foldl keepOne (some b) = some m ∧ (m = b ∨ m ∈ left) ∧ b.1 ≤ m.1 ∧ ∀ x ∈ left, x.1 ≤ m.1
  | [], b => ⟨b, rfl, .inl rfl, Int.le_refl _, fun _ h => nomatch h⟩
  | x :: left, b => by
    rw [List.foldl_cons]
    show ∃ m, left.foldl keepOne (if b.1 < x.1 then some x else some b) = some m ∧ _
    by_cases lt : b.1 < x.1
    · rw [if_pos lt]
      obtain ⟨m, e, w, g, all⟩ := kept_greatest left x
      exact ⟨m, e, .inr (w.elim (fun q => q ▸ List.mem_cons_self) (List.mem_cons_of_mem _)), by omega, fun y hy => (List.mem_cons.mp hy).elim (fun q => q ▸ g) (all y)⟩
    · rw [if_neg lt]
      obtain ⟨m, e, w, g, all⟩ := kept_greatest left b
      exact ⟨m, e, w.imp_right (List.mem_cons_of_mem _), g, fun y hy => (List.mem_cons.mp hy).elim (fun q => by rw [q]; omega) (all y)⟩
theorem args_max_default (a v : Value) : argsOk "max" ⟨[a], [(Str.ofString "default", v)]⟩ := by unfold argsOk; kernel_rfl
theorem call_maxD {l : Addr} {s : Shared} {d : Value} {items : Array Value} {vs : List (Int × Tok)} {Q : Value → Shared → Prop} (calm : A.handled = none) (hl : s.heap.IsList l items) (hv : items.toList = vs.map fun x => .int x.1 x.2)
    (out : ∀ h', (∀ b o, s.heap.get? b = some o → h'.get? b = some o) → Q (answerOf d (vs.foldl keepOne none)) { s with heap := h' }) :
    wpAny (model prog w) A (call (.builtin "max") [.ref l] [(Str.ofString "default", d)]) Q E s := by
  have name : (toString "max" ++ toString ".loop" : String) = "max.loop" := rfl
  have bound : Builtin.Builtins.bindParams "max" ["key", "default"] 0 ⟨[], [(Str.ofString "default", d)]⟩ = pure [none, some d] := rfl
  have lt : l < s.heap.objs.size := by
    obtain ⟨_, e, _⟩ := hl
    exact Heap.lt_size e
  refine kmk_tree F.kind_max F.plain_max F.entry_max (args_max_default _ _) ?_
  show wpAny _ A.in1 (Builtin.Builtins.bindParams "max" ["key", "default"] 0 ⟨[], [(Str.ofString "default", d)]⟩ >>= _) _ _ s
  rw [bound]
  refine wpAny_bind (wpAny_pure (wpAny_bind (wpAny_pure (wpAny_bind (wpAny_pyIter_list hl (wpAny_bind (wpAny_newList ?_ (Nat.zero_le _))))))))
  rw [name]
  have size1 : (s.heap.push { cls := .type "list_iterator", data := .fields #[.ref l, .int 0 0] }).objs.size = s.heap.objs.size + 1 := Heap.size_push ..
  have same : ∀ b p, s.heap.get? b = some p → ((s.heap.push { cls := .type "list_iterator", data := .fields #[.ref l, .int 0 0] }).push (seqObj "list" #[] 0)).get? b = some p := fun b p e => Heap.get?_push_of_some _ (Heap.get?_push_of_some _ e)
  have less : ∀ b p, s.heap.get? b = some p → b < s.heap.objs.size := fun _ _ e => Heap.lt_size e
  refine wpAny_pure (max_on (max_rest (l := l) (items := items) calm ?_ (Nat.ne_of_lt lt) ?_ vs 0 none _ hv ⟨_, Heap.get?_push_of_some _ (Heap.get?_push_size _ rfl), rfl, rfl⟩ (hl.at fun p e => same _ p e) ⟨0, Heap.get?_push_size _ rfl⟩ fun h2 k2 => ?_))
  · rw [size1]; exact Nat.succ_ne_self _
  · rw [size1]; exact Nat.ne_of_lt (Nat.lt_succ_of_lt lt)
  · exact out h2 fun b p e => k2 b p (Nat.ne_of_lt (less b p e)) (by rw [size1]; exact Nat.ne_of_lt (Nat.lt_succ_of_lt (less b p e))) (same b p e)
end
end PySem
namespace L2
open PySem PySem.Spec PyProof.Rows Lw
section
variable {X : Cx} {K : PySem.W.Frag} {e d : Expr} {te td : TE} {p pos kp : Pos}
noncomputable def tMaxD (K : PySem.W.Frag) (te td : TE) : TE := fun σ H Q => tCons te tNil σ H fun xs H1 => tCons td tNil σ H1 fun ys H2 => ∃ (l : Addr) (ns : List Int) (y : V), xs = [.ref l] ∧ ys = [y] ∧ SqL K H2 l (ns.map V.int) ∧ (ns = [] → Q y H2) ∧ ∀ m : Int, m ∈ ns → (∀ a ∈ ns, a ≤ m) → Q (.int m) H2
theorem pe_maxD (hc : X.calm = true) (hg : Gl X "max") (hm : X.mg "max" = none) (he : PE X e te) (hd : PE X d td) (hs : starEach [e] X.env = [(false, eval e X.env)] := by rfl) :
    PE X (.Call (.Name "max" p) [e] [⟨some "default", d, kp⟩] pos) (tMaxD X.K te td) := by
  intro pins s σ H Q I h
  refine wpAny_Call_Name_kw (ld_blt I hg hm boot_max ?_ (by decide) (by decide))
  have hpk : PK X [⟨some "default", d, kp⟩] (tCons td tNil) := pk_cons hd pk_nil
  have hpa : PA X [e] (tCons te tNil) := pa_cons he pa_nil hs
  refine callWith_kw (e := e) (rest := []) (thn (hpa pos pins s σ H _ I h) fun us s1 ⟨xs, H1, I1, r1, q1⟩ => ?_) (by rw [hs]; rfl) (by rw [hs]; rfl) rfl rfl
  refine thn (hpk pos pins s1 σ H1 _ I1 q1) fun ws s2 ⟨ys, H2, I2, r2, q2⟩ => ?_
  obtain ⟨l, ns, y, rfl, rfl, hq, n0, n1⟩ := q2
  obtain ⟨u, rfl, ru⟩ := vals1 r1
  obtain ⟨v, rfl, rv⟩ := vals1 r2
  cases ru
  obtain ⟨its, r', pl, hz⟩ := I2.list hq
  have L1 := r'.length
  rw [List.length_map] at L1
  show wpAny _ _ (call (.builtin "max") [.ref l] [(Str.ofString "default", v)]) _ _ s2
  have toks : ∃ vs : List (Int × Tok), its = (vs.map fun x => Value.int x.1 x.2) ∧ vs.map Prod.fst = ns := by
    clear pl hz n0 n1 hq
    induction ns generalizing its with
    | nil => exact ⟨[], List.length_eq_zero_iff.mp L1.symm, rfl⟩
    | cons n ns ih =>
      cases r' with
      | cons q r2 =>
        obtain ⟨t, rfl⟩ := q
        obtain ⟨vs, rfl, e⟩ := ih _ r2 (by simpa using r2.length)
        exact ⟨(n, t) :: vs, rfl, by rw [← e]; rfl⟩
  obtain ⟨vs, rfl, hvs⟩ := toks
  refine call_maxD (vs := vs) (I2.ok.hd hc) pl.isList rfl fun h' k => ?_
  cases vs with
  | nil => exact ⟨y, H2, I2.kept k, rv, n0 hvs.symm⟩
  | cons x vs =>
    obtain ⟨m, em, wm, g, all⟩ := kept_greatest vs x
    have e : answerOf v ((x :: vs).foldl keepOne none) = .int m.1 m.2 := by
      show answerOf v (vs.foldl keepOne (some x)) = _
      rw [em]; rfl
    rw [e]
    refine ⟨.int m.1, H2, I2.kept k, ⟨m.2, rfl⟩, n1 m.1 ?_ fun a ha => ?_⟩
    · rw [← hvs]
      exact List.mem_map.mpr ⟨m, List.mem_cons.mpr (wm.imp_left id), rfl⟩
    · rw [← hvs] at ha
      obtain ⟨p, hp, rfl⟩ := List.mem_map.mp ha
      exact (List.mem_cons.mp hp).elim (fun q => q ▸ g) (all p)
end
section
variable {X : Cx} {e d : Expr} {te td : TEd} {p pos kp : Pos}
noncomputable def dMaxD (te td : TEd) : TEd := fun dk ρ Φ => te dk ρ fun r ρ1 => td dk ρ1 fun r' ρ2 => match sd r, sd r' with
  | some (.lst xs), some y => ∃ ns, intsOf xs = some ns ∧ (ns = [] → Φ (.val y) ρ2) ∧ ∀ m : Int, m ∈ ns → (∀ a ∈ ns, a ≤ m) → Φ (.val (.int m)) ρ2
  | _, _ => False
theorem pd_maxD (hc : X.calm = true) (hg : Gl X "max") (hm : X.mg "max" = none) (he : PD X e te) (hd : PD X d td) (hs : starEach [e] X.env = [(false, eval e X.env)] := by rfl) :
    PD X (.Call (.Name "max" p) [e] [⟨some "default", d, kp⟩] pos) (dMaxD te td) :=
  (pe_maxD hc hg hm he hd hs).mono fun σ H Q ⟨B, ρ, T, Φ, hl, hd, ht, k⟩ => ⟨B, ρ, T, _, hl, hd, ht, fun r ρ1 x H1 l1 d1 h1 => ⟨B, ρ1, (r, some x) :: T, _, l1, d1, h1, fun r' ρ2 y H2 l2 d2 h2 => by
    cases e1 : sd r with
    | none => rw [e1] at h2; exact h2.elim
    | some c =>
      cases e2 : sd r' with
      | none => rw [e1, e2] at h2; cases c <;> exact h2.elim
      | some c' =>
        rw [e1, e2] at h2
        cases c with
        | lst xs =>
          obtain ⟨ns, hn, n0, n1⟩ := h2
          obtain ⟨q1, q2, q3⟩ := d2.two e1 e2
          obtain ⟨a, vs, rfl, _, h3, r3⟩ := q2.lst_inv
          rw [intsOf_rep hn r3] at h3
          exact ⟨a, ns, y, rfl, rfl, SqL.of h3, fun z => k _ ρ2 y H2 l2 (q1.push q3) (n0 z), fun m h4 h5 => k _ ρ2 _ H2 l2 (q1.push (.int m)) (n1 m h4 h5)⟩
        | _ => exact h2.elim⟩⟩
end
end L2
namespace L2
open PySem PySem.Spec PyProof.Rows Lw
noncomputable def ItrS (lo c : Int) (n : Nat) : It := ⟨fun i _ => i < n, fun i H x H' => H' = H ∧ x = .int (lo + i * c), fun i _ => n ≤ i⟩
theorem turn_rangeS {P : Program} {w : World} {K : PySem.W.Frag} {tg : Expr} (it : Addr) (lo c : Int) (n : Nat) : Turn P w K tg (ItrS lo c n) [it] it (fun i h => IsRangeIter h it (lo + (i : Nat) * c) ((n : Int) - (i : Nat)) c) where
  mem := by simp
  obj := fun i h st b hb => by
    have e : b = it := by simpa using hb
    subst e
    exact ⟨_, st, fun v z => by
      have z' : Data.fields _ = Data.cell v := z
      cases z'⟩
  keep := fun i h h' st k => k it (by simp) _ st
  item := by
    intro X hP hw hK hc i pins s σ H E I hf st hg
    subst hP hw hK
    obtain ⟨f0, f1, f2, f3, f4, f5⟩ := hf it (by simp)
    have W := Walks.range (prog := X.prog) (w := X.w) (I.ok.hd hc) it lo c n
    refine W.item i s _ _ hg st fun v h' tk hv st' kk => ?_
    obtain ⟨t, rfl⟩ := hv
    have I1 : Inv X pins σ H { s with heap := h', toks := tk } := I.turned (fun b o hb e => kk b o (by simpa using hb) e) f0 f1 f3 f4 f5
    exact ⟨_, rfl, go_of (s := { s with heap := h', toks := tk }) (n := "range_iterator") st' rfl rfl (by decide) ⟨.int (lo + i * c), H, I1, ⟨t, rfl⟩, ⟨rfl, rfl⟩, st', fun b hb => (hf b hb).1⟩⟩
  done := by
    intro X hP hw hK hc i pins s σ H E I hf st hg
    subst hP hw hK
    obtain ⟨f0, f1, f2, f3, f4, f5⟩ := hf it (by simp)
    exact wpAny_pyNext_range_end (I.ok.hd hc) st (by have : n ≤ i := hg; omega) fun h' eb => ⟨rfl, I.turned (t' := s.toks) (fun b o hb e => eb b o hb e) f0 f1 f3 f4 f5⟩
  self := fun _ _ _ _ _ st h => wpAny_pyIter_rangeiter st h
section
variable {X : Cx} {tg : Expr}
noncomputable def manyS (lo hi c : Int) : Nat := if lo < hi then ((hi - lo - 1) / c + 1).toNat else 0
noncomputable def iRng3 (ta : TA) : TI := fun σ H R => ta σ H fun vs H1 => ∃ i j c : Int, vs = [.int i, .int j, .int c] ∧ (0 ≤ i ∧ i ≤ 100000 ∧ 0 ≤ j ∧ j ≤ 100000 ∧ 0 < c ∧ c ≤ 100000) ∧ R (ItrS i c (manyS i j c)) H1
theorem pi_range3 {a b c : Expr} {ta : TA} {p pos : Pos} (hg : Gl X "range") (hm : X.mg "range" = none) (ha : PA X [a, b, c] ta) (hs : starEach [a, b, c] X.env = (false, eval a X.env) :: starEach [b, c] X.env := by rfl) (hs2 : (backTo pos (starEach [b, c] X.env)).any (·.1) = false := by rfl) :
    PI X tg (.Call (.Name "range" p) [a, b, c] [] pos) (iRng3 ta) := by
  intro pins s σ H R I h
  refine Call_ (ld_blt I hg hm boot_range (PyProof.Rows.callWith_type1 (thn (ha pos pins s σ H _ I h) fun us s1 ⟨vs, H1, I1, r1, q1⟩ => ?_) hs hs2))
  obtain ⟨lo, hi, c, rfl, ⟨b1, b2, b3, b4, b5, b6⟩, q⟩ := q1
  cases r1 with
  | cons ra rr =>
    cases rr with
    | cons rb rr =>
      cases rr with
      | cons rc rr =>
        cases rr
        obtain ⟨t, rfl⟩ := ra
        obtain ⟨u, rfl⟩ := rb
        obtain ⟨v, rfl⟩ := rc
        refine call_range_3 (by omega) ?_ (.inl (PyProof.noPylong_small (by omega)))
        refine wpAny_pyIter_range (IsRange.new ..) ?_ ?_
        · have n0 : 0 ≤ Builtin.Range.rangeSize lo hi c ∧ Builtin.Range.rangeSize lo hi c ≤ 100001 := by
            unfold Builtin.Range.rangeSize
            rw [if_pos (show c > 0 from b5)]
            split
            · have z1 := Int.ediv_nonneg (show 0 ≤ hi - lo - 1 by omega) (show 0 ≤ c by omega)
              have z2 := Int.ediv_le_self c (show 0 ≤ hi - lo - 1 by omega)
              omega
            · omega
          unfold Builtin.Range.small
          simp only [Builtin.Range.rangeFitsLong, Bool.and_eq_true, Bool.or_eq_true, decide_eq_true_eq, beq_iff_eq, if_pos (show c > 0 from b5)]
          omega
        · have I2 : Inv X pins σ H1 { s1 with heap := s1.heap.push { cls := .type "range", data := .fields #[.int lo t, .int hi u, .int c v] }, toks := s1.toks } := I1.kept fun b o e => Heap.get?_push_of_some _ e
          refine ⟨(s1.heap.push { cls := .type "range", data := .fields #[.int lo t, .int hi u, .int c v] }).objs.size, [(s1.heap.push { cls := .type "range", data := .fields #[.int lo t, .int hi u, .int c v] }).objs.size], _, _, H1, rfl,
            I2.kept (t' := s1.toks) fun b o e => Heap.get?_push_of_some _ e, turn_rangeS _ lo c (manyS lo hi c), ?_, fun b hb => ?_, q⟩
          · have e1 : lo + ((0 : Nat) : Int) * c = lo := by simp
            have e2 : ((manyS lo hi c : Nat) : Int) - ((0 : Nat) : Int) = Builtin.Range.rangeSize lo hi c := by
              unfold manyS Builtin.Range.rangeSize
              rw [if_pos (show c > 0 from b5)]
              split
              · have := Int.ediv_nonneg (show 0 ≤ hi - lo - 1 by omega) (show 0 ≤ c by omega)
                omega
              · rfl
            show IsRangeIter _ _ (lo + ((0 : Nat) : Int) * c) (((manyS lo hi c : Nat) : Int) - ((0 : Nat) : Int)) c
            rw [e1, e2]
            exact Heap.get?_push_size _ rfl
          · have e : b = (s1.heap.push { cls := .type "range", data := .fields #[.int lo t, .int hi u, .int c v] }).objs.size := by simpa using hb
            subst e
            exact I2.fpOk (Nat.le_refl _) (I2.hok.fresh (Nat.le_refl _))
end
section
variable {X : Cx} {K : PySem.W.Frag} {tg a b c : Expr} {ta tb tc : TEd} {pos p : Pos}
noncomputable def intsS (lo c : Int) (n : Nat) : List D := (List.range n).map fun (i : Nat) => D.int (lo + i * c)
theorem yd_rangeS {lo c : Int} {n : Nat} : YD K (ItrS lo c n) (intsS lo c n) [] where
  vals := rfl
  go := fun i H A hi _ => by simpa [ItrS, intsS] using hi
  yld := fun i H A x H' hi _ y => by
    have hi' : i < n := by simpa [intsS] using hi
    refine ⟨.int (lo + i * c), by simp [intsS, hi'], .inl ⟨y.1, ?_⟩⟩
    rw [y.2]; exact .int _
  stop := fun i H A hi _ => by simp [ItrS, intsS, hi]
noncomputable def iR3 (ta tb tc : TEd) : TId := fun dk ρ Ψ => ta dk ρ fun r ρ1 => tb dk ρ1 fun r' ρ2 => tc dk ρ2 fun r'' ρ3 => match r, r', r'' with
  | .val (.int i), .val (.int j), .val (.int c) => (0 ≤ i ∧ i ≤ 100000 ∧ 0 ≤ j ∧ j ≤ 100000 ∧ 0 < c ∧ c ≤ 100000) ∧ Ψ (intsS i c (manyS i j c)) ρ3
  | _, _, _ => False
theorem i_r3 (hg : Gl X "range") (hm : X.mg "range" = none) (ha : PD X a ta) (hb : PD X b tb) (hc : PD X c tc) (hs : starEach [a, b, c] X.env = (false, eval a X.env) :: starEach [b, c] X.env := by rfl) (hs2 : (backTo pos (starEach [b, c] X.env)).any (·.1) = false := by rfl)
    (hn : noStar a = true := by rfl) (hn2 : noStar b = true := by rfl) (hn3 : noStar c = true := by rfl) : PId X tg (.Call (.Name "range" p) [a, b, c] [] pos) (iR3 ta tb tc) :=
  (pi_range3 hg hm (pa_c ha (pa_c hb (pa_c hc pa_nil hn3) hn2) hn) hs hs2).mono fun σ H R ⟨B, ρ, T, Ψ, hl, hd, ht, k⟩ => ⟨B, ρ, T, _, hl, hd, ht, fun r ρ1 v H1 l1 d1 h1 => ⟨B, ρ1, (r, some v) :: T, _, l1, d1, h1, fun r' ρ2 u H2 l2 d2 h2 => ⟨B, ρ2, (r', some u) :: (r, some v) :: T, _, l2, d2, h2, fun r'' ρ3 w H3 l3 d3 h3 => by
    split at h3
    · have q0 := d3.valAt
      have d4 := d3.drop
      obtain ⟨q1, q2, q3⟩ := d4.two rfl rfl
      have e0 := q0.int_inv
      have e1 := q2.int_inv
      have e2 := q3.int_inv
      subst e0 e1 e2
      exact ⟨_, _, _, rfl, h3.1, k _ _ ρ3 [] H3 l3 q1 yd_rangeS h3.2⟩
    · exact h3.elim⟩⟩⟩
end
noncomputable def Ite (K : PySem.W.Frag) (a : Addr) : It :=
  ⟨fun i H => ∃ xs x, SqL K H a xs ∧ xs[i]? = some x,
   fun i H v H' => ∃ p x, H p = none ∧ v = .ref p ∧ H' = upd H p (.tup [.int i, x]) ∧ ∀ xs, SqL K H a xs → xs[i]? = some x,
   fun i H => ∃ xs, SqL K H a xs ∧ xs.length ≤ i⟩
noncomputable def EnumSt (a e it : Addr) (i : Nat) (h : Heap) : Prop := (∃ old, IsEnum h e it i old) ∧ h.IsListIter it a i
theorem turn_enum {P : Program} {w : World} {K : PySem.W.Frag} {elts : List Expr} {x1 : Nat} {pos : Pos} {a e it : Addr} (hne : e ≠ it) :
    Turn P w K (.Tuple elts x1 pos) (Ite K a) [e, it] e (EnumSt a e it) where
  mem := by simp
  obj := fun i h st c hc => by
    obtain ⟨⟨old, s1⟩, ⟨o4, s4, c4, d4⟩⟩ := st
    simp only [List.mem_cons, List.not_mem_nil, or_false] at hc
    rcases hc with e | e <;> subst e
    · exact ⟨_, s1, fun v z => nomatch z⟩
    · exact ⟨_, s4, fun v z => by rw [d4] at z; cases z⟩
  keep := fun i h h' st k => by
    obtain ⟨⟨old, s1⟩, s4⟩ := st
    exact ⟨⟨old, k e (by simp) _ s1⟩, s4.at fun o q => k it (by simp) o q⟩
  item := by
    intro X hP hw hK hc i pins s σ H E I hf st hg
    subst hP hw hK
    obtain ⟨⟨old, s1⟩, s4⟩ := st
    obtain ⟨xs, x, qx, hx⟩ := hg
    obtain ⟨itx, rx, px, _⟩ := I.list qx
    obtain ⟨ux, hux, rux⟩ := rx.get hx
    refine wpAny_pyNext_enum_item s1 s4 px.isList (x := ux) (by simpa using hux) hne fun h' n1 n2 n3 n4 n5 => ?_
    refine ⟨_, rfl, wpAny_letOwnedTupleGo_enum n1 fun h2 m1 sb => ?_⟩
    have kp : ∀ c o, c ∉ [e, it] → s.heap.get? c = some o → h2.get? c = some o := fun c o hcc q => by
      simp only [List.mem_cons, List.not_mem_nil, or_false, not_or] at hcc
      exact sb.extBut c o hcc.1 (n5 c o hcc.1 hcc.2 q)
    have zs : s.heap.objs.size ≠ e := fun q => Nat.lt_irrefl _ (by have := Heap.lt_size s1; rw [← q] at this; exact this)
    have nt : IsTup h2 s.heap.objs.size [.int i s.toks, ux].toArray := ⟨_, sb.extBut _ _ zs n3, rfl, _, rfl⟩
    have I2 := I.movedT (t' := s.toks + 1) (ys := [.int i, x]) hf kp nt (.cons ⟨_, rfl⟩ (.cons rux .nil)) (by show 2 ≤ sizeLine; decide)
    refine ⟨.ref s.heap.objs.size, _, I2, rfl, ⟨_, x, I.fresh, rfl, rfl, fun xs' q' => by rw [I.list_inj q' qx]; exact hx⟩, ⟨⟨ux, ?_⟩, ?_⟩, fun c hcc => ?_⟩
    · have : ((i + 1 : Nat) : Int) = (i : Int) + 1 := by omega
      rw [this]; exact m1
    · exact n2.at fun o q => sb.extBut _ o (Ne.symm hne) q
    · rw [upd_ne]
      · exact (hf c hcc).1
      · intro q
        obtain ⟨o, ho⟩ : ∃ o, s.heap.get? c = some o := by
          obtain ⟨o4, s4', _⟩ := s4
          simp only [List.mem_cons, List.not_mem_nil, or_false] at hcc
          rcases hcc with q | q <;> rw [q]
          · exact ⟨_, s1⟩
          · exact ⟨_, s4'⟩
        have := Heap.lt_size ho
        rw [q] at this
        exact Nat.lt_irrefl _ this
  done := by
    intro X hP hw hK hc i pins s σ H E I hf st hg
    subst hP hw hK
    obtain ⟨⟨old, s1⟩, s4⟩ := st
    obtain ⟨xs, qx, hend⟩ := hg
    obtain ⟨itx, rx, px, _⟩ := I.list qx
    have lx := rx.length
    refine wpAny_pyNext_enum_end (I.ok.hd hc) s1 s4 px.isList (by simp; omega) fun h' k => ⟨rfl, I.moved (t' := s.toks) hf fun c o hcc q => ?_⟩
    simp only [List.mem_cons, List.not_mem_nil, or_false, not_or] at hcc
    exact k c o hcc.2 q
  self := fun _ _ _ _ _ st h => by
    obtain ⟨⟨old, s1⟩, s4⟩ := st
    exact wpAny_pyIter_enum s1 h
section
variable {X : Cx} {K : PySem.W.Frag}
noncomputable def iEnu (K : PySem.W.Frag) (ta : TA) : TI := fun σ H R => ta σ H fun vs H1 => ∃ a, vs = [.ref a] ∧ (∃ xs, SqL K H1 a xs) ∧ R (Ite K a) H1
theorem pi_enum {elts : List Expr} {x1 : Nat} {ps : Pos} {e : Expr} {ta : TA} {p pos : Pos} (hg : Gl X "enumerate") (hm : X.mg "enumerate" = none) (ha : PA X [e] ta) (hs : starEach [e] X.env = [(false, eval e X.env)] := by rfl) :
    PI X (.Tuple elts x1 ps) (.Call (.Name "enumerate" p) [e] [] pos) (iEnu X.K ta) := by
  intro pins s σ H R I h
  refine Call_ (ld_blt I hg hm boot_enumerate (PyProof.Rows.callWith_type1 (thn (ha pos pins s σ H _ I h) fun us s1 ⟨vs, H1, I1, r1, q1⟩ => ?_) hs rfl))
  obtain ⟨a, rfl, ⟨xs, qx⟩, q⟩ := q1
  obtain ⟨u, rfl, ru⟩ := vals1 r1
  cases ru
  obtain ⟨itx, rx, px, _⟩ := I1.list qx
  refine call_enumerate_list px.isList fun h' n1 n2 n3 n4 => ?_
  have I2 : Inv X pins σ H1 { s1 with heap := h' } := I1.kept (t' := s1.toks) n4
  refine wpAny_pyIter_enum n1 ⟨_, [_, _], _, _, H1, rfl, I2, turn_enum (a := a) (e := s1.heap.objs.size + 1) (it := s1.heap.objs.size) (Nat.succ_ne_self _), ⟨⟨_, n1⟩, n2⟩, fun c hc => ?_, q⟩
  simp only [List.mem_cons, List.not_mem_nil, or_false] at hc
  rcases hc with e | e <;> (subst e; exact I1.fpOk (by omega) (I1.hok.fresh (by omega)))
noncomputable def enumD (xs : List D) : List D := (List.range xs.length).zipWith (fun i d => D.tup [.int (i : Nat), d]) xs
theorem enumD_get {xs : List D} {i : Nat} {d : D} (h : xs[i]? = some d) : (enumD xs)[i]? = some (.tup [.int i, d]) := by
  obtain ⟨hi, rfl⟩ := List.getElem?_eq_some_iff.mp h
  unfold enumD
  simp [hi]
theorem enumD_len {xs : List D} : (enumD xs).length = xs.length := by simp [enumD]
theorem yd_enum {a : Addr} {ds : List D} : YD K (Ite K a) (enumD ds) [(.val (.lst ds), some (.ref a))] := by
  have key : ∀ A H, EOk K A H [(.val (.lst ds), some (.ref a))] → ∃ vs, SqL K H a vs ∧ Reps K A H ds vs := fun A H ok => by
    obtain ⟨v, e, r⟩ := ok _ List.mem_cons_self
    cases e
    obtain ⟨a', vs, e, _, h1, r1⟩ := r.lst_inv
    cases e
    exact ⟨vs, SqL.of h1, r1⟩
  refine ⟨rfl, fun i H A hi ok => ?_, fun i H A x H' hi ok y => ?_, fun i H A hi ok => ?_⟩
  · obtain ⟨vs, h1, r1⟩ := key A H ok
    rw [enumD_len] at hi
    exact ⟨vs, vs[i]'(by rw [← r1.length]; exact hi), h1, List.getElem?_eq_getElem _⟩
  · obtain ⟨vs, h1, r1⟩ := key A H ok
    obtain ⟨p, z, hp, rfl, rfl, hz⟩ := y
    obtain ⟨d, hd, rd⟩ := r1.getV (hz vs h1)
    exact ⟨_, enumD_get hd, .inr ⟨p, _, _, hp, rfl, rfl, rfl, .cons (.int _) (.cons rd .nil)⟩⟩
  · obtain ⟨vs, h1, r1⟩ := key A H ok
    rw [enumD_len] at hi
    exact ⟨vs, h1, by rw [← r1.length]; omega⟩
noncomputable def iEn (te : TEd) : TId := fun dk ρ Ψ => te dk ρ fun r ρ' => match sd r with
  | some (.lst xs) => Ψ (enumD xs) ρ'
  | _ => False
theorem i_enum {elts : List Expr} {x1 : Nat} {ps : Pos} {e : Expr} {te : TEd} {p pos : Pos} (hg : Gl X "enumerate") (hm : X.mg "enumerate" = none) (he : PD X e te) (hs : starEach [e] X.env = [(false, eval e X.env)] := by rfl) (hn : noStar e = true := by rfl) :
    PId X (.Tuple elts x1 ps) (.Call (.Name "enumerate" p) [e] [] pos) (iEn te) :=
  (pi_enum hg hm (pa_c he pa_nil hn) hs).mono fun σ H R ⟨B, ρ, T, Ψ, hl, hd, ht, k⟩ => ⟨B, ρ, T, _, hl, hd, ht, fun r ρ' v H' l1 d1 h1 => by
    cases e1 : sd r with
    | none => rw [e1] at h1; exact h1.elim
    | some d =>
      rw [e1] at h1
      have d2 := d1.thaw e1
      have rv := d2.valAt
      cases d with
      | lst xs => obtain ⟨a, vs, rfl, _, h2, r2⟩ := rv.lst_inv; exact ⟨a, rfl, ⟨vs, SqL.of h2⟩, k _ _ ρ' [_] H' l1 d2 yd_enum h1⟩
      | _ => exact h1.elim⟩
end
end L2
namespace Lw
open PySem L2
noncomputable abbrev Tab := List (Str × Int)
noncomputable abbrev Gts := List (Str × Str × List Str)
noncomputable def encT (t : Tab) : List (Key × D) := t.map fun p => (Sum.inr p.1, D.int p.2)
noncomputable def look (t : Tab) (x : Str) : Int := match t.find? (fun p => decide (p.1 = x)) with
  | some p => p.2
  | none => 0
noncomputable def mx : List Int → Int
  | [] => 0
  | a :: r => if mx r ≤ a then a else mx r
theorem look_cons {p : Str × Int} {t : Tab} {x : Str} : look (p :: t) x = if p.1 = x then p.2 else look t x := by
  unfold look
  rw [List.find?_cons]
  by_cases h : p.1 = x <;> simp [h]
theorem valT : ∀ (t : Tab) (x : Str), (x ∈ t.map (·.1) → valD (encT t) (Sum.inr x) = some (.int (look t x))) ∧ (x ∉ t.map (·.1) → valD (encT t) (Sum.inr x) = none ∧ look t x = 0)
  | [], x => ⟨fun h => by simp at h, fun _ => ⟨rfl, rfl⟩⟩
  | p :: t, x => by
    have ih := valT t x
    have e : encT (p :: t) = (Sum.inr p.1, D.int p.2) :: encT t := rfl
    rw [e, valD_cons, look_cons]
    by_cases h : p.1 = x
    · subst h
      exact ⟨fun _ => by rw [if_pos rfl, if_pos rfl], fun n => absurd (by simp) n⟩
    · have h' : (Sum.inr p.1 : Key) ≠ Sum.inr x := fun q => h (Sum.inr.inj q)
      rw [if_neg h', if_neg h]
      refine ⟨fun m => ih.1 ?_, fun m => ih.2 fun q => m (by simp only [List.map_cons, List.mem_cons]; exact .inr q)⟩
      simp only [List.map_cons, List.mem_cons] at m
      exact m.resolve_left fun q => h q.symm
theorem valT_get (t : Tab) (x : Str) : (valD (encT t) (Sum.inr x)).getD (.int 0) = .int (look t x) := by
  by_cases h : x ∈ t.map (·.1)
  · rw [(valT t x).1 h]; rfl
  · rw [((valT t x).2 h).1, ((valT t x).2 h).2]; rfl
theorem put_new {t : Tab} {x : Str} {n : Int} (h : x ∉ t.map (·.1)) : putD (encT t) (Sum.inr x) (.int n) = encT (t ++ [(x, n)]) := by
  unfold putD
  rw [valD_any, ((valT t x).2 h).1]
  simp [encT]
theorem merge_go : ∀ (u t : Tab), ((t ++ u).map (·.1)).Nodup → mergeD (encT t) (encT u) = encT (t ++ u)
  | [], t, _ => by simp [mergeD, encT]
  | p :: u, t, h => by
    have hn : p.1 ∉ t.map (·.1) := fun q => by
      rw [List.map_append] at h
      exact (List.nodup_append.mp h).2.2 p.1 q p.1 (by simp) rfl
    have e : mergeD (encT t) (encT (p :: u)) = mergeD (putD (encT t) (Sum.inr p.1) (.int p.2)) (encT u) := rfl
    rw [e, put_new hn, merge_go u (t ++ [p]) (by simpa using h)]
    simp
theorem merge_new {t : Tab} (h : (t.map (·.1)).Nodup) : mergeD [] (encT t) = encT t := by
  have := merge_go t [] (by simpa using h)
  simpa [encT] using this
theorem mx_nonneg : ∀ ns : List Int, 0 ≤ mx ns
  | [] => Int.le_refl _
  | a :: r => by
    have := mx_nonneg r
    unfold mx
    split <;> omega
theorem mx_ge : ∀ {ns : List Int} {a : Int}, a ∈ ns → a ≤ mx ns
  | b :: r, a, h => by
    unfold mx
    rcases List.mem_cons.mp h with rfl | h
    · split <;> omega
    · have := mx_ge h
      split <;> omega
theorem mx_mem : ∀ ns : List Int, mx ns = 0 ∨ mx ns ∈ ns
  | [] => .inl rfl
  | a :: r => by
    unfold mx
    split
    · exact .inr List.mem_cons_self
    · exact (mx_mem r).imp id fun h => List.mem_cons_of_mem _ h
theorem mx_of {ns : List Int} {m : Int} (h : m = 0 ∨ m ∈ ns) (h0 : 0 ≤ m) (hg : ∀ a ∈ ns, a ≤ m) : m = mx ns := by
  have h1 : m ≤ mx ns := h.elim (fun e => by rw [e]; exact mx_nonneg ns) mx_ge
  have h2 : mx ns ≤ m := (mx_mem ns).elim (fun e => by rw [e]; exact h0) (hg _)
  omega
theorem mx_mono {α : Type} {f g : α → Int} : ∀ {xs : List α}, (∀ x ∈ xs, f x ≤ g x) → mx (xs.map f) ≤ mx (xs.map g)
  | [], _ => Int.le_refl _
  | x :: xs, h => by
    have h1 := h x (by simp)
    have h2 := mx_mono (xs := xs) fun y hy => h y (by simp [hy])
    simp only [List.map_cons, mx]
    split <;> split <;> omega
noncomputable def LeT : Tab → Tab → Prop := Paired fun (p q : Str × Int) => p.1 = q.1 ∧ p.2 ≤ q.2
theorem LeT.look {t u : Tab} (h : LeT t u) (x : Str) : look t x ≤ Lw.look u x := by
  unfold LeT at h
  induction h with
  | nil => exact Int.le_refl _
  | @cons p q t u h r ih =>
    rw [look_cons, look_cons, ← h.1]
    split
    · exact h.2
    · exact ih
noncomputable def stepT (t : Tab) (g : Str × Str × List Str) : Tab := t ++ [(g.1, mx (g.2.2.map fun o => 1 + look t o))]
noncomputable def tbl (ins : List Str) (gs : Gts) (car : Str → Int) : Tab := gs.foldl stepT (ins.map fun n => (n, car n))
theorem LeT.snoc {t u : Tab} (h : LeT t u) {x : Str} {m n : Int} (hm : m ≤ n) : LeT (t ++ [(x, m)]) (u ++ [(x, n)]) := by
  unfold LeT at h ⊢
  induction h with
  | nil => exact .cons ⟨rfl, hm⟩ .nil
  | cons h r ih => exact .cons h ih
theorem LeT.fold : ∀ (gs : Gts) {t u : Tab}, LeT t u → LeT (gs.foldl stepT t) (gs.foldl stepT u)
  | [], _, _, h => h
  | g :: gs, t, u, h => LeT.fold gs (h.snoc (mx_mono fun o _ => by have := h.look o; omega))
theorem LeT.ins {f g : Str → Int} (h : ∀ x, f x ≤ g x) : ∀ xs : List Str, LeT (xs.map fun n => (n, f n)) (xs.map fun n => (n, g n))
  | [] => .nil
  | x :: xs => .cons ⟨rfl, h x⟩ (LeT.ins h xs)
theorem tbl_mono {ins : List Str} {gs : Gts} {f g : Str → Int} (h : ∀ x, f x ≤ g x) (x : Str) : look (tbl ins gs f) x ≤ look (tbl ins gs g) x := (LeT.fold gs (LeT.ins h ins)).look x
theorem look_nonneg {t : Tab} (h : ∀ p ∈ t, 0 ≤ p.2) (x : Str) : 0 ≤ look t x := by
  induction t with
  | nil => exact Int.le_refl _
  | cons p t ih =>
    rw [look_cons]
    split
    · exact h p (by simp)
    · exact ih fun q hq => h q (by simp [hq])
theorem fold_nonneg : ∀ (gs : Gts) {t : Tab}, (∀ p ∈ t, 0 ≤ p.2) → ∀ p ∈ gs.foldl stepT t, 0 ≤ p.2
  | [], _, h => h
  | g :: gs, t, h => fold_nonneg gs fun p hp => by
    rcases List.mem_append.mp hp with q | q
    · exact h p q
    · rw [List.mem_singleton.mp q]; exact mx_nonneg _
theorem tbl_nonneg {ins : List Str} {gs : Gts} {f : Str → Int} (h : ∀ x, 0 ≤ f x) (x : Str) : 0 ≤ look (tbl ins gs f) x := look_nonneg (fold_nonneg gs fun p hp => by
  obtain ⟨n, _, rfl⟩ := List.mem_map.mp hp
  exact h n) x
theorem fold_keys : ∀ (gs : Gts) (t : Tab), (gs.foldl stepT t).map (·.1) = t.map (·.1) ++ gs.map (·.1)
  | [], t => by simp
  | g :: gs, t => by rw [List.foldl_cons, fold_keys gs]; simp [stepT]
theorem tbl_keys (ins : List Str) (gs : Gts) (f : Str → Int) : (tbl ins gs f).map (·.1) = ins ++ gs.map (·.1) := by
  unfold tbl
  rw [fold_keys]
  simp [Function.comp_def]
noncomputable def car (al : List (Str × Str)) (t : Tab) : Tab := al.map fun p => (p.2, look t p.1)
noncomputable def Cr (ins : List Str) (gs : Gts) (al : List (Str × Str)) : Nat → Tab
  | 0 => al.map fun p => (p.2, 0)
  | i + 1 => car al (tbl ins gs (look (Cr ins gs al i)))
noncomputable def Tb (ins : List Str) (gs : Gts) (al : List (Str × Str)) (i : Nat) : Tab := tbl ins gs (look (Cr ins gs al i))
section
variable {ins : List Str} {gs : Gts} {al : List (Str × Str)}
theorem car_le {t u : Tab} (h : ∀ x, look t x ≤ look u x) : ∀ al : List (Str × Str), LeT (car al t) (car al u)
  | [] => .nil
  | p :: al => .cons ⟨rfl, h p.1⟩ (car_le h al)
theorem car_zero {t : Tab} (h : ∀ x, 0 ≤ look t x) : ∀ al : List (Str × Str), LeT (al.map fun p => (p.2, 0)) (car al t)
  | [] => .nil
  | p :: al => .cons ⟨rfl, h p.1⟩ (car_zero h al)
theorem Cr_nonneg : ∀ (i : Nat) (x : Str), 0 ≤ look (Cr ins gs al i) x
  | 0, x => look_nonneg (fun p hp => by
    obtain ⟨q, _, rfl⟩ := List.mem_map.mp hp
    exact Int.le_refl _) x
  | i + 1, x => look_nonneg (fun p hp => by
    obtain ⟨q, _, rfl⟩ := List.mem_map.mp hp
    exact tbl_nonneg (Cr_nonneg i) _) x
theorem Tb_nonneg (i : Nat) (x : Str) : 0 ≤ look (Tb ins gs al i) x := tbl_nonneg (Cr_nonneg i) x
theorem Cr_mono : ∀ (i : Nat) (x : Str), look (Cr ins gs al i) x ≤ look (Cr ins gs al (i + 1)) x
  | 0, x => (car_zero (Tb_nonneg 0) al).look x
  | i + 1, x => (car_le (fun y => tbl_mono (Cr_mono i) y) al).look x
theorem Tb_mono (i : Nat) (x : Str) : look (Tb ins gs al i) x ≤ look (Tb ins gs al (i + 1)) x := tbl_mono (Cr_mono i) x
theorem Cr_keys (i : Nat) : (Cr ins gs al i).map (·.1) = al.map (·.2) := by
  cases i <;> simp [Cr, car, Function.comp_def]
noncomputable def Mx (ins : List Str) (gs : Gts) (al : List (Str × Str)) (os : List Str) (i : Nat) : Int := mx (os.map (look (Tb ins gs al i)))
theorem split_max {os es ns : List Str} {f : Str → Int} (h0 : ∀ x, 0 ≤ f x) (h1 : ∀ x ∈ ns, x ∈ os) (h2 : ∀ x ∈ es, x ∈ os) (h3 : ∀ x ∈ os, x ∈ ns ∨ x ∈ es) {m : Int} (hm : m = mx (ns.map f) ∨ m ∈ es.map f) (hg : mx (ns.map f) ≤ m) (hh : ∀ a ∈ es.map f, a ≤ m) : m = mx (os.map f) := by
  have h0' := mx_nonneg (ns.map f)
  refine mx_of ?_ (by omega) fun a ha => ?_
  · rcases hm with rfl | hm
    · rcases mx_mem (ns.map f) with e | e
      · exact .inl e
      · obtain ⟨x, hx, e'⟩ := List.mem_map.mp e
        exact .inr (by rw [← e']; exact List.mem_map.mpr ⟨x, h1 x hx, rfl⟩)
    · obtain ⟨x, hx, e'⟩ := List.mem_map.mp hm
      exact .inr (by rw [← e']; exact List.mem_map.mpr ⟨x, h2 x hx, rfl⟩)
  · obtain ⟨x, hx, rfl⟩ := List.mem_map.mp ha
    rcases h3 x hx with q | q
    · exact Int.le_trans (mx_ge (List.mem_map.mpr ⟨x, q, rfl⟩)) hg
    · exact hh _ (List.mem_map.mpr ⟨x, q, rfl⟩)
end
end Lw
namespace L2
open PySem PySem.Spec PyProof.Rows Lw
section
variable {X : Cx} {K : PySem.W.Frag}
theorem call_intT : CallR X (.type "int") (fun xs H Q => ∃ (x : Str) (n : Int), xs = [.str x] ∧ intText? x = some n ∧ x.length ≤ 640 ∧ Q (.int n) H) := by
  intro pins s σ H xs us Q I r h
  obtain ⟨x, n, rfl, h1, h2, q⟩ := h
  obtain ⟨u, rfl, ru⟩ := vals1 r
  obtain ⟨t, rfl⟩ := ru
  exact PySem.W.KIN.call_text h1 h2 ⟨.int n, H, I.kept (t' := s.toks + 1) fun b o e => e, ⟨_, rfl⟩, q⟩
noncomputable def fIntT : OC := fun ds Φ => match ds with
  | [.str x] => ∃ n, intText? x = some n ∧ x.length ≤ 640 ∧ Φ (.val (.int n))
  | ds => fInt ds Φ
noncomputable def rIntT : List V → Hp → VK → Prop := fun xs H Q => ((∃ i, xs = [.int i] ∧ Q (.int i) H) ∨ ∃ k, xs = [.bl k] ∧ Q (.int (if k then 1 else 0)) H) ∨ ∃ (x : Str) (n : Int), xs = [.str x] ∧ intText? x = some n ∧ x.length ≤ 640 ∧ Q (.int n) H
theorem call_intA : CallR X (.type "int") rIntT := call_int1.or call_intT
theorem cd_intA : CallD K rIntT fIntT := by
  intro B L H ds xs Φ Q hd hp hf k
  unfold fIntT at hf
  split at hf
  · obtain ⟨x, rfl, px⟩ := peeks1 hp
    have := px.str_inv; subst this
    obtain ⟨n, h1, h2, hf⟩ := hf
    exact .inr ⟨_, n, rfl, h1, h2, k _ _ H hf (hd.pushF (.int _))⟩
  · exact .inl (cd_int B L H ds xs Φ Q hd hp hf k)
end
section
variable {n : Nat} {caps : List Nat} {ι : TId} {g : TGd} {te : TEd} {tt : TTd} {dk : List Addr} {ρ : List Sl} {Φ : Sl → List Sl → Prop} {α : Type}
theorem lc_at (xs : List α) (enc out : α → D) (p : α → Bool) (ρ1 : List Sl) (hι : ∀ Ψ : List D → List Sl → Prop, Ψ (xs.map enc) ρ1 → ι dk ρ Ψ) (hl : xs.length ≤ 100000)
    (hs : ∀ (i : Nat) x (ys : List D) (Nx : List D → List Sl → Prop), xs[i]? = some x → ys.length < 100000 → (p x = true → Nx (ys ++ [out x]) (capS caps ρ1)) → (p x = false → Nx ys (capS caps ρ1)) → g (enc x) (List.replicate n Sl.no ++ capS caps ρ1) fun ρ2 => tt dk ρ2 fun b ρ3 => if b = true then te dk ρ3 fun r ρ4 => match sd r with
      | some c => ys.length < 100000 ∧ Nx (ys ++ [c]) (ρ4.drop n)
      | none => False
      else Nx ys (ρ3.drop n))
    (hΦ : Φ (.own (.lst ((xs.filter p).map out))) (backS caps (capS caps ρ1) ρ1)) : eLC n caps ι g tt te dk ρ Φ := by
  refine hι _ ⟨fun i ys cs => ys = ((xs.take i).filter p).map out ∧ cs = capS caps ρ1, ⟨by simp, rfl⟩, ?_, ?_⟩
  · rintro i d ys cs hd _ ⟨e1, e2⟩
    rw [List.getElem?_map] at hd
    cases e : xs[i]? with
    | none => rw [e] at hd; cases hd
    | some x =>
      rw [e] at hd
      cases hd
      obtain ⟨hi, _⟩ := List.getElem?_eq_some_iff.mp e
      have tk : (xs.take (i + 1)).filter p = (xs.take i).filter p ++ (if p x = true then [x] else []) := by
        rw [List.take_add_one, e, List.filter_append]
        by_cases q : p x = true <;> simp [q]
      have len : ys.length < 100000 := by
        rw [e1, List.length_map]
        have h1 := List.length_filter_le p (xs.take i)
        rw [List.length_take] at h1
        omega
      rw [e2]
      refine hs i x ys (fun ys cs => ys = ((xs.take (i + 1)).filter p).map out ∧ cs = capS caps ρ1) e len (fun q => ⟨?_, rfl⟩) fun q => ⟨?_, rfl⟩
      · rw [tk, if_pos q, e1, List.map_append]; rfl
      · rw [tk, if_neg (by rw [q]; decide), List.append_nil]; exact e1
  · rintro ys cs _ ⟨e1, e2⟩
    rw [e1, e2, List.length_map, List.take_length]
    exact hΦ
theorem lc_all (xs : List α) (enc out : α → D) (ρ1 : List Sl) (hι : ∀ Ψ : List D → List Sl → Prop, Ψ (xs.map enc) ρ1 → ι dk ρ Ψ) (hl : xs.length ≤ 100000)
    (hs : ∀ (i : Nat) x (ys : List D) (Nx : List D → List Sl → Prop), xs[i]? = some x → ys.length < 100000 → Nx (ys ++ [out x]) (capS caps ρ1) → g (enc x) (List.replicate n Sl.no ++ capS caps ρ1) fun ρ2 => te dk ρ2 fun r ρ4 => match sd r with
      | some c => ys.length < 100000 ∧ Nx (ys ++ [c]) (ρ4.drop n)
      | none => False)
    (hΦ : Φ (.own (.lst (xs.map out))) (backS caps (capS caps ρ1) ρ1)) : eLC n caps ι g yesD te dk ρ Φ := by
  refine lc_at xs enc out (fun _ => true) ρ1 hι hl (fun i x ys Nx e h1 h2 _ => hs i x ys Nx e h1 (h2 rfl)) ?_
  have : xs.filter (fun _ => true) = xs := List.filter_eq_self.mpr fun _ _ => rfl
  rw [this]; exact hΦ
end
end L2
namespace Lw
open PySem L2
noncomputable def top (i : Nat) : Stmt := PySem.Challenge.pw_laidcells_k28_latest.main.body.getD i (.Pass ⟨0, 0, 0, 0⟩)
noncomputable abbrev s_carried_inputs : Stmt := top 1
noncomputable abbrev s_latest : Stmt := top 3
noncomputable abbrev s_gate_count : Stmt := top 4
noncomputable abbrev s_lates_to : Stmt := top 5
noncomputable abbrev s_at_edges : Stmt := top 6
noncomputable abbrev s_one_cell_more : Stmt := top 7
noncomputable abbrev s_told_lates : Stmt := top 8
noncomputable abbrev sDeck : Stmt := top 10
noncomputable abbrev sTake : Stmt := top 11
noncomputable abbrev sKept : Stmt := top 12
noncomputable abbrev sMade : Stmt := top 13
noncomputable abbrev sNames : Stmt := top 14
noncomputable abbrev sGate : Stmt := top 15
noncomputable abbrev s_law_row : Stmt := top 16
noncomputable abbrev s_law_kit : Stmt := top 17
noncomputable abbrev s_law_shuffled : Stmt := top 18
noncomputable abbrev s_law_words : Stmt := top 19
noncomputable abbrev s_law_made : Stmt := top 20
noncomputable abbrev s_law_latest : Stmt := top 22
noncomputable abbrev s_law_whole : Stmt := top 23
noncomputable abbrev s_law : Stmt := top 24
noncomputable abbrev sLaw : Stmt := top 24
structure Txt (mg : Str → Option Value) : Prop where
  len : mg "len" = none
  range : mg "range" = none
  sum : mg "sum" = none
  min : mg "min" = none
  max : mg "max" = none
  tuple : mg "tuple" = none
  list : mg "list" = none
  set : mg "set" = none
  dict : mg "dict" = none
  int : mg "int" = none
  str : mg "str" = none
  zip : mg "zip" = none
  enumerate : mg "enumerate" = none
  all : mg "all" = none
  any : mg "any" = none
  isinstance : mg "isinstance" = none
  sorted : mg "sorted" = none
  abs : mg "abs" = none
  reversed : mg "reversed" = none
  bool : mg "bool" = none
structure Gd (K : PySem.W.Frag) (mg : Str → Option Value) (x : Str) (st : Stmt) (ps : List Str) (f : Addr) (fd : FuncData) : Prop where
  F : Fun K x x st f fd
  m : mg x = some (.ref f)
  k : PySem.W.keepIn K (.ref f) = true
  b : Binds K fd ps []
noncomputable def spTake : Sp := fun vs H Q _ => ∃ (d c : Addr) (m : Int), vs = [.ref d, .int m] ∧ DeckAt H d c ∧ 0 < m ∧ m < 1000000 ∧ ∀ (r : Int) (H' : Hp), 0 ≤ r → r < m → DeckAt H' d c → Keep d c H H' → Q (.int r) H'
section
variable {P : Program} {w : World} {K : PySem.W.Frag} {mg : Str → Option Value} {base : Heap}
theorem scTake : FnScope ["deck", "many", "at", "cell"] ["deck", "many"] (defScope sTake) := ⟨rfl, rfl, rfl, by decide +kernel, rfl, by decide +kernel, by decide +kernel⟩
set_option maxHeartbeats 1000000 in
theorem ok_take {f : Addr} {fd : FuncData} (F : Fun K "_law_take" "_law_take" sTake f fd) (T : Txt mg) : FnOk P w K mg base CX0 1 f fd ["deck", "many"] spTake := by
  refine F.ok scTake (fun vs H Q E h => ?_) (fun cdv A outer s H vs Q E hr h => ?_)
  · obtain ⟨d, c, m, rfl, _⟩ := h
    rfl
  · obtain ⟨d, c, m, rfl, D, hm0, hm, k⟩ := h
    obtain ⟨ns, p, h1, h2, h3, h4⟩ := id D.ex
    have hdc := D.ne
    refine ⟨_, pss_cons (ps_set (i := 2) scTake.nd rfl (Or.inl rfl) (pe_op op_mod (pe_ix ix_list (pv 0) pe_int (fun _ _ => rfl)) (pe_callB call_len_seq (by rfl) T.len PySem.boot_len (pa_cons (pe_ix ix_list (pv 0) pe_int (fun _ _ => rfl)) pa_nil))))
      (pss_cons (ps_asg (pe_op op_add (pe_ix ix_list (pv 0) pe_int (fun _ _ => rfl)) pe_int) (pg_sub (pv 0) pe_int set_list))
      (pss_cons (ps_set (i := 3) scTake.nd rfl (Or.inl rfl) (pe_ix ix_list (pe_ix ix_list (pv 0) pe_int (fun _ _ => rfl)) (pv 2) (fun _ _ => rfl)))
      (pss_cons (ps_asg (pe_op op_fdiv (pv 3) (pv 1)) (pg_sub (pe_ix ix_list (pv 0) pe_int (fun _ _ => rfl)) (pv 2) set_list))
      (pss_one (ps_ret (pe_op op_mod (pv 3) (pv 1))))))), ?_⟩
    refine ⟨_, rfl, d, _, _, _, rfl, rfl, SqL.of h1, rfl, _, rfl, d, _, _, _, rfl, rfl, SqL.of h1, rfl, c, _, rfl, .inl (SqL.of h2), _, _, rfl, rfl, ?_, ?_⟩
    · rw [List.length_map]; omega
    · rw [List.length_map]
      have b0 := Int.emod_nonneg p (show (ns.length : Int) ≠ 0 by omega)
      have b1 := Int.emod_lt_of_pos p (show (0 : Int) < ns.length by omega)
      obtain ⟨j, hj⟩ := Int.eq_ofNat_of_zero_le b0
      have hjl : j < ns.length := by omega
      have hat : (ns.map V.int)[j]? = some (V.int ns[j]) := by simp [hjl]
      refine ⟨_, rfl, d, _, _, _, rfl, rfl, SqL.of h1, rfl, _, _, rfl, rfl, _, rfl, d, _, _, 1, rfl, rfl, h1, rfl, ?_⟩
      have g1 : upd H d (.lst ([V.ref c, V.int p].set 1 (V.int (p + 1)))) d = some (.lst [.ref c, .int (p + 1)]) := upd_same
      have g2 : upd H d (.lst ([V.ref c, V.int p].set 1 (V.int (p + 1)))) c = some (.lst (ns.map V.int)) := by rw [upd_ne hdc.symm]; exact h2
      refine ⟨_, rfl, d, _, _, _, rfl, rfl, SqL.of g1, rfl, _, rfl, c, _, _, V.int ns[j], rfl, rfl, SqL.of g2, (by rw [hj]; exact atI_nat hat), ?_⟩
      · refine ⟨_, rfl, _, rfl, _, _, rfl, rfl, ⟨hm0, by omega⟩, _, rfl, d, _, _, _, rfl, rfl, SqL.of g1, rfl, _, rfl, c, _, _, j, rfl, rfl, g2, ?_, ?_⟩
        · rw [hj, List.length_map]
          unfold ixN
          rw [if_pos (by omega), if_pos (by omega)]
          simp
        · refine ⟨_, rfl, _, rfl, _, _, rfl, rfl, hm0, ?_⟩
          refine k _ _ (Int.emod_nonneg _ (by omega)) (Int.emod_lt_of_pos _ hm0) ⟨ns.set j (ns[j] / m), p + 1, ?_, ?_, by rw [List.length_set]; exact h3, by rw [List.length_set]; exact h4⟩ ?_
          · rw [upd_ne hdc]; exact g1
          · rw [upd_same, List.map_set]
          · intro b o e n1 n2
            rw [upd_ne n2, upd_ne n1]; exact e
end
end Lw
namespace Lw
open PySem L2
theorem Same.new {p : Addr} {H : Hp} {o : HO} (h : H p = none) : Same H (upd H p o) := fun b u e => by rw [upd_ne (ne_of_none e h)]; exact e
theorem cutV_ints (ns : List Int) (lo hi : Option Int) : ∃ ms : List Int, cutV (ns.map V.int) lo hi = ms.map V.int ∧ ms.length ≤ ns.length := by
  refine ⟨(ns.drop (HT.sIx ns.length 0 lo)).take (HT.sIx ns.length ns.length hi - HT.sIx ns.length 0 lo), ?_, ?_⟩
  · unfold cutV; rw [List.length_map, List.map_take, List.map_drop]
  · rw [List.length_take, List.length_drop]; omega
noncomputable def spDeck (K : PySem.W.Frag) : Sp := fun vs H Q _ => ∃ (a : Addr) (ns : List Int), vs = [.ref a] ∧ SqL K H a (ns.map V.int) ∧ ns.length ≤ 63 ∧ ∀ (d c : Addr) (H' : Hp), DeckAt H' d c → H d = none → H c = none → Same H H' → Q (.ref d) H'
section
variable {P : Program} {w : World} {K : PySem.W.Frag} {mg : Str → Option Value} {base : Heap}
theorem scDeck : FnScope ["script", "cells", "k", "mixed"] ["script"] (defScope sDeck) := ⟨rfl, rfl, rfl, by decide +kernel, rfl, by decide +kernel, by decide +kernel⟩
set_option maxHeartbeats 2000000 in
theorem ok_deck {f : Addr} {fd : FuncData} (F : Fun K "_law_deck" "_law_deck" sDeck f fd) (T : Txt mg) : FnOk P w K mg base CX0 1 f fd ["script"] (spDeck K) := by
  refine F.ok scDeck (fun vs H Q E h => ?_) (fun cdv A outer s H vs Q E hr h => ?_)
  · obtain ⟨a, ns, rfl, _⟩ := h
    rfl
  · obtain ⟨a, ns, rfl, hS, hlen, k⟩ := h
    refine ⟨_, pss_cons (ps_set (i := 1) scDeck.nd rfl (Or.inl rfl) (pe_op op_cat (pe_slice sl_list (pv 0) po_none (po_some pe_int)) (pe_lst (pa_cons (pe_callB call_len_seq (by rfl) T.len PySem.boot_len (pa_cons (pv 0) pa_nil)) pa_nil))))
      (pss_cons (ps_if (pt_cmpR op_eq (pe_op op_mod (pe_callB (call_sum rfl) (by rfl) T.sum PyProof.Rows.boot_sum (pa_cons (pe_slice sl_list (pv 0) po_none (po_some pe_int)) pa_nil)) pe_int) pe_int (nomark _))
        (pss_one (ps_for PassesOwn.never rfl (pi_range1 rfl T.range (pa_cons (pe_callB call_len_seq (by rfl) T.len PySem.boot_len (pa_cons (pv 1) pa_nil)) pa_nil)) (pg_name (i := 2) scDeck.nd rfl (Or.inl rfl))
          (pss_cons (ps_set (i := 3) scDeck.nd rfl (Or.inl rfl) (pe_op op_mod (pe_op op_mul (pe_op op_add (pe_op op_add (pe_op op_mod (pe_ix ix_list (pv 1) (pv 2) (fun _ _ => rfl)) pe_int) (pe_op op_mul pe_int (pv 2))) pe_int) pe_int) pe_int))
          (pss_cons (ps_set (i := 3) scDeck.nd rfl (Or.inl rfl) (pe_op op_mod (pe_op op_mul (pe_op op_mod (pe_op op_add (pe_op op_mul (pv 3) (pv 3)) (pe_op op_mul pe_int (pv 2))) pe_int) pe_int) pe_int))
          (pss_one (ps_asg (pe_op op_add (pe_op op_mul (pe_op op_mul (pv 3) (pv 3)) pe_int) (pe_op op_mod (pe_op op_mul (pv 3) pe_int) pe_int)) (pg_sub (pv 1) (pv 2) set_list)))))))
        pss_nil)
      (pss_one (ps_ret (pe_lst (pa_cons (pv 1) (pa_cons pe_int pa_nil)))))), ?_⟩
    obtain ⟨ms, em, hms⟩ := cutV_ints ns none (some 63)
    refine ⟨_, rfl, _, rfl, a, _, rfl, hS, fun p1 n1 => ?_⟩
    have s1 : Same H (upd H p1 (.lst (cutV (ns.map V.int) none (some 63)))) := Same.new n1
    rw [em] at s1 ⊢
    refine ⟨_, rfl, a, _, rfl, .inl (s1.seq hS), (by show 1 ≤ sizeLine; decide), fun p2 n2 => ?_⟩
    have s2 := s1.trans (Same.new (o := .lst [V.int ((ns.map V.int).length : Nat)]) n2)
    have q1 : upd (upd H p1 (.lst (ms.map V.int))) p2 (.lst [V.int ((ns.map V.int).length : Nat)]) p1 = some (.lst (ms.map V.int)) := by rw [upd_ne (ne_of_none upd_same n2)]; exact upd_same
    refine ⟨p1, p2, _, _, rfl, rfl, q1, upd_same, ?_, fun c nc => ?_⟩
    · rw [List.length_map]; exact Nat.le_trans (show ms.length + 1 ≤ 64 by omega) (by decide)
    have s3 := s2.trans (Same.new (o := .lst (ms.map V.int ++ [V.int ((ns.map V.int).length : Nat)])) nc)
    have ec : ms.map V.int ++ [V.int ((ns.map V.int).length : Nat)] = (ms ++ [((ns.map V.int).length : Int)]).map V.int := by simp
    rw [ec] at s3 ⊢
    generalize hcs : ms ++ [((ns.map V.int).length : Int)] = cs at s3
    have hcl : 0 < cs.length ∧ cs.length ≤ 64 := by rw [← hcs, List.length_append, List.length_singleton]; omega
    have hc0 : H c = none := s2.free nc
    generalize hH3 : upd (upd (upd H p1 (.lst (ms.map V.int))) p2 (.lst [V.int ((ns.map V.int).length : Nat)])) c (.lst (cs.map V.int)) = H3 at s3
    have c3 : H3 c = some (.lst (cs.map V.int)) := by rw [← hH3]; exact upd_same
    have fin : ∀ (cs' : List Int) (v2 v3 : Option V) (H4 : Hp), Same H H4 → H4 c = some (.lst (cs'.map V.int)) → 0 < cs'.length → cs'.length ≤ 64 →
        (tRet (tLst (tCons (tVar 1) (tCons (tC (.int 0)) tNil)))) { nx := fun _ H' => Q .non H', rt := Q } [some (.ref a), some (.ref c), v2, v3] H4 := by
      intro cs' v2 v3 H4 s4 c4 l1 l2
      refine ⟨_, rfl, (by show 2 ≤ sizeLine; decide), fun d nd => ?_⟩
      refine k d c _ ⟨cs', 0, upd_same, by rw [upd_ne (ne_of_none c4 nd)]; exact c4, l1, by omega⟩ (s4.free nd) hc0 (s4.trans (Same.new nd))
    refine ⟨_, rfl, _, rfl, a, _, rfl, s3.seq hS, fun p4 n4 => ?_⟩
    rw [em]
    have s4 := s3.trans (Same.new (o := .lst (ms.map V.int)) n4)
    have c4 : upd H3 p4 (.lst (ms.map V.int)) c = some (.lst (cs.map V.int)) := by rw [upd_ne (ne_of_none c3 n4)]; exact c3
    refine ⟨p4, ms, rfl, SqL.of upd_same, _, _, rfl, rfl, (by show (0 : Int) < 2; decide), rfl, _, rfl, ?_⟩
    refine ite2 (fun _ => ?_) (fun _ => ?_)
    · refine ⟨_, rfl, c, _, rfl, .inl (SqL.of c4), _, rfl, by omega, by rw [List.length_map]; omega, ?_⟩
      rw [List.length_map, Int.toNat_natCast]
      refine for_range (lo := 0) (n := cs.length) (fun i σ H5 => ∃ (cs' : List Int) (v2 v3 : Option V), σ = [some (.ref a), some (.ref c), v2, v3] ∧ Same H H5 ∧ H5 c = some (.lst (cs'.map V.int)) ∧ cs'.length = cs.length)
        ⟨cs, none, none, rfl, s4, c4, rfl⟩ ?_ ?_
      · rintro i σ H5 hi ⟨cs', v2, v3, rfl, s5, c5, hl⟩
        have hat : (cs'.map V.int)[i]? = some (V.int (cs'[i]'(by omega))) := by simp [hl, hi]
        refine ⟨_, rfl, _, rfl, c, _, _, V.int (cs'[i]'(by omega)), rfl, rfl, SqL.of c5, (by rw [Int.zero_add]; exact atI_nat hat), _, _, rfl, rfl, (by show (0 : Int) < 2147483587; decide), _, rfl, _, _, rfl, rfl, .inl (by decide), _, _, rfl, rfl, _, _, rfl, rfl, _, _, rfl, rfl, .inr (by decide), _, _, rfl, rfl, (by show (0 : Int) < 2147483629; decide), ?_⟩
        refine ⟨_, rfl, _, rfl, _, _, rfl, rfl, .inl ?_, _, rfl, _, _, rfl, rfl, .inl (by decide), _, _, rfl, rfl, _, _, rfl, rfl, (by show (0 : Int) < 2147483563; decide), _, _, rfl, rfl, .inr (by decide), _, _, rfl, rfl, (by show (0 : Int) < 2147483549; decide), ?_⟩
        · have b0 := Int.emod_nonneg ((cs'[i]'(by omega) % 2147483587 + 853 * (0 + (i : Int)) + 11) * 69621) (show (2147483629 : Int) ≠ 0 by decide)
          have b1 := Int.emod_lt_of_pos ((cs'[i]'(by omega) % 2147483587 + 853 * (0 + (i : Int)) + 11) * 69621) (show (0 : Int) < 2147483629 by decide)
          exact ⟨by omega, by omega⟩
        generalize hM : ((cs'[i]'(by omega) % 2147483587 + 853 * (0 + (i : Int)) + 11) * 69621 % 2147483629) = M
        have b0 := Int.emod_nonneg ((M * M + 31 * (0 + (i : Int))) % 2147483563 * 16807) (show (2147483549 : Int) ≠ 0 by decide)
        have b1 := Int.emod_lt_of_pos ((M * M + 31 * (0 + (i : Int))) % 2147483563 * 16807) (show (0 : Int) < 2147483549 by decide)
        refine ⟨_, rfl, _, rfl, _, _, rfl, rfl, .inl ?_, _, _, rfl, rfl, .inr (by decide), _, rfl, _, _, rfl, rfl, .inl ?_, _, _, rfl, rfl, (by show (0 : Int) < 2147483579; decide), _, _, rfl, rfl, _, rfl, _, rfl, c, _, _, i, rfl, rfl, c5, ?_, ?_⟩
        · exact ⟨by omega, by omega⟩
        · exact ⟨by omega, by omega⟩
        · rw [List.length_map]
          unfold ixN
          rw [if_pos (by omega), if_pos (by omega)]
          congr 1
          omega
        · refine ⟨cs'.set i _, _, _, rfl, ?_, by rw [upd_same, List.map_set], by rw [List.length_set]; exact hl⟩
          intro b o e
          rw [upd_ne (ne_of_none e hc0)]; exact s5 b o e
      · rintro σ H5 ⟨cs', v2, v3, rfl, s5, c5, hl⟩
        exact fin cs' v2 v3 H5 s5 c5 (by omega) (by omega)
    · exact fin cs none none _ s4 c4 hcl.1 hcl.2
end
end Lw
namespace Lw
open PySem L2
structure LS (n m : Nat) (x : Str) : Prop where
  az : ∀ c ∈ x.cps.toList, 97 ≤ c ∧ c ≤ 122
  lo : n ≤ x.length
  hi : x.length ≤ m
theorem app_list (x y : Str) : (x ++ y).cps.toList = x.cps.toList ++ y.cps.toList := by
  show (x.cps ++ y.cps).toList = _
  simp
theorem app_len (x y : Str) : (x ++ y).length = x.length + y.length := by
  show (x.cps ++ y.cps).size = _
  simp [Str.length]
theorem LS.app {a b c d : Nat} {x y : Str} (h : LS a b x) (g : LS c d y) : LS (a + c) (b + d) (x ++ y) :=
  ⟨fun z hz => by rw [app_list] at hz; exact (List.mem_append.mp hz).elim (h.az z) (g.az z), by rw [app_len]; have := h.lo; have := g.lo; omega, by rw [app_len]; have := h.hi; have := g.hi; omega⟩
theorem LS.weak {a b c d : Nat} {x : Str} (h : LS a b x) (h1 : c ≤ a) (h2 : b ≤ d) : LS c d x := ⟨h.az, Nat.le_trans h1 h.lo, Nat.le_trans h.hi h2⟩
noncomputable def lsB (n m : Nat) (x : Str) : Bool := x.cps.toList.all (fun c => decide (97 ≤ c) && decide (c ≤ 122)) && decide (n ≤ x.length) && decide (x.length ≤ m)
theorem LS.of {n m : Nat} {x : Str} (h : lsB n m x = true) : LS n m x := by
  unfold lsB at h
  simp only [Bool.and_eq_true, List.all_eq_true, decide_eq_true_eq] at h
  exact ⟨h.1.1, h.1.2, h.2⟩
theorem LS.cutL {n : Nat} {z : Str} (h : LS n n z) {k : Nat} (hk : k ≤ n) : LS k k (cutS z none (some (k : Int))) := by
  have e : z.length = n := Nat.le_antisymm h.hi h.lo
  have e1 : HT.sIx z.length z.length (some (k : Int)) = k := by rw [HT.sIx_nat]; omega
  have e2 : (cutS z none (some (k : Int))).cps.toList = z.cps.toList.take k := by
    show ((z.cps.toList.drop (HT.sIx z.length 0 none)).take _).toArray.toList = _
    rw [e1, HT.sIx_none]; simp
  have el : (cutS z none (some (k : Int))).length = k := by
    rw [← str_len_list, e2, List.length_take, str_len_list]; omega
  exact ⟨fun c hc => by rw [e2] at hc; exact h.az c (List.mem_of_mem_take hc), by omega, by omega⟩
theorem LS.cutR {n : Nat} {z : Str} (h : LS n n z) {k : Nat} (hk : k ≤ n) : LS (n - k) (n - k) (cutS z (some (k : Int)) none) := by
  have e : z.length = n := Nat.le_antisymm h.hi h.lo
  have e1 : HT.sIx z.length 0 (some (k : Int)) = k := by rw [HT.sIx_nat]; omega
  have e2 : (cutS z (some (k : Int)) none).cps.toList = z.cps.toList.drop k := by
    show ((z.cps.toList.drop (HT.sIx z.length 0 (some (k : Int)))).take _).toArray.toList = _
    rw [e1, HT.sIx_none]
    simp only [List.toList_toArray]
    rw [List.take_of_length_le]
    rw [List.length_drop, str_len_list]; omega
  have el : (cutS z (some (k : Int)) none).length = n - k := by
    rw [← str_len_list, e2, List.length_drop, str_len_list]; omega
  exact ⟨fun c hc => by rw [e2] at hc; exact h.az c (List.mem_of_mem_drop hc), by omega, by omega⟩
theorem LS.sign {c : Nat} (h : 97 ≤ c ∧ c ≤ 122) : LS 1 1 ⟨#[c]⟩ := ⟨fun d hd => by simp at hd; subst hd; exact h, Nat.le_refl _, Nat.le_refl _⟩
theorem glue_signs : ∀ (ys : List Str), (∀ y ∈ ys, LS 1 1 y) → LS ys.length ys.length (Str.join "" ys)
  | [], _ => ⟨fun c hc => (nomatch hc), Nat.le_refl _, Nat.le_refl _⟩
  | [x], h => h x List.mem_cons_self
  | x :: y :: r, h => by
    have h1 := h x List.mem_cons_self
    have h2 := glue_signs (y :: r) fun z hz => h z (List.mem_cons_of_mem _ hz)
    have e0 : LS 0 0 (Str.ofString "") := LS.of (by decide +kernel)
    have := (h1.app e0).app h2
    show LS _ _ (x ++ (Str.ofString "") ++ Str.join "" (y :: r))
    exact this.weak (by simp; omega) (by simp; omega)
theorem at_in {α : Type} {xs : List α} {i : Int} (h0 : 0 ≤ i) (h1 : i < xs.length) : ∃ v, atI xs i = some v ∧ v ∈ xs := by
  obtain ⟨j, rfl⟩ := Int.eq_ofNat_of_zero_le h0
  have hj : j < xs.length := by omega
  exact ⟨xs[j], atI_nat (List.getElem?_eq_getElem hj), List.getElem_mem hj⟩
theorem at_str {xs : List Str} {i : Int} (h0 : 0 ≤ i) (h1 : i < xs.length) : ∃ x, atI (xs.map V.str) i = some (V.str x) ∧ x ∈ xs := by
  obtain ⟨j, rfl⟩ := Int.eq_ofNat_of_zero_le h0
  have hj : j < xs.length := by omega
  exact ⟨xs[j], atI_nat (by simp [hj]), List.getElem_mem hj⟩
noncomputable def lettersS : Str := "abcdefghijklmnopqrstuvwxyz"
theorem letters_len : lettersS.length = 26 := by decide +kernel
theorem letters_at {i : Int} (h0 : 0 ≤ i) (h1 : i < 26) : ∃ c, atI lettersS.cps.toList i = some c ∧ 97 ≤ c ∧ c ≤ 122 := by
  obtain ⟨c, e, m⟩ := at_in (xs := lettersS.cps.toList) h0 (by rw [str_len_list, letters_len]; exact h1)
  have h : LS 26 26 lettersS := LS.of (by decide +kernel)
  exact ⟨c, e, h.az c m⟩
noncomputable def keptS : List Str := ["and", "or", "odd", "most", "not", "one", "nil", "in", "out"]
theorem kept_ls {x : Str} (h : x ∈ keptS) : LS 2 4 x := by
  have : keptS.all (lsB 2 4) = true := by decide +kernel
  exact LS.of (List.all_eq_true.mp this x h)
structure GoodName (x : Str) : Prop where
  ls : LS 1 8 x
  nk : x ∉ keptS
end Lw
namespace Lw
open PySem L2
noncomputable def spKept : Sp := fun vs H Q _ => vs = [] ∧ ∀ l, H l = none → Q (.ref l) (upd H l (.lst (keptS.map V.str)))
noncomputable def spMade : Sp := fun vs H Q _ => ∃ (d c : Addr) (m : Nat), vs = [.ref d, .int m] ∧ DeckAt H d c ∧ m ≤ 40 ∧ ∀ (l : Addr) (xs : List Str) (H' : Hp), H l = none → H' l = some (.lst (xs.map V.str)) → xs.length = m → (∀ x ∈ xs, LS 1 8 x) →
  DeckAt H' d c → Keep d c H H' → Q (.ref l) H'
theorem Keep.free {d c l : Addr} {H H' : Hp} (k : Keep d c H H') (h1 : l ≠ d) (h2 : l ≠ c) (h : H' l = none) : H l = none := by
  cases e : H l with
  | none => rfl
  | some o => rw [k l o e h1 h2] at h; cases h
theorem map_len_le {ys : List Str} {n m : Nat} (h : ∀ y ∈ ys, y.length ≤ m) (hn : ys.length ≤ n) : (ys.map (·.length)).sum ≤ n * m := by
  have : ∀ ys : List Str, (∀ y ∈ ys, y.length ≤ m) → (ys.map (·.length)).sum ≤ ys.length * m := by
    intro ys
    induction ys with
    | nil => intro _; simp
    | cons a r ih =>
      intro h
      have h1 := h a List.mem_cons_self
      have h2 := ih fun y hy => h y (List.mem_cons_of_mem _ hy)
      simp only [List.map_cons, List.sum_cons, List.length_cons, Nat.add_mul, Nat.one_mul]
      omega
  exact Nat.le_trans (this ys h) (Nat.mul_le_mul_right m hn)
theorem small_size {n : Nat} (h : n ≤ 1000) : n ≤ sizeLine := Nat.le_trans h (by decide)
section
variable {P : Program} {w : World} {K : PySem.W.Frag} {mg : Str → Option Value} {base : Heap}
theorem scKept : FnScope [] [] (defScope sKept) := ⟨rfl, rfl, rfl, by decide +kernel, rfl, by decide +kernel, by decide +kernel⟩
theorem ok_kept {f : Addr} {fd : FuncData} (F : Fun K "_law_kept" "_law_kept" sKept f fd) : FnOk P w K mg base CX0 1 f fd [] spKept := by
  refine F.ok scKept (fun vs H Q E h => ?_) (fun cdv A outer s H vs Q E hr h => ?_)
  · obtain ⟨rfl, _⟩ := h
    rfl
  · obtain ⟨rfl, k⟩ := h
    refine ⟨_, @pss_one _ _ _ (@ps_ret _ _ _ _ (@pe_lst _ _ _ _ (@pa_strs _ [("and", _, _), ("or", _, _), ("odd", _, _), ("most", _, _), ("not", _, _), ("one", _, _), ("nil", _, _), ("in", _, _), ("out", _, _)]))), ?_⟩
    have hz : 9 ≤ sizeLine := by decide
    refine ⟨hz, ?_⟩
    exact k
theorem scMade : FnScope ["deck", "many", "letters", "base", "at", "shift", "way", "names", "k", "sign", "word", "name"] ["deck", "many"] (defScope sMade) := ⟨rfl, rfl, rfl, by decide +kernel, rfl, by decide +kernel, by decide +kernel⟩
theorem ndMade : (["k", "letters", "deck"] : List Str).Nodup := by decide +kernel
theorem q01 {i : Int} (h0 : 0 ≤ i) (h1 : i < 2) (q : Str) (hq : LS 0 1 q) : ∃ x, atI [V.str "", V.str q] i = some (V.str x) ∧ LS 0 1 x := by
  have : i = 0 ∨ i = 1 := by omega
  rcases this with rfl | rfl
  · exact ⟨"", rfl, LS.of (by decide +kernel)⟩
  · exact ⟨q, rfl, hq⟩
set_option maxHeartbeats 4000000 in
theorem ok_made {f fT fK : Addr} {fd fdT fdK : FuncData} (F : Fun K "_law_made_names" "_law_made_names" sMade f fd) (T : Txt mg) (gT : Gd K mg "_law_take" sTake ["deck", "many"] fT fdT) (gK : Gd K mg "_law_kept" sKept [] fK fdK) :
    FnOk P w K mg base CX0 2 f fd ["deck", "many"] spMade := by
  have GT : FnOk P w K mg base CX0 1 fT fdT ["deck", "many"] spTake := ok_take gT.F T
  have GK : FnOk P w K mg base CX0 1 fK fdK [] spKept := ok_kept gK.F
  refine F.ok scMade (fun vs H Q E h => ?_) (fun cdv A outer s H vs Q E hr h => ?_)
  · obtain ⟨d, c, m, rfl, _⟩ := h
    rfl
  · obtain ⟨d, c, m, rfl, D, hm, k⟩ := h
    refine ⟨_, pss_cons (ps_set (i := 2) scMade.nd rfl (Or.inr rfl) pe_str)
      (pss_cons (ps_set (i := 3) scMade.nd rfl (Or.inl rfl) (pe_bm PySem.F.plainAttrs_str PySem.F.slot_str_join PySem.F.type_str_join mt_join pe_str (pa_c
        (pe_lc ["k"] ["letters", "deck"] [2, 0] rfl (pi_range1 rfl T.range (pa_c (pe_call GT hr rfl gT.m gT.k gT.b .nil pass0 (pa_c (pv 0) (pa_c pe_int pa_nil))) pa_nil)) rfl rfl
          (fun s₀ H₀ C cl fp => pg_name (i := 0) ndMade rfl (Or.inl rfl)) (fun s₀ H₀ C cl fp => pifs_nil)
          (fun s₀ H₀ C cl fp => pe_ix ix_str (pv 1) (pe_call GT hr rfl gT.m gT.k gT.b .nil pass0 (pa_c (pv 2) (pa_c pe_int pa_nil))) (fun _ _ => rfl))) pa_nil)))
      (pss_cons (ps_set (i := 4) scMade.nd rfl (Or.inl rfl) (pe_call GT hr rfl gT.m gT.k gT.b .nil pass0 (pa_c (pv 0) (pa_c (pe_op op_add (pe_callB call_len_str (by rfl) T.len PySem.boot_len (pa_c (pv 3) pa_nil)) pe_int) pa_nil))))
      (pss_cons (ps_set (i := 5) scMade.nd rfl (Or.inl rfl) (pe_call GT hr rfl gT.m gT.k gT.b .nil pass0 (pa_c (pv 0) (pa_c pe_int pa_nil))))
      (pss_cons (ps_set (i := 6) scMade.nd rfl (Or.inl rfl) (pe_call GT hr rfl gT.m gT.k gT.b .nil pass0 (pa_c (pv 0) (pa_c pe_int pa_nil))))
      (pss_cons (ps_set (i := 7) scMade.nd rfl (Or.inl rfl) (pe_lst pa_nil))
      (pss_cons (ps_for PassesOwn.never rfl (pi_range1 rfl T.range (pa_c (pv 1) pa_nil)) (pg_name (i := 8) scMade.nd rfl (Or.inl rfl))
        (pss_cons (ps_set (i := 9) scMade.nd rfl (Or.inl rfl) (pe_ix ix_str (pv 2) (pe_op op_mod (pe_op op_add (pv 5) (pv 8)) pe_int) (fun _ _ => rfl)))
        (pss_cons (ps_set (i := 10) scMade.nd rfl (Or.inl rfl) (pe_ix ix_list (pe_call0 GK hr rfl gK.m gK.k gK.b .nil pass0) (pe_op op_mod (pe_op op_add (pv 5) (pv 8)) pe_int) (fun _ _ => rfl)))
        (pss_cons (ps_set (i := 11) scMade.nd rfl (Or.inl rfl) (pe_op op_add_str (pe_op op_add_str (pe_op op_add_str (pe_op op_add_str (pe_slice sl_str (pv 3) po_none (po_some (pv 4))) (pv 9))
          (pe_ix ix_list (pe_lst (pa_c pe_str (pa_c pe_str pa_nil))) (pe_op op_mod (pv 8) pe_int) (fun _ _ => rfl))) (pe_slice sl_str (pv 3) (po_some (pv 4)) po_none)) (pe_ix ix_list (pe_lst (pa_c pe_str (pa_c pe_str pa_nil))) (pe_op op_fdiv (pv 8) pe_int) (fun _ _ => rfl))))
        (pss_one (ps_expr (pe_bm PySem.F.plainAttrs_list PySem.F.slot_list_append PySem.F.type_list_append mt_append (pv 7) (pa_c (pe_ix ix_list (pe_lst (pa_c (pv 11) (pa_c (pe_op op_add_str (pv 9) (pv 10)) (pa_c (pe_op op_add_str (pv 10) (pv 9))
          (pa_c (pe_op op_add_str (pe_op op_add_str (pv 9) (pv 10)) (pe_ix ix_str (pv 2) (pe_op op_mod (pv 8) pe_int) (fun _ _ => rfl))) pa_nil))))) (pv 6) (fun _ _ => rfl)) pa_nil))))))))
      (pss_one (ps_ret (pv 7))))))))), ?_⟩
    refine ⟨rfl, _, rfl, d, c, 6, rfl, D, by decide, by decide, fun r1 H1 a0 a1 D1 k1 => ⟨_, rfl, by omega, by omega, fun D0 nD0 => ?_⟩⟩
    have nd0 := D1.ned nD0
    have hHD : H D0 = none := k1.free nd0.1 nd0.2 nD0
    refine lc1y yields_range (fun i ys H2 => ∃ zs : List Str, ys = zs.map V.str ∧ zs.length = i ∧ (∀ z ∈ zs, LS 1 1 z) ∧ DeckAt H2 d c ∧ Keep d c H H2 ∧ H2 D0 = some (.lst ys))
      ⟨[], rfl, rfl, (fun z hz => nomatch hz), D1.new nD0, k1.trans (Keep.new nD0), upd_same⟩ (fun _ _ _ _ _ => True.intro) ?_ ?_
    · rintro i x ys H2 hx ⟨zs, rfl, hl, hzs, D2, k2, hD⟩
      have hi : i < 6 := by
        have := (List.getElem?_eq_some_iff.mp hx).1
        simp at this
        omega
      refine ⟨_, rfl, _, rfl, d, c, 26, rfl, D2, by decide, by decide, fun r H3 b0 b1 D3 k3 => ?_⟩
      obtain ⟨cc, hat, hcc⟩ := letters_at b0 b1
      have hD3 := k3 D0 _ hD nd0.1 nd0.2
      refine ⟨lettersS, _, cc, rfl, rfl, (by rw [letters_len]; decide), hat, ⟨_, rfl⟩, hD3, (by rw [List.length_map]; exact Nat.lt_of_lt_of_le (show zs.length < 1000 by omega) (by decide)), zs ++ [⟨#[cc]⟩], by simp, by simp [hl], fun z hz => ?_, D3.upd_other nd0.1 nd0.2, ?_, upd_same⟩
      · rcases List.mem_append.mp hz with q | q
        · exact hzs z q
        · rw [List.mem_singleton.mp q]; exact LS.sign hcc
      · exact fun b o e h1 h2 => by rw [upd_ne (ne_of_none e hHD)]; exact k3 b o (k2 b o e h1 h2) h1 h2
    · rintro ys H2 ⟨zs, rfl, hl, hz, D2, k2, hD⟩
      rw [List.length_map, List.length_range] at hl
      have hB := glue_signs zs hz
      have hBl : zs.length ≤ 5 := by omega
      refine ⟨"", D0, zs, rfl, rfl, .inl (SqL.of hD), ?_, ?_⟩
      · have h1 := map_len_le (m := 1) (fun y hy => (hz y hy).hi) hBl
        have h2 : (Str.ofString "").length = 0 := by decide +kernel
        rw [h2]; omega
      have ej : Txt.join (Str.ofString "") zs = Str.join (Str.ofString "") zs := StrLaws.glued_eq_join _ _
      rw [ej]
      generalize Str.join (Str.ofString "") zs = B at hB
      have eB : B.length = zs.length := Nat.le_antisymm hB.hi hB.lo
      refine ⟨_, rfl, _, rfl, B, rfl, small_size (by omega), _, _, rfl, rfl, d, c, _, rfl, D2, by omega, by omega, fun r2 H3 b0 b1 D3 k3 => ?_⟩
      refine ⟨_, rfl, d, c, 26, rfl, D3, by decide, by decide, fun r3 H4 c0 c1 D4 k4 => ?_⟩
      refine ⟨_, rfl, d, c, 4, rfl, D4, by decide, by decide, fun r4 H5 d0 d1 D5 k5 => ?_⟩
      refine ⟨(by show 0 ≤ sizeLine; decide), fun l nl => ?_⟩
      have kk : Keep d c H H5 := ((k2.trans k3).trans k4).trans k5
      have nl2 := D5.ned nl
      have hHl : H l = none := kk.free nl2.1 nl2.2 nl
      obtain ⟨at', rfl⟩ := Int.eq_ofNat_of_zero_le b0
      refine ⟨_, rfl, _, rfl, by omega, by omega, ?_⟩
      rw [Int.toNat_natCast]
      refine for_range (lo := 0) (n := m) (fun i σ H6 => ∃ (xs : List Str) (v8 v9 v10 v11 : Option V), σ = [some (.ref d), some (.int m), some (.str lettersS), some (.str B), some (.int at'), some (.int r3), some (.int r4), some (.ref l), v8, v9, v10, v11] ∧
          xs.length = i ∧ (∀ x ∈ xs, LS 1 8 x) ∧ H6 l = some (.lst (xs.map V.str)) ∧ DeckAt H6 d c ∧ Keep d c H H6)
        ⟨[], none, none, none, none, rfl, rfl, (fun z hz => nomatch hz), upd_same, D5.new nl, kk.trans (Keep.new nl)⟩ ?_ ?_
      · rintro i σ H6 hi ⟨xs, v8, v9, v10, v11, rfl, hl6, hx6, h6, D6, k6⟩
        have e26 : ∀ z : Int, 0 ≤ z % 26 ∧ z % 26 < 26 := fun z => ⟨Int.emod_nonneg z (by decide), Int.emod_lt_of_pos z (by decide)⟩
        have e9 : ∀ z : Int, 0 ≤ z % 9 ∧ z % 9 < 9 := fun z => ⟨Int.emod_nonneg z (by decide), Int.emod_lt_of_pos z (by decide)⟩
        have e2 : ∀ z : Int, 0 ≤ z % 2 ∧ z % 2 < 2 := fun z => ⟨Int.emod_nonneg z (by decide), Int.emod_lt_of_pos z (by decide)⟩
        obtain ⟨cc, hat1, hcc⟩ := letters_at (e26 (r3 + (0 + (i : Int)))).1 (e26 _).2
        obtain ⟨wd, hat2, hwd⟩ := at_str (xs := keptS) (e9 (r3 + (0 + (i : Int)))).1 (by exact (e9 _).2)
        obtain ⟨x1, hat3, hx1⟩ := q01 (e2 (0 + (i : Int))).1 (e2 _).2 "q" (LS.of (by decide +kernel))
        obtain ⟨x2, hat4, hx2⟩ := q01 (i := (0 + (i : Int)) / 26) (by omega) (by omega) "w" (LS.of (by decide +kernel))
        obtain ⟨c5, hat5, hc5⟩ := letters_at (e26 (0 + (i : Int))).1 (e26 _).2
        have hS := LS.sign hcc
        have hW := kept_ls hwd
        have hatn : at' ≤ zs.length := by omega
        have hP := hB.cutL hatn
        have hR := hB.cutR hatn
        have n1 := hP.app hS
        have n2 := n1.app hx1
        have n3 := n2.app hR
        have n4 := n3.app hx2
        have w1 := hS.app hW
        have w2 := hW.app hS
        have w3 := w1.app (LS.sign hc5)
        have sz : ∀ {a b c' d' : Nat} {x y : Str}, LS a b x → LS c' d' y → b + d' ≤ 100 → x.length + y.length ≤ sizeLine := fun g1 g2 hb => small_size (by have := g1.hi; have := g2.hi; omega)
        have lsz : lettersS.length ≤ sizeLine := by rw [letters_len]; decide
        have bsz : B.length ≤ sizeLine := small_size (by omega)
        refine ⟨_, rfl, _, rfl, _, rfl, _, _, rfl, rfl, _, _, rfl, rfl, (by show (0 : Int) < 26; decide), lettersS, _, cc, rfl, rfl, lsz, hat1, ?_⟩
        refine ⟨rfl, fun p np => ?_⟩
        have D7 : DeckAt (upd H6 p (.lst (keptS.map V.str))) d c := D6.new np
        refine ⟨_, rfl, _, rfl, _, _, rfl, rfl, _, _, rfl, rfl, (by show (0 : Int) < 9; decide), p, _, _, .str wd, rfl, rfl, SqL.of upd_same, hat2, ?_⟩
        have k7 : Keep d c H (upd H6 p (.lst (keptS.map V.str))) := k6.trans (Keep.new np)
        have h7 : upd H6 p (.lst (keptS.map V.str)) l = some (.lst (xs.map V.str)) := by rw [upd_ne (ne_of_none h6 np)]; exact h6
        generalize upd H6 p (.lst (keptS.map V.str)) = H7 at D7 k7 h7 ⊢
        refine ⟨_, rfl, _, rfl, _, rfl, B, rfl, bsz, _, rfl, _, _, rfl, rfl, sz hP hS (by omega), (by show 2 ≤ sizeLine; decide), fun p2 np2 => ?_⟩
        have D8 := D7.new (o := .lst [V.str (Str.ofString ""), V.str (Str.ofString "q")]) np2
        have k8 := k7.trans (Keep.new (d := d) (c := c) (o := .lst [V.str (Str.ofString ""), V.str (Str.ofString "q")]) np2)
        have h8 : upd H7 p2 (.lst [V.str (Str.ofString ""), V.str (Str.ofString "q")]) l = some (.lst (xs.map V.str)) := by rw [upd_ne (ne_of_none h7 np2)]; exact h7
        refine ⟨_, rfl, _, _, rfl, rfl, (by show (0 : Int) < 2; decide), p2, _, _, .str x1, rfl, rfl, SqL.of upd_same, hat3, _, _, rfl, rfl, sz n1 hx1 (by omega), _, rfl, _, rfl, _, rfl, B, rfl, bsz, _, _, rfl, rfl, sz n2 hR (by omega), (by show 2 ≤ sizeLine; decide), fun p3 np3 => ?_⟩
        generalize upd H7 p2 (.lst [V.str (Str.ofString ""), V.str (Str.ofString "q")]) = H8 at D8 k8 h8 np3 ⊢
        have D9 := D8.new (o := .lst [V.str (Str.ofString ""), V.str (Str.ofString "w")]) np3
        have k9 := k8.trans (Keep.new (d := d) (c := c) (o := .lst [V.str (Str.ofString ""), V.str (Str.ofString "w")]) np3)
        have h9 : upd H8 p3 (.lst [V.str (Str.ofString ""), V.str (Str.ofString "w")]) l = some (.lst (xs.map V.str)) := by rw [upd_ne (ne_of_none h8 np3)]; exact h8
        refine ⟨_, rfl, _, _, rfl, rfl, ⟨by decide, by decide⟩, p3, _, _, .str x2, rfl, rfl, SqL.of upd_same, hat4, _, _, rfl, rfl, sz n3 hx2 (by omega), ?_⟩
        generalize upd H8 p3 (.lst [V.str (Str.ofString ""), V.str (Str.ofString "w")]) = H9 at D9 k9 h9 ⊢
        generalize hNm : (cutS B none (some (at' : Int)) ++ (⟨#[cc]⟩ : Str) ++ x1 ++ cutS B (some (at' : Int)) none ++ x2) = nm at n4
        refine ⟨_, rfl, .inl ⟨rfl, _, SqL.of h9⟩, _, rfl, _, rfl, _, rfl, _, _, rfl, rfl, sz hS hW (by omega), _, rfl, _, rfl, _, _, rfl, rfl, sz hW hS (by omega), _, rfl, _, rfl, _, _, rfl, rfl, sz hS hW (by omega), _, rfl, _, rfl, _, _, rfl, rfl, (by show (0 : Int) < 26; decide), lettersS, _, c5, rfl, rfl, lsz, hat5, _, _, rfl, rfl, sz w1 (LS.sign hc5) (by omega),
          (by show 4 ≤ sizeLine; decide), fun p4 np4 => ?_⟩
        obtain ⟨z, hat6, hz6⟩ := at_str (xs := [nm, (⟨#[cc]⟩ : Str) ++ wd, wd ++ (⟨#[cc]⟩ : Str), (⟨#[cc]⟩ : Str) ++ wd ++ (⟨#[c5]⟩ : Str)]) d0 (by exact d1)
        have hzl : LS 1 8 z := by
          simp only [List.mem_cons, List.not_mem_nil, or_false] at hz6
          rcases hz6 with rfl | rfl | rfl | rfl
          · exact n4.weak (by omega) (by omega)
          · exact w1.weak (by omega) (by omega)
          · exact w2.weak (by omega) (by omega)
          · exact w3.weak (by omega) (by omega)
        have h10 : ∀ o4, upd H9 p4 o4 l = some (.lst (xs.map V.str)) := fun o4 => by rw [upd_ne (ne_of_none h9 np4)]; exact h9
        refine ⟨_, rfl, p4, _, _, .str z, rfl, rfl, SqL.of upd_same, hat6, l, xs.map V.str, .str z, rfl, rfl, ?_, ?_, xs ++ [z], _, _, _, _, rfl, by simp [hl6], ?_, ?_, ?_, ?_⟩
        · exact h10 _
        · rw [List.length_map]; exact Nat.lt_of_lt_of_le (show xs.length < 1000 by omega) (by decide)
        · intro y hy
          rcases List.mem_append.mp hy with q | q
          · exact hx6 y q
          · rw [List.mem_singleton.mp q]; exact hzl
        · rw [upd_same]; simp
        · exact (D9.new np4).upd_other nl2.1 nl2.2
        · exact fun b o e g1 g2 => by rw [upd_ne (ne_of_none e hHl)]; exact (k9.trans (Keep.new np4)) b o e g1 g2
      · rintro σ H6 ⟨xs, v8, v9, v10, v11, rfl, hl6, hx6, h6, D6, k6⟩
        exact ⟨_, rfl, k l xs H6 hHl h6 hl6 hx6 D6 k6⟩
end
end Lw
namespace Lw
open PySem L2
noncomputable def spare1 : List Str := ["cell", "along", "lay", "judge", "late", "gates", "ways", "show"]
noncomputable def spare2 : List Str := ["andx", "orb", "oddly", "mosts", "nots", "ones", "nila", "inn", "outer", "aa", "ab", "ba"]
noncomputable def spare3 : List Str := ["abcdefgh", "abcdefgi", "zzzzzzzz", "names", "judged", "rowsofx"]
noncomputable def signsS (z : Str) : List Str := z.cps.toList.map fun c => (⟨#[c]⟩ : Str)
noncomputable def spareS : List Str := signsS lettersS ++ spare1 ++ spare2 ++ spare3
theorem spare_nodup : spareS.Nodup := by decide +kernel
theorem spare_len : spareS.length = 52 := by decide +kernel
theorem spare_good : ∀ x ∈ spareS, GoodName x := by
  have h : spareS.all (fun x => lsB 1 8 x && !keptS.contains x) = true := by decide +kernel
  intro x hx
  have := List.all_eq_true.mp h x hx
  rw [Bool.and_eq_true] at this
  refine ⟨LS.of this.1, fun m => ?_⟩
  have h2 := this.2
  rw [List.contains_iff_mem.mpr m] at h2
  cases h2
noncomputable def spNames : Sp := fun vs H Q _ => ∃ (d c : Addr) (m : Nat), vs = [.ref d, .int m] ∧ DeckAt H d c ∧ m ≤ 40 ∧ ∀ (l : Addr) (xs : List Str) (H' : Hp), H l = none → H' l = some (.lst (xs.map V.str)) → xs.length = m → xs.Nodup → (∀ x ∈ xs, GoodName x) →
  DeckAt H' d c → Keep d c H H' → Q (.ref l) H'
theorem pop_perm : ∀ {sp : List Str} {k : Nat} {y : Str}, sp[k]? = some y → (y :: sp.eraseIdx k).Perm sp
  | [], k, y, h => by simp at h
  | a :: r, 0, y, h => by
    simp at h
    subst h
    exact List.Perm.refl _
  | a :: r, k + 1, y, h => by
    have h' : r[k]? = some y := by simpa using h
    show (y :: a :: r.eraseIdx k).Perm (a :: r)
    exact (List.Perm.swap a y _).trans ((pop_perm h').cons a)
theorem erase_map {α β : Type} (f : α → β) : ∀ (l : List α) (k : Nat), (l.map f).eraseIdx k = (l.eraseIdx k).map f
  | [], _ => rfl
  | _ :: _, 0 => rfl
  | a :: r, k + 1 => by simp [erase_map f r k]
theorem inV_str (x : Str) (ys : List Str) : inV (.str x) (ys.map V.str) = decide (x ∈ ys) := by
  unfold inV
  induction ys with
  | nil => rfl
  | cons y r ih =>
    rw [List.map_cons, List.any_cons, ih]
    have : eqV (V.str y) (V.str x) = decide (y = x) := by
      simp only [eqV]
      exact Bool.beq_eq_decide_eq y x
    rw [this]
    by_cases h : x = y
    · subst h; simp
    · have h' : ¬ y = x := fun e => h e.symm
      simp [h, h']
theorem flat_strs (ys : List Str) : (ys.map V.str).all flatV = true := by
  rw [List.all_eq_true]
  intro v hv
  obtain ⟨y, _, rfl⟩ := List.mem_map.mp hv
  rfl
section
variable {P : Program} {w : World} {K : PySem.W.Frag} {mg : Str → Option Value} {base : Heap}
theorem scNames : FnScope ["deck", "many", "letters", "names", "spare"] ["deck", "many"] (defScope sNames) := ⟨rfl, rfl, rfl, by decide +kernel, rfl, by decide +kernel, by decide +kernel⟩
theorem nd1 (x : Str) : ([x] : List Str).Nodup := by simp
theorem ndSpare : (["k", "spare", "deck"] : List Str).Nodup := by decide +kernel
set_option maxHeartbeats 4000000 in
theorem ok_names {f fT fK fM : Addr} {fd fdT fdK fdM : FuncData} (F : Fun K "_law_names" "_law_names" sNames f fd) (T : Txt mg) (gT : Gd K mg "_law_take" sTake ["deck", "many"] fT fdT) (gK : Gd K mg "_law_kept" sKept [] fK fdK)
    (gM : Gd K mg "_law_made_names" sMade ["deck", "many"] fM fdM) : FnOk P w K mg base CX0 3 f fd ["deck", "many"] spNames := by
  have GT : FnOk P w K mg base CX0 1 fT fdT ["deck", "many"] spTake := ok_take gT.F T
  have GK : FnOk P w K mg base CX0 1 fK fdK [] spKept := ok_kept gK.F
  have GM : FnOk P w K mg base CX0 2 fM fdM ["deck", "many"] spMade := ok_made gM.F T gT gK
  refine F.ok scNames (fun vs H Q E h => ?_) (fun cdv A outer s H vs Q E hr h => ?_)
  · obtain ⟨d, c, m, rfl, _⟩ := h
    rfl
  · obtain ⟨d, c, m, rfl, D, hm, k⟩ := h
    have hr1 : Room 1 _ := hr.mono (by decide)
    have hu := hr.units
    refine ex_next _ (ps_set (i := 2) scNames.nd rfl (Or.inl rfl) pe_str) ?_
    refine ex_cut (fun σ H4 => ∃ v3, σ = [some (.ref d), some (.int m), some (.str lettersS), v3, none] ∧ DeckAt H4 d c ∧ Keep d c H H4) (fun u hu' => ?_) ?_
    · -- if _law_take(deck, 2) == 1
      refine ⟨_, ps_if (pt_cmpR op_eq (pe_call GT hr1 rfl gT.m gT.k gT.b .nil pass0 (pa_c (pv 0) (pa_c pe_int pa_nil))) pe_int (nomark _))
        (pss_cons (ps_set (i := 3) scNames.nd rfl (Or.inl rfl) (pe_call GM hr rfl gM.m gM.k gM.b .nil pass0 (pa_c (pv 0) (pa_c (pv 1) pa_nil))))
        (pss_one (ps_if (PW.pt (pw_and (pt_cmpR op_eq (pe_callB call_lenS (by rfl) T.len PySem.boot_len (pa_c (pe_callTy (call_setS rfl) (by rfl) T.set PyProof.Rows.boot_set (pa_c (pv 3) pa_nil)) pa_nil)) (pv 1) (nomark _))
          (pw_and1 (pt_cmpR (op_eqNil hu) (pe_lc ["name"] [] [] rfl (pi_list (pv 3)) rfl rfl (fun s₀ H₀ C cl fp => pg_name (i := 0) (nd1 _) rfl (Or.inl rfl))
            (fun s₀ H₀ C cl fp => pifs_one (pt_cmpR (r := rIn K false) op_in_seq (pv 0) (pe_call0 GK hr1 rfl gK.m gK.k gK.b .nil pass0) rfl)) (fun s₀ H₀ C cl fp => pv 0)) (pe_lst pa_nil) (nomark _)))))
          (pss_one (ps_ret (pv 3))) pss_nil))) pss_nil, ?_⟩
      refine ⟨_, rfl, d, c, 2, rfl, D, by decide, by decide, fun r1 H1 a0 a1 D1 k1 => ⟨rfl, _, rfl, ?_⟩⟩
      refine ite2 (fun _ => ?_) (fun _ => hu' _ _ ⟨none, rfl, D1, k1⟩)
      refine ⟨_, rfl, _, rfl, d, c, m, rfl, D1, hm, fun l xs H2 nl hl hlen hls D2 k2 => ?_⟩
      have kk : Keep d c H H2 := k1.trans k2
      have nl1 := D1.ned nl
      have hHl : H l = none := k1.free nl1.1 nl1.2 nl
      refine ⟨_, rfl, l, xs, rfl, SqL.of hl, by omega, fun p np => ?_⟩
      have k3 := kk.trans (Keep.new (d := d) (c := c) (o := SetN P w p (ddS xs).length) np)
      have D3 := D2.new (o := SetN P w p (ddS xs).length) np
      have hl3 : upd H2 p (SetN P w p (ddS xs).length) l = some (.lst (xs.map V.str)) := by rw [upd_ne (ne_of_none hl np)]; exact hl
      refine ⟨p, _, rfl, upd_same, _, rfl, rfl, _, rfl, ?_⟩
      refine ite2 (fun hdd => ?_) (fun _ => iteF (hu' _ _ ⟨_, rfl, D3, k3⟩))
      have hnd : xs.Nodup := by
        have := of_decide_eq_true hdd
        injection this with this
        exact ddS_nodup (by omega)
      refine ⟨_, rfl, l, rfl, ⟨_, SqL.of hl3⟩, fun D0 nD0 => ?_⟩
      have nd0 := D3.ned nD0
      have hHD : H D0 = none := k3.free nd0.1 nd0.2 nD0
      have lD : l ≠ D0 := ne_of_none hl3 nD0
      refine lc1 yields_list (fun i ys H4 => ∃ zs : List Str, ys = zs.map V.str ∧ zs.length ≤ i ∧ ((∃ x ∈ xs.take i, x ∈ keptS) → zs ≠ []) ∧ ((∀ x ∈ xs.take i, x ∉ keptS) → zs = []) ∧ DeckAt H4 d c ∧ Keep d c H H4 ∧ H4 D0 = some (.lst ys) ∧ H4 l = some (.lst (xs.map V.str)))
        ⟨[], rfl, Nat.le_refl _, (fun ⟨x, hx, _⟩ => by simp at hx), (fun _ => rfl), D3.new nD0, k3.trans (Keep.new nD0), upd_same, by rw [upd_ne lD]; exact hl3⟩ (fun i ys H4 _ ⟨_, _, _, _, _, _, _, _, h⟩ => SqL.of h) ?_ ?_
      · rintro i x ys H4 hx ⟨zs, rfl, hz1, hz2, hz3, D4, k4, hD4, hl4⟩
        obtain ⟨y, hy, rfl⟩ : ∃ y, xs[i]? = some y ∧ V.str y = x := by
          rw [List.getElem?_map] at hx
          cases e : xs[i]? with
          | none => rw [e] at hx; cases hx
          | some y => rw [e] at hx; exact ⟨y, rfl, Option.some.inj hx⟩
        have hi : i < xs.length := (List.getElem?_eq_some_iff.mp hy).1
        have et : xs.take (i + 1) = xs.take i ++ [y] := by rw [List.take_add_one, hy]; rfl
        refine ⟨_, rfl, rfl, fun q nq => ?_⟩
        have nq1 := D4.ned nq
        refine ⟨q, _, rfl, .inl (SqL.of upd_same), rfl, flat_strs _, _, rfl, ?_⟩
        have D5 := D4.new (o := .lst (keptS.map V.str)) nq
        have k5 := k4.trans (Keep.new (d := d) (c := c) (o := .lst (keptS.map V.str)) nq)
        have hD5 : upd H4 q (.lst (keptS.map V.str)) D0 = some (.lst (zs.map V.str)) := by rw [upd_ne (ne_of_none hD4 nq)]; exact hD4
        have hl5 : upd H4 q (.lst (keptS.map V.str)) l = some (.lst (xs.map V.str)) := by rw [upd_ne (ne_of_none hl4 nq)]; exact hl4
        rw [inV_str]
        refine ite2 (fun hk => ?_) (fun hk => ?_)
        · have hk' : y ∈ keptS := of_decide_eq_true hk
          refine ⟨_, rfl, ⟨_, rfl⟩, hD5, ?_, zs ++ [y], by simp, by simp; omega, fun _ => by simp, fun h => absurd hk' (h y (by rw [et]; simp)), D5.upd_other nd0.1 nd0.2, ?_, upd_same, ?_⟩
          · rw [List.length_map]; exact Nat.lt_of_lt_of_le (show zs.length < 1000 by omega) (by decide)
          · exact fun b o e g1 g2 => by rw [upd_ne (ne_of_none e hHD)]; exact k5 b o e g1 g2
          · rw [upd_ne lD]; exact hl5
        · have hk' : y ∉ keptS := fun z => hk (decide_eq_true z)
          refine ⟨⟨_, rfl⟩, zs, rfl, by omega, ?_, ?_, D5, k5, hD5, hl5⟩
          · rintro ⟨z, hz, hzk⟩
            rw [et] at hz
            rcases List.mem_append.mp hz with q' | q'
            · exact hz2 ⟨z, q', hzk⟩
            · rw [List.mem_singleton.mp q'] at hzk; exact absurd hzk hk'
          · exact fun h => hz3 fun z hz => h z (by rw [et]; exact List.mem_append_left _ hz)
      · rintro ys H4 ⟨zs, rfl, hz1, hz2, hz3, D4, k4, hD4, hl4⟩
        rw [List.length_map] at hz1 hz2 hz3
        rw [List.take_of_length_le (Nat.le_refl _)] at hz2 hz3
        refine ⟨(by show 0 ≤ sizeLine; decide), fun q nq => ?_⟩
        have D5 := D4.new (o := .lst []) nq
        have k5 := k4.trans (Keep.new (d := d) (c := c) (o := .lst []) nq)
        have hD5 : upd H4 q (.lst []) D0 = some (.lst (zs.map V.str)) := by rw [upd_ne (ne_of_none hD4 nq)]; exact hD4
        have hl5 : upd H4 q (.lst []) l = some (.lst (xs.map V.str)) := by rw [upd_ne (ne_of_none hl4 nq)]; exact hl4
        refine ⟨D0, q, _, rfl, rfl, SqL.of hD5, SqL.of upd_same, _, rfl, ?_⟩
        refine ite2 (fun he => ?_) (fun _ => hu' _ _ ⟨_, rfl, D5, k5⟩)
        have hz0 : zs = [] := by
          cases zs with
          | nil => rfl
          | cons a r => simp at he
        refine ⟨_, rfl, k l xs _ hHl hl5 hlen hnd (fun x hx => ⟨hls x hx, fun hk => hz2 ⟨x, hx, hk⟩ hz0⟩) D5 k5⟩
    · rintro σ H4 ⟨v3, rfl, D4, k4⟩
      refine ex_cut (fun σ H7 => ∃ p2, σ = [some (.ref d), some (.int m), some (.str lettersS), v3, some (.ref p2)] ∧ H7 p2 = some (.lst ((signsS lettersS ++ spare1).map V.str)) ∧ DeckAt H7 d c ∧ Keep d c H H7 ∧ H p2 = none) (fun u hu' => ?_) ?_
      · refine ⟨_, ps_set (i := 4) scNames.nd rfl (Or.inr rfl) (pe_op op_cat (pe_lc ["sign"] [] [] rfl (pi_str (pv 2)) rfl rfl (fun s₀ H₀ C cl fp => pg_name (i := 0) (nd1 _) rfl (Or.inl rfl)) (fun s₀ H₀ C cl fp => pifs_nil) (fun s₀ H₀ C cl fp => pv 0))
          (@pe_lst _ _ _ _ (@pa_strs _ [("cell", _, _), ("along", _, _), ("lay", _, _), ("judge", _, _), ("late", _, _), ("gates", _, _), ("ways", _, _), ("show", _, _)]))), ?_⟩
        refine ⟨_, rfl, lettersS, rfl, by decide +kernel, fun D0 nD0 => ?_⟩
        refine lcMap yields_str id nD0 (fun _ _ => True.intro) (by rw [show (signsV lettersS).length = 26 by decide +kernel]; decide) (fun i x H5 kk hx _ h => ⟨_, rfl, h⟩) ?_
        have e1 : (signsV lettersS).map id = (signsS lettersS).map V.str := by rw [List.map_id]; unfold signsV signsS; rw [List.map_map]; rfl
        rw [e1]
        refine ⟨(by show 8 ≤ sizeLine; decide), fun p1 n1 => ?_⟩
        have h0 : upd (upd H4 D0 (.lst ((signsS lettersS).map V.str))) p1 (.lst (spare1.map V.str)) D0 = some (.lst ((signsS lettersS).map V.str)) := by rw [upd_ne (ne_of_none upd_same n1)]; exact upd_same
        refine ⟨D0, p1, _, _, rfl, rfl, h0, upd_same, (by rw [List.length_map, show (signsS lettersS).length = 26 by decide +kernel]; show 26 + 8 ≤ sizeLine; decide), fun p2 n2 => ?_⟩
        have D7 := ((D4.new (o := .lst ((signsS lettersS).map V.str)) nD0).new (o := .lst (spare1.map V.str)) n1)
        have k7 := (k4.trans (Keep.new (d := d) (c := c) (o := .lst ((signsS lettersS).map V.str)) nD0)).trans (Keep.new (d := d) (c := c) (o := .lst (spare1.map V.str)) n1)
        have np2 := D7.ned n2
        refine hu' _ _ ⟨p2, rfl, ?_, D7.new n2, k7.trans (Keep.new n2), k7.free np2.1 np2.2 n2⟩
        rw [upd_same, List.map_append]
        rfl
      rintro σ H7 ⟨p2, rfl, h7, D7, k7, z7⟩
      refine ex_cut (fun σ H8 => ∃ p3, σ = [some (.ref d), some (.int m), some (.str lettersS), v3, some (.ref p3)] ∧ H8 p3 = some (.lst ((signsS lettersS ++ spare1 ++ spare2).map V.str)) ∧ DeckAt H8 d c ∧ Keep d c H H8 ∧ H p3 = none) (fun u hu' => ?_) ?_
      · refine ⟨_, ps_set (i := 4) scNames.nd rfl (Or.inr rfl) (pe_op op_cat (pv 4)
          (@pe_lst _ _ _ _ (@pa_strs _ [("andx", _, _), ("orb", _, _), ("oddly", _, _), ("mosts", _, _), ("nots", _, _), ("ones", _, _), ("nila", _, _), ("inn", _, _), ("outer", _, _), ("aa", _, _), ("ab", _, _), ("ba", _, _)]))), ?_⟩
        refine ⟨_, rfl, (by show 12 ≤ sizeLine; decide), fun p1 n1 => ?_⟩
        have h0 : upd H7 p1 (.lst (spare2.map V.str)) p2 = some (.lst ((signsS lettersS ++ spare1).map V.str)) := by rw [upd_ne (ne_of_none h7 n1)]; exact h7
        refine ⟨p2, p1, _, _, rfl, rfl, h0, upd_same, (by rw [List.length_map, show (signsS lettersS ++ spare1).length = 34 by decide +kernel]; show 34 + 12 ≤ sizeLine; decide), fun p3 n3 => ?_⟩
        have D8 := D7.new (o := .lst (spare2.map V.str)) n1
        have k8 := k7.trans (Keep.new (d := d) (c := c) (o := .lst (spare2.map V.str)) n1)
        have np3 := D8.ned n3
        refine hu' _ _ ⟨p3, rfl, ?_, D8.new n3, k8.trans (Keep.new n3), k8.free np3.1 np3.2 n3⟩
        rw [upd_same, List.map_append (l₁ := signsS lettersS ++ spare1)]
        rfl
      rintro σ H8 ⟨p3, rfl, h8, D8, k8, z8⟩
      refine ex_cut (fun σ H9 => ∃ p4, σ = [some (.ref d), some (.int m), some (.str lettersS), v3, some (.ref p4)] ∧ H9 p4 = some (.lst (spareS.map V.str)) ∧ DeckAt H9 d c ∧ Keep d c H H9 ∧ H p4 = none) (fun u hu' => ?_) ?_
      · refine ⟨_, ps_set (i := 4) scNames.nd rfl (Or.inr rfl) (pe_op op_cat (pv 4)
          (@pe_lst _ _ _ _ (@pa_strs _ [("abcdefgh", _, _), ("abcdefgi", _, _), ("zzzzzzzz", _, _), ("names", _, _), ("judged", _, _), ("rowsofx", _, _)]))), ?_⟩
        refine ⟨_, rfl, (by show 6 ≤ sizeLine; decide), fun p1 n1 => ?_⟩
        have h0 : upd H8 p1 (.lst (spare3.map V.str)) p3 = some (.lst ((signsS lettersS ++ spare1 ++ spare2).map V.str)) := by rw [upd_ne (ne_of_none h8 n1)]; exact h8
        refine ⟨p3, p1, _, _, rfl, rfl, h0, upd_same, (by rw [List.length_map, show (signsS lettersS ++ spare1 ++ spare2).length = 46 by decide +kernel]; show 46 + 6 ≤ sizeLine; decide), fun p4 n4 => ?_⟩
        have D9 := D8.new (o := .lst (spare3.map V.str)) n1
        have k9 := k8.trans (Keep.new (d := d) (c := c) (o := .lst (spare3.map V.str)) n1)
        have np4 := D9.ned n4
        refine hu' _ _ ⟨p4, rfl, ?_, D9.new n4, k9.trans (Keep.new n4), k9.free np4.1 np4.2 n4⟩
        unfold spareS
        rw [upd_same, List.map_append (l₁ := signsS lettersS ++ spare1 ++ spare2)]
        rfl
      rintro σ H9 ⟨p4, rfl, h9, D9, k9, z9⟩
      refine ⟨_, pss_one (ps_ret (pe_lc ["k"] ["spare", "deck"] [4, 0] rfl (pi_range1 rfl T.range (pa_c (pv 1) pa_nil)) rfl rfl (fun s₀ H₀ C cl fp => pg_name (i := 0) ndSpare rfl (Or.inl rfl)) (fun s₀ H₀ C cl fp => pifs_nil)
        (fun s₀ H₀ C cl fp => pe_bmK K PySem.F.plainAttrs_list PySem.F.slot_list_pop PySem.F.type_list_pop mt_popAt (pv 1) (pa_c (pe_call GT hr1 rfl gT.m gT.k gT.b .nil pass0 (pa_c (pv 2) (pa_c (pe_callB (call_lenK K) (by rfl) T.len PySem.boot_len (pa_c (pv 1) pa_nil)) pa_nil))) pa_nil)))), ?_⟩
      refine ⟨_, rfl, _, rfl, by omega, by omega, fun D0 nD0 => ?_⟩
      have nd0 := D9.ned nD0
      have hHD : H D0 = none := k9.free nd0.1 nd0.2 nD0
      have np4 : p4 ≠ d ∧ p4 ≠ c := D.ned z9
      have p4D : p4 ≠ D0 := ne_of_none h9 nD0
      refine lc1y yields_range (fun i ys H10 => ∃ zs sp : List Str, ys = zs.map V.str ∧ zs.length = i ∧ sp.length + i = 52 ∧ (zs ++ sp).Nodup ∧ (∀ x ∈ zs ++ sp, GoodName x) ∧ H10 p4 = some (.lst (sp.map V.str)) ∧ DeckAt H10 d c ∧ Keep d c H H10 ∧ H10 D0 = some (.lst ys))
        ⟨[], spareS, rfl, rfl, spare_len, spare_nodup, spare_good, by rw [upd_ne p4D]; exact h9, D9.new nD0, k9.trans (Keep.new nD0), upd_same⟩ (fun _ _ _ _ _ => True.intro) ?_ ?_
      · rintro i x ys H10 hx ⟨zs, sp, rfl, hzl, hsl, hnd, hg, h10, D10, k10, hD10⟩
        have hi : i < 40 := by
          have := (List.getElem?_eq_some_iff.mp hx).1
          simp at this
          omega
        refine ⟨_, rfl, .inl ⟨rfl, _, SqL.of h10⟩, _, rfl, _, rfl, p4, _, rfl, .inl (SqL.of h10), d, c, _, rfl, D10, by rw [List.length_map]; omega, by rw [List.length_map]; omega, fun r H11 b0 b1 D11 k11 => ?_⟩
        rw [List.length_map] at b1
        obtain ⟨j, rfl⟩ := Int.eq_ofNat_of_zero_le b0
        have hj : j < sp.length := by omega
        have h11 := k11 p4 _ h10 np4.1 np4.2
        have hD11 := k11 D0 _ hD10 nd0.1 nd0.2
        have hy : sp[j]? = some sp[j] := List.getElem?_eq_getElem hj
        have pm := pop_perm hy
        have pm2 : ((zs ++ [sp[j]]) ++ sp.eraseIdx j).Perm (zs ++ sp) := by
          rw [List.append_assoc]
          exact List.Perm.append_left zs pm
        have hel : (sp.eraseIdx j).length + 1 = sp.length := by
          rw [List.length_eraseIdx, if_pos hj]; omega
        refine ⟨p4, _, _, j, .str sp[j], rfl, rfl, h11, by omega, by omega, ?_, by simp [hj], ⟨_, rfl⟩, by rw [upd_ne p4D.symm]; exact hD11, ?_, zs ++ [sp[j]], sp.eraseIdx j, by simp, by simp [hzl], by omega, pm2.symm.nodup hnd, fun x hx => hg x (pm2.mem_iff.mp hx), ?_, ?_, ?_, upd_same⟩
        · rw [List.length_map]; exact PySem.StrLaws.seqIndex_nonneg (by omega) (by omega)
        · rw [List.length_map]; exact Nat.lt_of_lt_of_le (show zs.length < 1000 by omega) (by decide)
        · rw [upd_ne p4D, upd_same, erase_map]
        · exact (D11.upd_other np4.1 np4.2).upd_other nd0.1 nd0.2
        · exact fun b o e g1 g2 => by rw [upd_ne (ne_of_none e hHD), upd_ne (ne_of_none e z9)]; exact k11 b o (k10 b o e g1 g2) g1 g2
      · rintro ys H10 ⟨zs, sp, rfl, hzl, hsl, hnd, hg, h10, D10, k10, hD10⟩
        rw [List.length_map, List.length_range] at hzl
        exact k D0 zs H10 hHD hD10 (by omega) (List.Nodup.sublist (List.sublist_append_left zs sp) hnd) (fun x hx => hg x (List.mem_append_left _ hx)) D10 k10
end
end Lw
namespace Lw
open PySem L2
noncomputable def two3 : List Str := ["and", "or", "odd"]
structure ArOk (w : Str) (n : Nat) : Prop where
  ok : (w ∈ two3 ∧ (n = 2 ∨ n = 3)) ∨ (w = "most" ∧ n = 3) ∨ (w = "not" ∧ n = 1) ∨ (w = "one" ∧ n = 0) ∨ (w = "nil" ∧ n = 0)
noncomputable def words10 : List Str := ["and", "or", "odd", "most", "not", "one", "nil", "and", "odd", "most"]
noncomputable def words4 : List Str := ["most", "not", "one", "nil"]
noncomputable def nums4 : List Int := [3, 1, 0, 0]
theorem words_cases {w : Str} (h : w ∈ words10) (h2 : w ∉ two3) : w = "most" ∨ w = "not" ∨ w = "one" ∨ w = "nil" := by
  unfold words10 at h
  unfold two3 at h2
  simp only [List.mem_cons, List.not_mem_nil, or_false, not_or] at h h2
  obtain ⟨g1, g2, g3⟩ := h2
  rcases h with q | q | q | q | q | q | q | q | q | q
  · exact absurd q g1
  · exact absurd q g2
  · exact absurd q g3
  · exact .inl q
  · exact .inr (.inl q)
  · exact .inr (.inr (.inl q))
  · exact .inr (.inr (.inr q))
  · exact absurd q g1
  · exact absurd q g3
  · exact .inl q
theorem idx4 {w : Str} (h : w = "most" ∨ w = "not" ∨ w = "one" ∨ w = "nil") : ∃ (j : Nat) (n : Nat), j < 4 ∧ (∀ z, (words4.map V.str)[j]? = some z → eqV z (.str w) = true) ∧ (∀ (m : Nat) z, m < j → (words4.map V.str)[m]? = some z → eqV z (.str w) = false) ∧
    atI (nums4.map V.int) (j : Int) = some (.int n) ∧ ArOk w n := by
  have go : ∀ (j : Nat) (n : Nat), j < 4 → words4[j]? = some w → atI (nums4.map V.int) (j : Int) = some (.int n) → (∀ m, m < j → ∀ y, words4[m]? = some y → ¬ y = w) → ArOk w n → ∃ (j : Nat) (n : Nat), j < 4 ∧ (∀ z, (words4.map V.str)[j]? = some z → eqV z (.str w) = true) ∧ (∀ (m : Nat) z, m < j → (words4.map V.str)[m]? = some z → eqV z (.str w) = false) ∧
      atI (nums4.map V.int) (j : Int) = some (.int n) ∧ ArOk w n := by
    intro j n hj hw ha hn ho
    refine ⟨j, n, hj, fun z hz => ?_, fun m z hm hz => ?_, ha, ho⟩
    · rw [List.getElem?_map, hw] at hz
      cases hz
      show (w == w) = true
      exact beq_self_eq_true w
    · rw [List.getElem?_map] at hz
      cases e : words4[m]? with
      | none => rw [e] at hz; cases hz
      | some y =>
        rw [e] at hz
        cases hz
        show (y == w) = false
        exact beq_eq_false_iff_ne.mpr (hn m hm y e)
  have bd : ∀ {a b : Nat}, a < b → b ≤ 4 → a = 0 ∨ a = 1 ∨ a = 2 ∨ a = 3 := fun h1 h2 => by omega
  rcases h with rfl | rfl | rfl | rfl
  · exact go 0 3 (by decide) rfl rfl (fun m hm => absurd hm (Nat.not_lt_zero _)) ⟨.inr (.inl ⟨rfl, rfl⟩)⟩
  · refine go 1 1 (by decide) rfl rfl (fun m hm y hy => ?_) ⟨.inr (.inr (.inl ⟨rfl, rfl⟩))⟩
    obtain rfl : m = 0 := by omega
    cases hy; decide +kernel
  · refine go 2 0 (by decide) rfl rfl (fun m hm y hy => ?_) ⟨.inr (.inr (.inr (.inl ⟨rfl, rfl⟩)))⟩
    rcases (show m = 0 ∨ m = 1 by omega) with rfl | rfl <;> (cases hy; decide +kernel)
  · refine go 3 0 (by decide) rfl rfl (fun m hm y hy => ?_) ⟨.inr (.inr (.inr (.inr ⟨rfl, rfl⟩)))⟩
    rcases (show m = 0 ∨ m = 1 ∨ m = 2 by omega) with rfl | rfl | rfl <;> (cases hy; decide +kernel)
noncomputable def spGate : Sp := fun vs H Q _ => ∃ (d c kn : Addr) (ks : List Str), vs = [.ref d, .ref kn] ∧ DeckAt H d c ∧ H kn = some (.lst (ks.map V.str)) ∧ kn ≠ d ∧ kn ≠ c ∧ ks.length ≤ 100 ∧
  ∀ (t q : Addr) (wd : Str) (ps : List Str) (H' : Hp), H t = none → H q = none → H' t = some (.tup [.str wd, .ref q]) → H' q = some (.tup (ps.map V.str)) → ArOk wd ps.length → (∀ p ∈ ps, p ∈ ks) → DeckAt H' d c → Keep d c H H' → Q (.ref t) H'
section
variable {P : Program} {w : World} {K : PySem.W.Frag} {mg : Str → Option Value} {base : Heap}
theorem scGate : FnScope ["deck", "known", "word", "many", "parts", "k", "at"] ["deck", "known"] (defScope sGate) := ⟨rfl, rfl, rfl, by decide +kernel, rfl, by decide +kernel, by decide +kernel⟩
set_option maxHeartbeats 4000000 in
theorem ok_gate {f fT : Addr} {fd fdT : FuncData} (F : Fun K "_law_gate" "_law_gate" sGate f fd) (T : Txt mg) (gT : Gd K mg "_law_take" sTake ["deck", "many"] fT fdT) : FnOk P w K mg base CX0 2 f fd ["deck", "known"] spGate := by
  have GT : FnOk P w K mg base CX0 1 fT fdT ["deck", "many"] spTake := ok_take gT.F T
  refine F.ok scGate (fun vs H Q E h => ?_) (fun cdv A outer s H vs Q E hr h => ?_)
  · obtain ⟨d, c, kn, ks, rfl, _⟩ := h
    rfl
  · obtain ⟨d, c, kn, ks, rfl, D, hkn, knd, knc, hks, k⟩ := h
    have hu := hr.units
    refine ex_cut (fun σ H1 => ∃ wd, σ = [some (.ref d), some (.ref kn), some (.str wd), none, none, none, none] ∧ wd ∈ words10 ∧ DeckAt H1 d c ∧ Keep d c H H1) (fun u hu' => ?_) ?_
    · refine ⟨_, @ps_set _ _ 2 _ _ _ _ scGate.nd rfl (Or.inl rfl) (@pe_ix _ _ _ _ _ _ _ ix_list (@pe_lst _ _ _ _ (@pa_strs _ [("and", _, _), ("or", _, _), ("odd", _, _), ("most", _, _), ("not", _, _), ("one", _, _), ("nil", _, _), ("and", _, _), ("odd", _, _), ("most", _, _)]))
        (pe_call GT hr rfl gT.m gT.k gT.b .nil pass0 (pa_c (pv 0) (pa_c pe_int pa_nil))) (fun _ _ => rfl)) (by rfl) (.inl rfl), ?_⟩
      refine ⟨(by show 10 ≤ sizeLine; decide), fun p np => ⟨_, rfl, d, c, 10, rfl, D.new np, by decide, by decide, fun r H1 a0 a1 D1 k1 => ?_⟩⟩
      have np1 := D.ned np
      have h1 := k1 p _ upd_same np1.1 np1.2
      obtain ⟨wd, hat, hw⟩ := at_str (xs := words10) a0 (by exact a1)
      exact ⟨p, _, _, .str wd, rfl, rfl, SqL.of h1, hat, hu' _ _ ⟨wd, rfl, hw, D1, (Keep.new np).trans k1⟩⟩
    rintro σ H1 ⟨wd, rfl, hw, D1, k1⟩
    refine ex_cut (fun σ H2 => ∃ n : Int, σ = [some (.ref d), some (.ref kn), some (.str wd), some (.int n), none, none, none] ∧ DeckAt H2 d c ∧ Keep d c H H2) (fun u hu' => ?_) ?_
    · refine ⟨_, @ps_set _ _ 3 _ _ _ _ scGate.nd rfl (Or.inl rfl) (@pe_ix _ _ _ _ _ _ _ ix_list (@pe_lst _ _ _ _ (@pa_ints _ [(2, _, _), (2, _, _), (2, _, _), (3, _, _), (1, _, _), (0, _, _), (0, _, _), (3, _, _), (3, _, _), (3, _, _)]))
        (pe_call GT hr rfl gT.m gT.k gT.b .nil pass0 (pa_c (pv 0) (pa_c pe_int pa_nil))) (fun _ _ => rfl)) (by rfl) (.inl rfl), ?_⟩
      refine ⟨(by show 10 ≤ sizeLine; decide), fun p np => ⟨_, rfl, d, c, 10, rfl, D1.new np, by decide, by decide, fun r H2 a0 a1 D2 k2 => ?_⟩⟩
      have np1 := D1.ned np
      have h2 := k2 p _ upd_same np1.1 np1.2
      obtain ⟨j, rfl⟩ := Int.eq_ofNat_of_zero_le a0
      have hj : j < ([2, 2, 2, 3, 1, 0, 0, 3, 3, 3] : List Int).length := by show j < 10; omega
      have hat : atI (([2, 2, 2, 3, 1, 0, 0, 3, 3, 3] : List Int).map V.int) ((j : Nat) : Int) = some (V.int ([2, 2, 2, 3, 1, 0, 0, 3, 3, 3] : List Int)[j]) := atI_nat (by rw [List.getElem?_map, List.getElem?_eq_getElem hj]; rfl)
      exact ⟨p, _, _, _, rfl, rfl, SqL.of h2, hat, hu' _ _ ⟨_, rfl, D2, k1.trans ((Keep.new np).trans k2)⟩⟩
    rintro σ H2 ⟨n0, rfl, D2, k2⟩
    refine ex_cut (fun σ H3 => ∃ n : Nat, σ = [some (.ref d), some (.ref kn), some (.str wd), some (.int n), none, none, none] ∧ ArOk wd n ∧ n ≤ 3 ∧ DeckAt H3 d c ∧ Keep d c H H3) (fun u hu' => ?_) ?_
    · refine ⟨_, ps_if (pt_cmpR op_in_seq (pv 2) (@pe_lst _ _ _ _ (@pa_strs _ [("and", _, _), ("or", _, _), ("odd", _, _)])) rfl)
        (pss_one (@ps_set _ _ 3 _ _ _ _ scGate.nd rfl (Or.inl rfl) (@pe_ix _ _ _ _ _ _ _ ix_list (@pe_lst _ _ _ _ (@pa_ints _ [(2, _, _), (3, _, _)])) (pe_op op_mod (pv 3) pe_int) (fun _ _ => rfl)) (by rfl) (.inl rfl)))
        (pss_one (@ps_set _ _ 3 _ _ _ _ scGate.nd rfl (Or.inl rfl) (@pe_ix _ _ _ _ _ _ _ ix_list (@pe_lst _ _ _ _ (@pa_ints _ [(3, _, _), (1, _, _), (0, _, _), (0, _, _)]))
          (pe_bm PySem.F.plainAttrs_list PySem.F.slot_list_index PySem.F.type_list_index mt_index (@pe_lst _ _ _ _ (@pa_strs _ [("most", _, _), ("not", _, _), ("one", _, _), ("nil", _, _)])) (pa_c (pv 2) pa_nil)) (fun _ _ => rfl)) (by rfl) (.inl rfl))), ?_⟩
      refine ⟨_, rfl, (by show 3 ≤ sizeLine; decide), fun p np => ⟨p, two3.map V.str, rfl, .inl (SqL.of upd_same), rfl, flat_strs _, _, rfl, ?_⟩⟩
      have D3 := D2.new (o := .lst (two3.map V.str)) np
      have k3 := k2.trans (Keep.new (d := d) (c := c) (o := .lst (two3.map V.str)) np)
      rw [inV_str]
      refine ite2 (fun hk => ?_) (fun hk => ?_)
      · have hk' : wd ∈ two3 := of_decide_eq_true hk
        refine ⟨(by show 2 ≤ sizeLine; decide), fun p2 np2 => ⟨_, rfl, _, _, rfl, rfl, (by show (0 : Int) < 2; decide), ?_⟩⟩
        have b0 := Int.emod_nonneg n0 (show (2 : Int) ≠ 0 by decide)
        have b1 := Int.emod_lt_of_pos n0 (show (0 : Int) < 2 by decide)
        have D4 := D3.new (o := .lst [V.int 2, V.int 3]) np2
        have k4 := k3.trans (Keep.new (d := d) (c := c) (o := .lst [V.int 2, V.int 3]) np2)
        rcases (show n0 % 2 = 0 ∨ n0 % 2 = 1 by omega) with e | e
        · exact ⟨p2, _, _, .int 2, rfl, rfl, SqL.of upd_same, by rw [e]; rfl, hu' _ _ ⟨2, rfl, ⟨.inl ⟨hk', .inl rfl⟩⟩, by decide, D4, k4⟩⟩
        · exact ⟨p2, _, _, .int 3, rfl, rfl, SqL.of upd_same, by rw [e]; rfl, hu' _ _ ⟨3, rfl, ⟨.inl ⟨hk', .inr rfl⟩⟩, by decide, D4, k4⟩⟩
      · have hk' : wd ∉ two3 := fun z => hk (decide_eq_true z)
        obtain ⟨j, n, hj, i1, i2, hat, ho⟩ := idx4 (words_cases hw hk')
        refine ⟨(by show 4 ≤ sizeLine; decide), fun p2 np2 => ⟨(by show 4 ≤ sizeLine; decide), fun p3 np3 => ⟨.inl ⟨rfl, _, SqL.of upd_same⟩, _, rfl, ?_⟩⟩⟩
        have D4 := (D3.new (o := .lst (nums4.map V.int)) np2).new (o := .lst (words4.map V.str)) np3
        have k4 := (k3.trans (Keep.new (d := d) (c := c) (o := .lst (nums4.map V.int)) np2)).trans (Keep.new (d := d) (c := c) (o := .lst (words4.map V.str)) np3)
        refine ⟨p3, words4.map V.str, .str wd, j, rfl, rfl, SqL.of upd_same, flat_strs _, rfl, hj, i1, i2, ?_⟩
        have h2 : upd (upd (upd H2 p (.lst (two3.map V.str))) p2 (.lst (nums4.map V.int))) p3 (.lst (words4.map V.str)) p2 = some (.lst (nums4.map V.int)) := by rw [upd_ne (ne_of_none upd_same np3)]; exact upd_same
        refine ⟨p2, nums4.map V.int, _, .int n, rfl, rfl, SqL.of h2, hat, hu' _ _ ⟨n, rfl, ho, ?_, D4, k4⟩⟩
        rcases ho.ok with ⟨_, q | q⟩ | ⟨_, q⟩ | ⟨_, q⟩ | ⟨_, q⟩ | ⟨_, q⟩ <;> omega
    rintro σ H3 ⟨n, rfl, ho, hn, D3, k3⟩
    have hkn3 := k3 kn _ hkn knd knc
    refine ex_cut (fun σ H4 => ∃ a : Nat, σ = [some (.ref d), some (.ref kn), some (.str wd), some (.int n), none, none, none] ∧ 0 < ks.length ∧ DeckAt H4 d c ∧ Keep d c H H4) (fun u hu' => ?_) ?_
    · refine ⟨_, ps_if (pt_cmpR (op_eqNil hu) (pv 1) (pe_lst pa_nil) (nomark _)) (pss_one (ps_ret (pe_tup (pa_c (pe_ix ix_list (pe_lst (pa_c pe_str (pa_c pe_str pa_nil))) (pe_op op_mod (pv 3) pe_int) (fun _ _ => rfl)) (pa_c (pe_tup pa_nil) pa_nil))))) pss_nil, ?_⟩
      refine ⟨_, rfl, (by show 0 ≤ sizeLine; decide), fun p np => ?_⟩
      have D4 := D3.new (o := .lst []) np
      have k4 := k3.trans (Keep.new (d := d) (c := c) (o := .lst []) np)
      have hkn4 : upd H3 p (.lst []) kn = some (.lst (ks.map V.str)) := by rw [upd_ne (ne_of_none hkn3 np)]; exact hkn3
      refine ⟨kn, p, _, rfl, rfl, SqL.of hkn4, SqL.of upd_same, _, rfl, ?_⟩
      refine ite2 (fun he => ?_) (fun he => hu' _ _ ⟨0, rfl, ?_, D4, k4⟩)
      · refine ⟨(by show 2 ≤ sizeLine; decide), fun p2 np2 => ⟨_, rfl, _, _, rfl, rfl, (by show (0 : Int) < 2; decide), ?_⟩⟩
        have b0 := Int.emod_nonneg (n : Int) (show (2 : Int) ≠ 0 by decide)
        have b1 := Int.emod_lt_of_pos (n : Int) (show (0 : Int) < 2 by decide)
        have D5 := D4.new (o := .lst [V.str (Str.ofString "one"), V.str (Str.ofString "nil")]) np2
        have k5 := k4.trans (Keep.new (d := d) (c := c) (o := .lst [V.str (Str.ofString "one"), V.str (Str.ofString "nil")]) np2)
        have fin : ∀ w2 : Str, ArOk w2 0 → ∀ q, upd (upd H3 p (.lst [])) p2 (.lst [V.str (Str.ofString "one"), V.str (Str.ofString "nil")]) q = none →
            ∀ t, upd (upd (upd H3 p (.lst [])) p2 (.lst [V.str (Str.ofString "one"), V.str (Str.ofString "nil")])) q (.tup []) t = none →
            Q (.ref t) (upd (upd (upd (upd H3 p (.lst [])) p2 (.lst [V.str (Str.ofString "one"), V.str (Str.ofString "nil")])) q (.tup [])) t (.tup [.str w2, .ref q])) := by
          intro w2 ho2 q nq t nt
          have D6 := D5.new (o := .tup []) nq
          have k6 := k5.trans (Keep.new (d := d) (c := c) (o := .tup []) nq)
          have nq1 := D5.ned nq
          have nt1 := D6.ned nt
          exact k t q w2 [] _ (k6.free nt1.1 nt1.2 nt) (k5.free nq1.1 nq1.2 nq) upd_same (by rw [upd_ne (ne_of_none upd_same nt)]; exact upd_same) ho2 (fun p hp => nomatch hp) (D6.new nt) (k6.trans (Keep.new nt))
        rcases (show (n : Int) % 2 = 0 ∨ (n : Int) % 2 = 1 by omega) with e | e
        · refine ⟨p2, _, _, .str "one", rfl, rfl, SqL.of upd_same, by rw [e]; rfl, (by show 0 ≤ sizeLine; decide), fun q nq => ⟨(by show 2 ≤ sizeLine; decide), fun t nt => ?_⟩⟩
          exact fin "one" ⟨.inr (.inr (.inr (.inl ⟨rfl, rfl⟩)))⟩ q nq t nt
        · refine ⟨p2, _, _, .str "nil", rfl, rfl, SqL.of upd_same, by rw [e]; rfl, (by show 0 ≤ sizeLine; decide), fun q nq => ⟨(by show 2 ≤ sizeLine; decide), fun t nt => ?_⟩⟩
          exact fin "nil" ⟨.inr (.inr (.inr (.inr ⟨rfl, rfl⟩)))⟩ q nq t nt
      · cases ks with
        | nil => simp at he
        | cons a r => simp
    rintro σ H4 ⟨_, rfl, hk0, D4, k4⟩
    refine ⟨_, pss_cons (ps_set (i := 4) scGate.nd rfl (Or.inl rfl) (pe_lst pa_nil))
      (pss_cons (ps_for PassesOwn.never rfl (pi_range1 rfl T.range (pa_c (pv 3) pa_nil)) (pg_name (i := 5) scGate.nd rfl (Or.inl rfl))
        (pss_cons (ps_set (i := 6) scGate.nd rfl (Or.inl rfl) (pe_ix ix_list (pe_lst (pa_c (pe_call GT hr rfl gT.m gT.k gT.b .nil pass0 (pa_c (pv 0) (pa_c (pe_callB call_len_seq (by rfl) T.len PySem.boot_len (pa_c (pv 1) pa_nil)) pa_nil)))
          (pa_c (pe_op op_sub (pe_op op_sub (pe_callB call_len_seq (by rfl) T.len PySem.boot_len (pa_c (pv 1) pa_nil)) pe_int) (pe_call GT hr rfl gT.m gT.k gT.b .nil pass0 (pa_c (pv 0) (pa_c (pe_callB (call_min2 rfl) (by rfl) T.min PyProof.Rows.boot_min (pa_c pe_int (pa_c (pe_callB call_len_seq (by rfl) T.len PySem.boot_len (pa_c (pv 1) pa_nil)) pa_nil))) pa_nil)))) pa_nil)))
          (pe_call GT hr rfl gT.m gT.k gT.b .nil pass0 (pa_c (pv 0) (pa_c pe_int pa_nil))) (fun _ _ => rfl)))
        (pss_one (ps_expr (pe_bm PySem.F.plainAttrs_list PySem.F.slot_list_append PySem.F.type_list_append mt_append (pv 4) (pa_c (pe_ix ix_list (pv 1) (pv 6) (fun _ _ => rfl)) pa_nil))))))
      (pss_one (ps_ret (pe_tup (pa_c (pv 2) (pa_c (pe_callTy call_tuple_of (by rfl) T.tuple PyProof.Rows.boot_tuple (pa_c (pv 4) pa_nil)) pa_nil)))))), ?_⟩
    refine ⟨(by show 0 ≤ sizeLine; decide), fun l nl => ?_⟩
    have nl1 := D4.ned nl
    have hHl : H l = none := k4.free nl1.1 nl1.2 nl
    have lk : l ≠ kn := (ne_of_none hkn hHl).symm
    refine ⟨_, rfl, _, rfl, by omega, by omega, ?_⟩
    rw [Int.toNat_natCast]
    refine for_range (lo := 0) (n := n) (fun i σ H5 => ∃ (ps : List Str) (v5 v6 : Option V), σ = [some (.ref d), some (.ref kn), some (.str wd), some (.int n), some (.ref l), v5, v6] ∧ ps.length = i ∧ (∀ p ∈ ps, p ∈ ks) ∧ H5 l = some (.lst (ps.map V.str)) ∧ DeckAt H5 d c ∧ Keep d c H H5)
      ⟨[], none, none, rfl, rfl, (fun p hp => nomatch hp), upd_same, D4.new nl, k4.trans (Keep.new nl)⟩ ?_ ?_
    · rintro i σ H5 hi ⟨ps, v5, v6, rfl, hl5, hp5, h5, D5, k5⟩
      have hkn5 := k5 kn _ hkn knd knc
      have hml : (if ((ks.map V.str).length : Int) < 4 then ((ks.map V.str).length : Int) else 4) = (if (ks.length : Int) < 4 then (ks.length : Int) else 4) := by rw [List.length_map]
      refine ⟨_, rfl, _, rfl, kn, _, rfl, .inl (SqL.of hkn5), d, c, _, rfl, D5, by rw [List.length_map]; omega, by rw [List.length_map]; omega, fun r1 H6 a0 a1 D6 k6 => ?_⟩
      have hkn6 := k6 kn _ hkn5 knd knc
      refine ⟨_, rfl, kn, _, rfl, .inl (SqL.of hkn6), _, _, rfl, rfl, _, rfl, _, rfl, kn, _, rfl, .inl (SqL.of hkn6), _, _, rfl, d, c, _, rfl, D6, ?_, ?_, fun r2 H7 b0 b1 D7 k7 => ?_⟩
      · rw [hml]; split <;> omega
      · rw [hml]; split <;> omega
      have b1' : r2 < ks.length := by
        rw [hml] at b1
        split at b1 <;> omega
      refine ⟨_, _, rfl, rfl, (by show 2 ≤ sizeLine; decide), fun p np => ?_⟩
      have D8 := D7.new (o := .lst [V.int r1, V.int (((ks.map V.str).length : Int) - 1 - r2)]) np
      refine ⟨_, rfl, d, c, 2, rfl, D8, by decide, by decide, fun r3 H9 c0 c1 D9 k9 => ?_⟩
      have np1 := D7.ned np
      have h9 := k9 p _ upd_same np1.1 np1.2
      have k8 : Keep d c H5 H9 := ((k6.trans k7).trans (Keep.new np)).trans k9
      have hkn9 := k8 kn _ hkn5 knd knc
      have nl2 : l ≠ d ∧ l ≠ c := nl1
      have hl9 := k8 l _ h5 nl2.1 nl2.2
      rw [List.length_map] at a1
      have fin : ∀ a : Int, 0 ≤ a → a < ks.length → ∃ x, atI (ks.map V.str) a = some (V.str x) ∧ x ∈ ks := fun a g0 g1 => at_str g0 g1
      have go : ∀ a : Int, 0 ≤ a → a < ks.length → atI [V.int r1, V.int (((ks.map V.str).length : Int) - 1 - r2)] r3 = some (V.int a) → rIxL K (.ref p) (.int r3) H9 fun x H1 => gName 6 x [some (.ref d), some (.ref kn), some (.str wd), some (.int n), some (.ref l), some (.int (0 + i)), v6] H1 fun σ' H' =>
          (tDrop (tBM K "list" rAppend (tVar 4) (tCons (tOp (rIxL K) (tVar 1) (tVar 6)) tNil))) { nx := fun σ H5 => ∃ (ps : List Str) (v5 v6 : Option V), σ = [some (.ref d), some (.ref kn), some (.str wd), some (.int n), some (.ref l), v5, v6] ∧ ps.length = i + 1 ∧ (∀ p ∈ ps, p ∈ ks) ∧ H5 l = some (.lst (ps.map V.str)) ∧ DeckAt H5 d c ∧ Keep d c H H5, rt := Q } σ' H' := by
        intro a g0 g1 hat
        obtain ⟨x, hx, hm⟩ := fin a g0 g1
        refine ⟨p, _, _, .int a, rfl, rfl, SqL.of h9, hat, _, rfl, .inl ⟨rfl, _, SqL.of hl9⟩, _, rfl, _, rfl, kn, _, _, .str x, rfl, rfl, SqL.of hkn9, hx, l, _, .str x, rfl, rfl, hl9, ?_, ps ++ [x], _, _, rfl, by simp [hl5], ?_, ?_, D9.upd_other nl2.1 nl2.2, ?_⟩
        · rw [List.length_map]; exact Nat.lt_of_lt_of_le (show ps.length < 1000 by omega) (by decide)
        · intro y hy
          rcases List.mem_append.mp hy with q | q
          · exact hp5 y q
          · rw [List.mem_singleton.mp q]; exact hm
        · rw [upd_same]; simp
        · exact fun b o e g1 g2 => by rw [upd_ne (ne_of_none e hHl)]; exact (k5.trans k8) b o e g1 g2
      rcases (show r3 = 0 ∨ r3 = 1 by omega) with e | e
      · exact go r1 a0 a1 (by rw [e]; rfl)
      · exact go (((ks.map V.str).length : Int) - 1 - r2) (by rw [List.length_map]; omega) (by rw [List.length_map]; omega) (by rw [e]; rfl)
    · rintro σ H5 ⟨ps, v5, v6, rfl, hl5, hp5, h5, D5, k5⟩
      refine ⟨_, rfl, _, rfl, l, _, rfl, .inl ⟨SqL.of h5, fun q nq => ⟨(by show 2 ≤ sizeLine; decide), fun t nt => ?_⟩⟩⟩
      have nq1 := D5.ned nq
      have D6 := D5.new (o := .tup (ps.map V.str)) nq
      have k6 := k5.trans (Keep.new (d := d) (c := c) (o := .tup (ps.map V.str)) nq)
      have nt1 := D6.ned nt
      exact k t q wd ps _ (k6.free nt1.1 nt1.2 nt) (k5.free nq1.1 nq1.2 nq) upd_same (by rw [upd_ne (ne_of_none upd_same nt)]; exact upd_same) (by rw [hl5]; exact ho) hp5 (D6.new nt) (k6.trans (Keep.new nt))
end
end Lw
namespace Lw
open PySem L2
structure Cel where
  ins : List Str
  gates : List (Str × Str × List Str)
  outs : List Str
noncomputable def Cel.names (C : Cel) : List Str := C.ins ++ C.gates.map (·.1)
noncomputable def GateAt (H : Hp) (a : Addr) (g : Str × Str × List Str) : Prop := ∃ q, H a = some (.tup [.str g.1, .str g.2.1, .ref q]) ∧ H q = some (.tup (g.2.2.map V.str))
noncomputable abbrev GatesAt (H : Hp) : List Addr → List (Str × Str × List Str) → Prop := Paired (GateAt H)
structure CellAt (H : Hp) (a : Addr) (C : Cel) : Prop where
  ex : ∃ (i g o : Addr) (as : List Addr), H a = some (.tup [.ref i, .ref g, .ref o]) ∧ H i = some (.tup (C.ins.map V.str)) ∧ H g = some (.tup (as.map V.ref)) ∧ H o = some (.tup (C.outs.map V.str)) ∧ GatesAt H as C.gates
noncomputable def GatesOk : List Str → List (Str × Str × List Str) → Prop
  | _, [] => True
  | kn, g :: r => ArOk g.2.1 g.2.2.length ∧ (∀ p ∈ g.2.2, p ∈ kn) ∧ GatesOk (kn ++ [g.1]) r
theorem GatesOk.snoc : ∀ {gs : List (Str × Str × List Str)} {kn : List Str} {g : Str × Str × List Str}, GatesOk kn gs → ArOk g.2.1 g.2.2.length → (∀ p ∈ g.2.2, p ∈ kn ++ gs.map (·.1)) → GatesOk kn (gs ++ [g])
  | [], kn, g, _, h1, h2 => ⟨h1, by simpa using h2, True.intro⟩
  | a :: r, kn, g, h, h1, h2 => ⟨h.1, h.2.1, GatesOk.snoc h.2.2 h1 (by simpa using h2)⟩
structure Good (C : Cel) : Prop where
  nd : C.names.Nodup
  nm : ∀ x ∈ C.names, GoodName x
  gt : GatesOk C.ins C.gates
  os : ∀ o ∈ C.outs, o ∈ C.names
  ond : C.outs.Nodup
  li : C.ins.length ≤ 6
  lg : C.gates.length ≤ 24
  lo : C.outs.length ≤ 6
end Lw
namespace Lw
open PySem L2
noncomputable def R_take : RD := fun dk ds Φ => ∃ (d c : Addr) (m : Int), dk = [d, c] ∧ ds = [.raw (.ref d), .int m] ∧ 0 < m ∧ m < 1000000 ∧ ∀ r : Nat, (r : Int) < m → Φ (.val (.int r))
noncomputable def R_names : RD := fun dk ds Φ => ∃ (d c : Addr) (m : Nat), dk = [d, c] ∧ ds = [.raw (.ref d), .int m] ∧ m ≤ 40 ∧ ∀ xs : List Str, xs.length = m → xs.Nodup → (∀ x ∈ xs, GoodName x) → Φ (.own (.lst (xs.map D.str)))
noncomputable def R_gate : RD := fun dk ds Φ => ∃ (d c : Addr) (ks : List Str), dk = [d, c] ∧ ds = [.raw (.ref d), .lst (ks.map D.str)] ∧ ks.length ≤ 100 ∧ ∀ (wd : Str) (ps : List Str), ArOk wd ps.length → (∀ p ∈ ps, p ∈ ks) → Φ (.val (.tup [.str wd, .tup (ps.map D.str)]))
theorem dk_deck {d c : Addr} {H : Hp} (h : Dk [d, c] H) : DeckAt H d c := by
  rcases h with h | ⟨d', c', e, h⟩
  · cases h
  · cases e; exact h
theorem keep_frm {d c : Addr} {H H' : Hp} (k : Keep d c H H') : Frm [d, c] H H' := fun b o e n => k b o e (fun z => n (by simp [z])) (fun z => n (by simp [z]))
theorem deck_not {d c l : Addr} {H : Hp} (D : DeckAt H d c) (h : H l = none) : l ∉ [d, c] := fun z => by
  have := D.ned h
  rcases List.mem_cons.mp z with q | q
  · exact this.1 q
  · exact this.2 (by simpa using q)
section
variable {P : Program} {w : World} {K : PySem.W.Frag} {mg : Str → Option Value} {base : Heap} {f : Addr} {fd : FuncData} {k : Nat} {ps : List Str}
theorem br_take (F : FnOk P w K mg base CX0 k f fd ps spTake) : FnOk P w K mg base CX0 k f fd ps (spD K R_take) := F.imp fun vs H Q E ⟨dk, A, ds, Φ, hdk, hA, r, ⟨d, c, m, e1, e2, h0, h1, hΦ⟩, hq⟩ => by
  subst e1 e2
  cases r with
  | cons r1 r =>
    cases r with
    | cons r2 r =>
      cases r
      have := r1.raw_inv; have := r2.int_inv; subst_vars
      refine ⟨d, c, m, rfl, dk_deck hdk, h0, h1, fun r H' a b D' kp => ?_⟩
      obtain ⟨n, rfl⟩ := Int.eq_ofNat_of_zero_le a
      exact hq _ _ H' (hΦ n b) (keep_frm kp) (.inr ⟨d, c, rfl, D'⟩) (.int _)
theorem br_names (F : FnOk P w K mg base CX0 k f fd ps spNames) : FnOk P w K mg base CX0 k f fd ps (spD K R_names) := F.imp fun vs H Q E ⟨dk, A, ds, Φ, hdk, hA, r, ⟨d, c, m, e1, e2, h0, hΦ⟩, hq⟩ => by
  subst e1 e2
  cases r with
  | cons r1 r =>
    cases r with
    | cons r2 r =>
      cases r
      have := r1.raw_inv; have := r2.int_inv; subst_vars
      exact ⟨d, c, m, rfl, dk_deck hdk, h0, fun l xs H' hl hl' e nd gn D' kp => hq _ _ H' (hΦ xs e nd gn) (keep_frm kp) (.inr ⟨d, c, rfl, D'⟩) ⟨l, rfl, hl, deck_not (dk_deck hdk) hl, _, hl', reps_strs xs⟩⟩
theorem br_gate (F : FnOk P w K mg base CX0 k f fd ps spGate) : FnOk P w K mg base CX0 k f fd ps (spD K R_gate) := F.imp fun vs H Q E ⟨dk, A, ds, Φ, hdk, hA, r, ⟨d, c, ks, e1, e2, h0, hΦ⟩, hq⟩ => by
  subst e1 e2
  cases r with
  | cons r1 r =>
    cases r with
    | cons r2 r =>
      cases r
      have := r1.raw_inv; subst this
      obtain ⟨kn, us, rfl, ha, hk, ru⟩ := r2.lst_inv
      have := strsOf_rep (strsOf_map ks) ru
      subst this
      have na := hA kn ha
      refine ⟨d, c, kn, ks, rfl, dk_deck hdk, hk, fun z => na (by simp [z]), fun z => na (by simp [z]), h0, fun t q wd ps H' ht hq' h1 h2 ok hp D' kp => hq _ _ H' (hΦ wd ps ok hp) (keep_frm kp) (.inr ⟨d, c, rfl, D'⟩) ?_⟩
      exact .tup h1 (.cons (.str wd) (.cons (.tup h2 (reps_strs ps)) .nil))
end
theorem cut_take {α : Type} (f : α → D) (xs : List α) (k : Nat) : cutD (xs.map f) none (some (k : Int)) = (xs.take k).map f := by
  unfold cutD
  rw [List.length_map, HT.sIx_none, HT.sIx_nat, List.drop_zero, Nat.sub_zero, List.map_take]
  by_cases h : k ≤ xs.length
  · rw [Nat.min_eq_left h]
  · rw [Nat.min_eq_right (by omega), List.take_of_length_le (by simp), List.take_of_length_le (by simp; omega)]
theorem cut_drop {α : Type} (f : α → D) (xs : List α) (k : Nat) : cutD (xs.map f) (some (k : Int)) none = (xs.drop k).map f := by
  unfold cutD
  rw [List.length_map, HT.sIx_nat, HT.sIx_none, List.map_drop, List.take_of_length_le (by simp)]
  by_cases h : k ≤ xs.length
  · rw [Nat.min_eq_left h]
  · rw [Nat.min_eq_right (by omega), List.drop_eq_nil_of_le (by simp), List.drop_eq_nil_of_le (by simp; omega)]
noncomputable def encG (g : Str × Str × List Str) : D := .tup [.str g.1, .str g.2.1, .tup (g.2.2.map D.str)]
noncomputable def encC (C : Cel) : D := .tup [.tup (C.ins.map D.str), .tup (C.gates.map encG), .tup (C.outs.map D.str)]
noncomputable def encP (p : Str × Str) : D := .tup [.str p.1, .str p.2]
noncomputable def encRow (C : Cel) (al : List (Str × Str)) : D := .tup [encC C, .tup (al.map encP)]
structure GoodRow (C : Cel) (al : List (Str × Str)) : Prop where
  good : Good C
  og : ∀ o ∈ C.outs, o ∈ C.gates.map (·.1)
  n1 : (al.map (·.1)).Nodup
  n2 : (al.map (·.2)).Nodup
  mem : ∀ p ∈ al, p.1 ∈ C.outs ∧ p.2 ∈ C.ins
  la : al.length ≤ 4
noncomputable def R_row : RD := fun dk ds Φ => ∃ (d c : Addr) (a b m : Nat), dk = [d, c] ∧ ds = [.raw (.ref d), .int a, .int b, .int m] ∧ a ≤ 6 ∧ b ≤ 24 ∧ m ≤ 4 ∧ ∀ C al, GoodRow C al → Φ (.val (encRow C al))
end Lw
namespace Lw
open PySem L2
theorem seq_cut {t u : TSd} {dk : List Addr} {De : DEnds} {ρ : List Sl} (I : List Sl → Prop) (h1 : ∀ N : List Sl → Prop, (∀ ρ', I ρ' → N ρ') → t dk { De with nx := N } ρ) (h2 : ∀ ρ', I ρ' → u dk De ρ') : sSeq t u dk De ρ := h1 _ h2
theorem for_at {ι : TId} {g : TGd} {tb : TSd} {dk : List Addr} {De : DEnds} {ρ : List Sl} (ds : List D) (ρ1 : List Sl) (hι : ∀ Ψ : List D → List Sl → Prop, Ψ ds ρ1 → ι dk ρ Ψ) (Pv : Nat → List Sl → Prop) (h0 : Pv 0 ρ1)
    (hs : ∀ (i : Nat) d ρ', ds[i]? = some d → Pv i ρ' → g d ρ' fun ρ2 => tb dk { nx := Pv (i + 1), ct := Pv (i + 1), bk := De.nx, rt := De.rt } ρ2) (hd : ∀ ρ', Pv ds.length ρ' → De.nx ρ') : sFor ι g tb dk De ρ := hι _ ⟨Pv, h0, hs, hd⟩
theorem map_item {α : Type} {f : α → D} {xs : List α} {i : Nat} {d : D} (h : (xs.map f)[i]? = some d) : ∃ y, xs[i]? = some y ∧ f y = d := by
  rw [List.getElem?_map] at h
  cases e : xs[i]? with
  | none => rw [e] at h; cases h
  | some y => rw [e] at h; exact ⟨y, rfl, Option.some.inj h⟩
theorem ints_item {lo : Int} {n i : Nat} {d : D} (h : (intsD lo n)[i]? = some d) : i < n ∧ d = .int (lo + i) := by
  unfold intsD at h
  rw [List.getElem?_map] at h
  cases e : (List.range n)[i]? with
  | none => rw [e] at h; cases h
  | some y =>
    rw [e] at h
    obtain ⟨hl, hy⟩ := List.getElem?_eq_some_iff.mp e
    rw [List.length_range] at hl
    rw [List.getElem_range] at hy
    subst hy
    exact ⟨hl, (Option.some.inj h).symm⟩
theorem erase_perm {α : Type} : ∀ {l : List α} {n : Nat} {y : α}, l[n]? = some y → l.Perm (y :: l.eraseIdx n)
  | a :: l, 0, y, h => by simp at h; subst h; exact .refl _
  | a :: l, n + 1, y, h => by
    have := erase_perm (l := l) (n := n) (y := y) (by simpa using h)
    rw [List.eraseIdx_cons_succ]
    exact (this.cons a).trans (.swap y a _)
theorem sel_split {α : Type} {left out : List α} {n : Nat} {y : α} (hn : left[n]? = some y) (nd : (out ++ left).Nodup) : ((out ++ [y]) ++ left.eraseIdx n).Nodup ∧ (∀ z, z ∈ (out ++ [y]) ++ left.eraseIdx n → z ∈ out ++ left) ∧ (left.eraseIdx n).length + 1 = left.length := by
  obtain ⟨hl, hy⟩ := List.getElem?_eq_some_iff.mp hn
  have p : (out ++ left).Perm ((out ++ [y]) ++ left.eraseIdx n) := by
    have q : left.Perm (y :: left.eraseIdx n) := erase_perm hn
    rw [List.append_assoc]
    exact q.append_left out
  refine ⟨p.nodup_iff.mp nd, fun z hz => p.mem_iff.mpr hz, ?_⟩
  rw [List.length_eraseIdx_of_lt hl]; omega
theorem map_erase {α β : Type} (f : α → β) : ∀ (l : List α) (n : Nat), (l.map f).eraseIdx n = (l.eraseIdx n).map f
  | [], _ => by simp
  | a :: l, 0 => rfl
  | a :: l, n + 1 => by rw [List.map_cons, List.eraseIdx_cons_succ, List.eraseIdx_cons_succ, List.map_cons, map_erase f l n]
theorem pop_ok {n k : Nat} (h : k < n) : seqIndex? (k : Int) n = some k := by
  unfold seqIndex?
  have : ¬ ((k : Int) < 0) := by omega
  simp [this, h]
section
variable {P : Program} {w : World} {K : PySem.W.Frag} {mg : Str → Option Value} {base : Heap}
theorem sc_law_row : FnScope ["deck", "inputs", "gates", "most", "many", "count", "names", "known", "rows", "name", "left", "outputs", "k", "outs", "ins", "along"] ["deck", "inputs", "gates", "most"] (defScope s_law_row) := ⟨rfl, rfl, rfl, by decide +kernel, rfl, by decide +kernel, by decide +kernel⟩
set_option maxHeartbeats 4000000 in
theorem ok_row {f fT fN fG : Addr} {fd fdT fdN fdG : FuncData} (F : Fun K "_law_row" "_law_row" s_law_row f fd) (T : Txt mg) (g_law_take : Gd K mg "_law_take" sTake ["deck", "many"] fT fdT) (g_law_names : Gd K mg "_law_names" sNames ["deck", "many"] fN fdN) (g_law_gate : Gd K mg "_law_gate" sGate ["deck", "known"] fG fdG)
    (O_law_take : FnOk P w K mg base CX0 1 fT fdT ["deck", "many"] (spD K R_take)) (O_law_names : FnOk P w K mg base CX0 3 fN fdN ["deck", "many"] (spD K R_names)) (O_law_gate : FnOk P w K mg base CX0 2 fG fdG ["deck", "known"] (spD K R_gate)) :
    FnOk P w K mg base CX0 4 f fd ["deck", "inputs", "gates", "most"] (spD K R_row) := by
  refine F.okD (k := 3) sc_law_row (fun dk ds Φ ⟨_, _, _, _, _, _, e, _⟩ => by rw [e]; rfl) (by decide) fun cdv A outer s H E dk ds Φ hr hR => ?_
  have hu := hu_of hr
  obtain ⟨d, c, a, b, m, rfl, rfl, ha, hb, hm, hΦ⟩ := hR
  refine ⟨_, (ss_cons (s_set (i := 4) sc_law_row.nd rfl (Or.inl rfl) (pd_call O_law_take (hr.mono (by decide)) (by rfl) g_law_take.m g_law_take.k g_law_take.b (pa_k (pd_v 0 (pv 0)) (pa_k (pd_opS op_plus od_add (pv 1) pd_int) pa_n))))
      (ss_cons (s_set (i := 5) sc_law_row.nd rfl (Or.inl rfl) (pd_call O_law_take (hr.mono (by decide)) (by rfl) g_law_take.m g_law_take.k g_law_take.b (pa_k (pd_v 0 (pv 0)) (pa_k (pd_opS op_plus od_add (pv 2) pd_int) pa_n))))
      (ss_cons (s_set (i := 6) sc_law_row.nd rfl (Or.inl rfl) (pd_call O_law_names (hr.mono (by decide)) (by rfl) g_law_names.m g_law_names.k g_law_names.b (pa_k (pd_v 0 (pv 0)) (pa_k (pd_opS op_plus od_add (pv 4) (pd_v 5 (pv 5))) pa_n))))
      (ss_cons (s_set (i := 7) sc_law_row.nd rfl (Or.inl rfl) (pd_slS sl_any sd_sl (pv 6) po_n (po_s (pd_v 4 (pv 4)))))
      (ss_cons (s_set (i := 8) sc_law_row.nd rfl (Or.inl rfl) (pd_lst pa_n))
      (ss_cons (s_for (m := 99) PassesOwn.never rfl (i_v (pd_slS sl_any sd_sl (pv 6) (po_s (pd_v 4 (pv 4))) po_n)) (g_n (i := 9) sc_law_row.nd rfl (Or.inl rfl)) (ss_cons (s_expr (pd_w PySem.F.plainAttrs_list PySem.F.slot_list_append PySem.F.type_list_append mt_append mw_app (pv 8) (pa_k (pd_op op_plus od_add (pd_tup (pa_k (pd_v 9 (pv 9)) pa_n)) (pd_call O_law_gate (hr.mono (by decide)) (by rfl) g_law_gate.m g_law_gate.k g_law_gate.b (pa_k (pd_v 0 (pv 0)) (pa_k (pd_v 7 (pv 7)) pa_n)))) pa_n)))
      (ss_one (s_set (i := 7) sc_law_row.nd rfl (Or.inl rfl) (pd_opS op_plus od_add (pv 7) (pd_lst (pa_k (pd_v 9 (pv 9)) pa_n)))))))
      (ss_cons (s_set (i := 10) sc_law_row.nd rfl (Or.inl rfl) (pd_slS sl_any sd_sl (pv 6) (po_s (pd_v 4 (pv 4))) po_n))
      (ss_cons (s_set (i := 11) sc_law_row.nd rfl (Or.inl rfl) (pd_lst pa_n))
      (ss_cons (s_for (m := 99) PassesOwn.never rfl (i_r1 (by rfl) T.range (pd_callB (call_minB rfl) cd_minB (by rfl) T.min PyProof.Rows.boot_min (pa_k (pd_call O_law_take (hr.mono (by decide)) (by rfl) g_law_take.m g_law_take.k g_law_take.b (pa_k (pd_v 0 (pv 0)) (pa_k pd_int pa_n))) (pa_k (pd_callB call_lenA cd_len (by rfl) T.len PySem.boot_len (pa_s (pv 10) pa_n)) pa_n)))) (g_n (i := 12) sc_law_row.nd rfl (Or.inl rfl)) (ss_one (s_expr (pd_w PySem.F.plainAttrs_list PySem.F.slot_list_append PySem.F.type_list_append mt_append mw_app (pv 11) (pa_k (pd_w PySem.F.plainAttrs_list PySem.F.slot_list_pop PySem.F.type_list_pop mt_popAt mw_pop (pv 10) (pa_k (pd_call O_law_take (hr.mono (by decide)) (by rfl) g_law_take.m g_law_take.k g_law_take.b (pa_k (pd_v 0 (pv 0)) (pa_k (pd_callB call_lenA cd_len (by rfl) T.len PySem.boot_len (pa_s (pv 10) pa_n)) pa_n))) pa_n)) pa_n)))))
      (ss_cons (s_set (i := 13) sc_law_row.nd rfl (Or.inl rfl) (pd_callTy call_list_of cd_list (by rfl) T.list PyProof.Rows.boot_list (pa_s (pv 11) pa_n)))
      (ss_cons (s_set (i := 14) sc_law_row.nd rfl (Or.inl rfl) (pd_slS sl_any sd_sl (pv 6) po_n (po_s (pd_v 4 (pv 4)))))
      (ss_cons (s_set (i := 15) sc_law_row.nd rfl (Or.inl rfl) (pd_lst pa_n))
      (ss_cons (s_for (m := 99) PassesOwn.never rfl (i_r1 (by rfl) T.range (pd_callB (call_minB rfl) cd_minB (by rfl) T.min PyProof.Rows.boot_min (pa_k (pd_call O_law_take (hr.mono (by decide)) (by rfl) g_law_take.m g_law_take.k g_law_take.b (pa_k (pd_v 0 (pv 0)) (pa_k (pd_opS op_plus od_add (pv 3) pd_int) pa_n))) (pa_k (pd_callB call_lenA cd_len (by rfl) T.len PySem.boot_len (pa_s (pv 13) pa_n)) (pa_k (pd_callB call_lenA cd_len (by rfl) T.len PySem.boot_len (pa_s (pv 14) pa_n)) pa_n))))) (g_n (i := 12) sc_law_row.nd rfl (Or.inl rfl)) (ss_one (s_expr (pd_w PySem.F.plainAttrs_list PySem.F.slot_list_append PySem.F.type_list_append mt_append mw_app (pv 15) (pa_k (pd_tup (pa_k (pd_w PySem.F.plainAttrs_list PySem.F.slot_list_pop PySem.F.type_list_pop mt_popAt mw_pop (pv 13) (pa_k (pd_call O_law_take (hr.mono (by decide)) (by rfl) g_law_take.m g_law_take.k g_law_take.b (pa_k (pd_v 0 (pv 0)) (pa_k (pd_callB call_lenA cd_len (by rfl) T.len PySem.boot_len (pa_s (pv 13) pa_n)) pa_n))) pa_n)) (pa_k (pd_w PySem.F.plainAttrs_list PySem.F.slot_list_pop PySem.F.type_list_pop mt_popAt mw_pop (pv 14) (pa_k (pd_call O_law_take (hr.mono (by decide)) (by rfl) g_law_take.m g_law_take.k g_law_take.b (pa_k (pd_v 0 (pv 0)) (pa_k (pd_callB call_lenA cd_len (by rfl) T.len PySem.boot_len (pa_s (pv 14) pa_n)) pa_n))) pa_n)) pa_n))) pa_n)))))
      (ss_one (s_ret (pd_tup (pa_k (pd_tup (pa_k (pd_callTy call_tuple_of cd_tup (by rfl) T.tuple PyProof.Rows.boot_tuple (pa_k (pd_slS sl_any sd_sl (pv 6) po_n (po_s (pd_v 4 (pv 4)))) pa_n)) (pa_k (pd_callTy call_tuple_of cd_tup (by rfl) T.tuple PyProof.Rows.boot_tuple (pa_s (pv 8) pa_n)) (pa_k (pd_callTy call_tuple_of cd_tup (by rfl) T.tuple PyProof.Rows.boot_tuple (pa_s (pv 11) pa_n)) pa_n)))) (pa_k (pd_callTy call_tuple_of cd_tup (by rfl) T.tuple PyProof.Rows.boot_tuple (pa_s (pv 15) pa_n)) pa_n)))))))))))))))))), ?_⟩
  refine ⟨rfl, d, c, _, rfl, rfl, by omega, by omega, fun n1 h1 => ⟨.inl rfl, ?_⟩⟩
  refine ⟨rfl, d, c, _, rfl, rfl, by omega, by omega, fun n2 h2 => ⟨.inl rfl, ?_⟩⟩
  refine ⟨rfl, d, c, n1 + n2, rfl, rfl, by omega, fun xs lx nd gn => ⟨.inl rfl, ?_⟩⟩
  refine ⟨rfl, by decide, ?_⟩
  dsimp only
  refine seq_cut (fun ρ => ∃ (gs : List (Str × Str × List Str)) (s7 s9 : Sl), ρ = [.val (.raw (.ref d)), .val (.int a), .val (.int b), .val (.int m), .val (.int n1), .val (.int n2), .own (.lst (xs.map D.str)), s7, .own (.lst (gs.map encG)), s9, .no, .no, .no, .no, .no, .no] ∧
    gs.map (·.1) = xs.drop n1 ∧ GatesOk (xs.take n1) gs) (fun N hN => ?_) ?_
  · refine for_at ((xs.drop n1).map D.str) [.val (.raw (.ref d)), .val (.int a), .val (.int b), .val (.int m), .val (.int n1), .val (.int n2), .own (.lst (xs.map D.str)), .own (.lst ((xs.take n1).map D.str)), .own (.lst []), .no, .no, .no, .no, .no, .no, .no] (fun Ψ h => ?_)
      (fun i ρ => ∃ (gs : List (Str × Str × List Str)) (s9 : Sl), ρ = [.val (.raw (.ref d)), .val (.int a), .val (.int b), .val (.int m), .val (.int n1), .val (.int n2), .own (.lst (xs.map D.str)), .own (.lst ((xs.take n1 ++ gs.map (·.1)).map D.str)), .own (.lst (gs.map encG)), s9, .no, .no, .no, .no, .no, .no] ∧
      gs.map (·.1) = (xs.drop n1).take i ∧ GatesOk (xs.take n1) gs) ⟨[], .no, by simp, by simp, trivial⟩ ?_ ?_
    · rw [← cut_take, ← cut_drop] at h
      exact ⟨rfl, h⟩
    · rintro i x ρ hx ⟨gs, s9, rfl, hg, ok⟩
      obtain ⟨y, hy, rfl⟩ := map_item hx
      have hgl : gs.length ≤ 40 := by have := congrArg List.length hg; simp only [List.length_map, List.length_take, List.length_drop] at this; omega
      refine ⟨rfl, (by show 1 ≤ 1000; decide), d, c, xs.take n1 ++ gs.map (·.1), rfl, rfl, by simp; omega, fun wd ps hok hp => ⟨.inl rfl, (by show 1 + 2 ≤ 100000; decide), (by show (gs.map encG).length < 100000; simp; omega), rfl, (by show 1 ≤ 1000; decide), (by show ((xs.take n1 ++ gs.map (·.1)).map D.str).length + 1 ≤ 100000; simp; omega), gs ++ [(y, wd, ps)], .val (.str y), ?_, ?_, ok.snoc hok hp⟩⟩
      · simp [encG]
      · rw [List.map_append, hg, List.take_add_one, hy]; rfl
    · rintro ρ ⟨gs, s9, rfl, hg, ok⟩
      rw [List.length_map, List.take_of_length_le (Nat.le_refl _)] at hg
      exact hN _ ⟨gs, _, s9, rfl, hg, ok⟩
  rintro ρ ⟨gs, s7, s9, rfl, hg, ok⟩
  have hgl : gs.length = n2 := by have := congrArg List.length hg; simp only [List.length_map, List.length_drop] at this; omega
  have gnd : (gs.map (·.1)).Nodup := by rw [hg]; exact nd.sublist (List.drop_sublist _ _)
  refine ⟨rfl, by decide, ?_⟩
  dsimp only
  refine seq_cut (fun ρ => ∃ (os : List Str) (s10 s12 : Sl), ρ = [.val (.raw (.ref d)), .val (.int a), .val (.int b), .val (.int m), .val (.int n1), .val (.int n2), .own (.lst (xs.map D.str)), s7, .own (.lst (gs.map encG)), s9, s10, .own (.lst (os.map D.str)), s12, .no, .no, .no] ∧
    os.Nodup ∧ (∀ o ∈ os, o ∈ gs.map (·.1)) ∧ os.length ≤ 6) (fun N hN => ?_) ?_
  · refine ⟨d, c, 7, rfl, rfl, by decide, by decide, fun k7 hk7 => ⟨.inl rfl, rfl, rfl, _, rfl, fun q hq q1 q2 => ?_⟩⟩
    have q2' : q ≤ ((cutD (xs.map D.str) (some (n1 : Int)) none).length : Nat) := q2
    rw [cut_drop, ← hg] at q2' ⊢
    simp only [List.length_map] at q2'
    obtain ⟨q, rfl⟩ : ∃ n : Nat, q = n := ⟨q.toNat, by rcases hq with z | z <;> omega⟩
    obtain ⟨G0, hG0⟩ : ∃ G0 : List Str, G0 = gs.map (·.1) := ⟨_, rfl⟩
    refine ⟨by omega, by omega, fun i ρ => ∃ (os left : List Str) (s12 : Sl), ρ = [.val (.raw (.ref d)), .val (.int a), .val (.int b), .val (.int m), .val (.int n1), .val (.int n2), .own (.lst (xs.map D.str)), s7, .own (.lst (gs.map encG)), s9, .own (.lst (left.map D.str)), .own (.lst (os.map D.str)), s12, .no, .no, .no] ∧
      (os ++ left).Nodup ∧ (∀ o ∈ os ++ left, o ∈ G0) ∧ os.length = i ∧ left.length + i = gs.length, ⟨[], G0, .no, by rw [hG0]; rfl, by rw [hG0]; exact gnd, fun o ho => ho, rfl, by rw [hG0]; simp⟩, ?_, ?_⟩
    · rintro i x ρ hx ⟨os, left, s12, rfl, ond, oin, ol, ll⟩
      obtain ⟨hi, rfl⟩ := ints_item hx
      rw [Int.toNat_natCast] at hi
      refine ⟨rfl, rfl, rfl, rfl, _, rfl, d, c, _, rfl, rfl, (by show (0 : Int) < ((left.map D.str).length : Nat); simp; omega), (by show ((left.map D.str).length : Int) < 1000000; simp; omega), fun j hj => ⟨.inr rfl, ?_⟩⟩
      have hj' : j < left.length := by have : (j : Int) < ((left.map D.str).length : Nat) := hj; simp at this; omega
      obtain ⟨y, hy⟩ : ∃ y, left[j]? = some y := ⟨_, List.getElem?_eq_getElem hj'⟩
      obtain ⟨p1, p2, p3⟩ := sel_split hy ond
      refine ⟨j, .str y, by omega, by omega, (by show seqIndex? _ (left.map D.str).length = _; rw [List.length_map]; exact pop_ok hj'), (by show (left.map D.str)[j]? = _; rw [List.getElem?_map, hy]; rfl), (by show (os.map D.str).length < 100000; simp; omega), os ++ [y], left.eraseIdx j, .val (.int (0 + (i : Int))), ?_, p1, fun o ho => oin o (p2 o ho), by simp [ol], by omega⟩
      simp [map_erase]
    · rintro ρ ⟨os, left, s12, rfl, ond, oin, ol, ll⟩
      exact hN _ ⟨os, _, s12, rfl, (List.nodup_append.mp ond).1, fun o ho => by have := oin o (List.mem_append_left _ ho); rw [hG0] at this; exact this, by rw [ol]; simp [intsD]; omega⟩
  rintro ρ ⟨os, s10, s12, rfl, ond, oin, ol⟩
  refine ⟨rfl, _, rfl, rfl, by decide, ?_⟩
  dsimp only
  have tnd : (xs.take n1).Nodup := nd.sublist (List.take_sublist _ _)
  have tl : (xs.take n1).length = n1 := by simp; omega
  refine seq_cut (fun ρ => ∃ (al : List (Str × Str)) (s12 s13 s14 : Sl), ρ = [.val (.raw (.ref d)), .val (.int a), .val (.int b), .val (.int m), .val (.int n1), .val (.int n2), .own (.lst (xs.map D.str)), s7, .own (.lst (gs.map encG)), s9, s10, .own (.lst (os.map D.str)), s12, s13, s14, .own (.lst (al.map encP))] ∧
    (al.map fun p => p.1).Nodup ∧ (al.map fun p => p.2).Nodup ∧ (∀ p ∈ al, p.1 ∈ os ∧ p.2 ∈ xs.take n1) ∧ al.length ≤ 4) (fun N hN => ?_) ?_
  · refine ⟨rfl, d, c, _, rfl, rfl, by omega, by omega, fun k7 hk7 => ⟨.inl rfl, rfl, rfl, _, rfl, rfl, rfl, _, rfl, fun q hq q1 q2 q3 => ?_⟩⟩
    have q3' : q ≤ ((cutD (xs.map D.str) none (some (n1 : Int))).length : Nat) := q3
    have q2' : q ≤ ((os.map D.str).length : Nat) := q2
    rw [cut_take] at q3' ⊢
    rw [List.length_map] at q3' q2'
    obtain ⟨q, rfl⟩ : ∃ n : Nat, q = n := ⟨q.toNat, by rcases hq with z | z | z <;> omega⟩
    refine ⟨by omega, by omega, fun i ρ => ∃ (al : List (Str × Str)) (ol il : List Str) (s12 : Sl), ρ = [.val (.raw (.ref d)), .val (.int a), .val (.int b), .val (.int m), .val (.int n1), .val (.int n2), .own (.lst (xs.map D.str)), s7, .own (.lst (gs.map encG)), s9, s10, .own (.lst (os.map D.str)), s12, .own (.lst (ol.map D.str)), .own (.lst (il.map D.str)), .own (.lst (al.map encP))] ∧
      ((al.map fun p => p.1) ++ ol).Nodup ∧ ((al.map fun p => p.2) ++ il).Nodup ∧ (∀ o ∈ (al.map fun p => p.1) ++ ol, o ∈ os) ∧ (∀ o ∈ (al.map fun p => p.2) ++ il, o ∈ xs.take n1) ∧ al.length = i ∧ ol.length + i = os.length ∧ il.length + i = (xs.take n1).length,
      ⟨[], os, xs.take n1, _, rfl, ond, tnd, fun o ho => ho, fun o ho => ho, rfl, by simp, by simp⟩, ?_, ?_⟩
    · rintro i x ρ hx ⟨al, ol, il, s12, rfl, n1', n2', m1, m2, la, lo, li⟩
      obtain ⟨hi, rfl⟩ := ints_item hx
      rw [Int.toNat_natCast] at hi
      refine ⟨rfl, rfl, rfl, rfl, _, rfl, d, c, _, rfl, rfl, (by show (0 : Int) < ((ol.map D.str).length : Nat); simp; omega), (by show ((ol.map D.str).length : Int) < 1000000; simp; omega), fun j hj => ⟨.inr rfl, ?_⟩⟩
      have hj' : j < ol.length := by have : (j : Int) < ((ol.map D.str).length : Nat) := hj; simp at this; omega
      obtain ⟨y, hy⟩ : ∃ y, ol[j]? = some y := ⟨_, List.getElem?_eq_getElem hj'⟩
      obtain ⟨p1, p2, p3⟩ := sel_split hy n1'
      refine ⟨j, .str y, by omega, by omega, (by show seqIndex? _ (ol.map D.str).length = _; rw [List.length_map]; exact pop_ok hj'), (by show (ol.map D.str)[j]? = _; rw [List.getElem?_map, hy]; rfl), ?_⟩
      refine ⟨rfl, rfl, rfl, _, rfl, d, c, _, rfl, rfl, (by show (0 : Int) < ((il.map D.str).length : Nat); simp; omega), (by show ((il.map D.str).length : Int) < 1000000; simp; omega), fun j2 hj2 => ⟨.inr rfl, ?_⟩⟩
      have hj2' : j2 < il.length := by have : (j2 : Int) < ((il.map D.str).length : Nat) := hj2; simp at this; omega
      obtain ⟨y2, hy2⟩ : ∃ y, il[j2]? = some y := ⟨_, List.getElem?_eq_getElem hj2'⟩
      obtain ⟨p4, p5, p6⟩ := sel_split hy2 n2'
      refine ⟨j2, .str y2, by omega, by omega, (by show seqIndex? _ (il.map D.str).length = _; rw [List.length_map]; exact pop_ok hj2'), (by show (il.map D.str)[j2]? = _; rw [List.getElem?_map, hy2]; rfl), (by show 2 ≤ 1000; decide), (by show (al.map encP).length < 100000; simp; omega), al ++ [(y, y2)], ol.eraseIdx j, il.eraseIdx j2, .val (.int (0 + (i : Int))), ?_, by simpa using p1, by simpa using p4, fun o ho => m1 o (p2 o (by simpa using ho)), fun o ho => m2 o (p5 o (by simpa using ho)), by simp [la], by omega, by omega⟩
      simp [encP, map_erase]
    · rintro ρ ⟨al, ol, il, s12, rfl, n1', n2', m1, m2, la, lo, li⟩
      refine hN _ ⟨al, _, _, _, rfl, (List.nodup_append.mp n1').1, (List.nodup_append.mp n2').1, fun p hp => ⟨m1 _ (List.mem_append_left _ (List.mem_map.mpr ⟨p, hp, rfl⟩)), m2 _ (List.mem_append_left _ (List.mem_map.mpr ⟨p, hp, rfl⟩))⟩, ?_⟩
      rw [la]; simp [intsD]; omega
  rintro ρ ⟨al, s12, s13, s14, rfl, n1', n2', am, la⟩
  have fin := hΦ ⟨xs.take n1, gs, os⟩ al ⟨⟨?_, ?_, ok, fun o ho => ?_, ond, ?_, ?_, ol⟩, oin, n1', n2', am, la⟩
  · unfold encRow encC at fin
    dsimp only at fin
    rw [← cut_take] at fin
    exact ⟨rfl, rfl, rfl, (by show 3 ≤ 1000; decide), rfl, (by show 2 ≤ 1000; decide), fin⟩
  · show (xs.take n1 ++ gs.map (·.1)).Nodup
    rw [hg, List.take_append_drop]; exact nd
  · intro x hx
    have hx : x ∈ xs.take n1 ++ gs.map (·.1) := hx
    rw [hg, List.take_append_drop] at hx
    exact gn x hx
  · exact List.mem_append_right _ (oin o ho)
  · show (xs.take n1).length ≤ 6; omega
  · show gs.length ≤ 24; omega
end
end Lw
namespace Lw
open PySem L2
noncomputable def R_ci : RD := fun dk ds Φ => ∃ C al, ds = [encRow C al] ∧ al.length ≤ 100 ∧ Φ (.own (.lst (al.map fun p => D.str p.2)))
noncomputable def R_edges : RD := fun dk ds Φ => ∃ C al, ds = [encRow C al] ∧ al.length ≤ 100 ∧ Φ (.own (.lst (List.replicate (al.length + 1) (D.int 0))))
noncomputable def R_told : RD := fun dk ds Φ => ∃ (C : Cel) (cr : Tab), ds = [encC C, .dK (encT cr)] ∧ Good C ∧ (∀ x, 0 ≤ look cr x) ∧ Φ (.val (.dK (encT (tbl C.ins C.gates (look cr)))))
noncomputable def stD (cr : Tab) (e : Int) : D := .lst ((cr.map fun p => D.int p.2) ++ [.int e])
noncomputable def R_more : RD := fun dk ds Φ => ∃ (C : Cel) (al : List (Str × Str)) (cr : Tab) (e : Int), ds = [encRow C al, stD cr e] ∧ GoodRow C al ∧ cr.map (·.1) = al.map (·.2) ∧ (∀ x, 0 ≤ look cr x) ∧ Φ (.own (stD (car al (tbl C.ins C.gates (look cr))) (mx (C.outs.map (look (tbl C.ins C.gates (look cr)))))))
noncomputable def MxC (C : Cel) (al : List (Str × Str)) (i : Nat) : Int := Mx C.ins C.gates al C.outs i
noncomputable def lateAt (C : Cel) (al : List (Str × Str)) : Nat → Int
  | 0 => 0
  | i + 1 => MxC C al i
noncomputable def R_lto : RD := fun dk ds Φ => ∃ (C : Cel) (al : List (Str × Str)) (w : Nat), ds = [encRow C al, .int w] ∧ GoodRow C al ∧ w ≤ 20000 ∧ Φ (.own (.lst ((List.range (w + 1)).map fun i => D.int (lateAt C al i))))
noncomputable def R_latest : RD := fun dk ds Φ => ∃ (C : Cel) (al : List (Str × Str)) (w : Nat), ds = [encRow C al, .int w] ∧ GoodRow C al ∧ w ≤ 20000 ∧ Φ (.val (.int (lateAt C al w)))
noncomputable def realG (C : Cel) : Nat := (C.gates.filter fun g => !g.2.2.isEmpty).length
noncomputable def R_gc : RD := fun dk ds Φ => ∃ (C : Cel) (al : List (Str × Str)) (w : Nat), ds = [encRow C al, .int w] ∧ GoodRow C al ∧ w ≤ 20000 ∧ Φ (.val (.int (w * (realG C : Nat))))
theorem gates_at : ∀ {gs : Gts} {kn : List Str} {i : Nat} {g : Str × Str × List Str}, GatesOk kn gs → gs[i]? = some g → ArOk g.2.1 g.2.2.length ∧ ∀ p ∈ g.2.2, p ∈ kn ++ (gs.take i).map (·.1)
  | a :: r, kn, 0, g, h, e => by
    simp at e
    subst e
    exact ⟨h.1, by simpa using h.2.1⟩
  | a :: r, kn, i + 1, g, h, e => by
    obtain ⟨h1, h2⟩ := gates_at (gs := r) (i := i) h.2.2 (by simpa using e)
    exact ⟨h1, fun p hp => by have := h2 p hp; simpa using this⟩
theorem ints_look (t : Tab) (xs : List Str) : intsOf (xs.map fun o => D.int (look t o)) = some (xs.map (look t)) := by
  have := intsOf_map (xs.map (look t))
  rwa [List.map_map] at this
theorem nd_output_name : (["output", "name"] : List Str).Nodup := by decide +kernel
theorem nd_name_word_names : (["name", "word", "names"] : List Str).Nodup := by decide +kernel
theorem nd_name_carried : (["name", "carried"] : List Str).Nodup := by decide +kernel
theorem nd_other_lates : (["other", "lates"] : List Str).Nodup := by decide +kernel
section
variable {P : Program} {w : World} {K : PySem.W.Frag} {mg : Str → Option Value} {base : Heap}
theorem sc_carried_inputs : FnScope ["row"] ["row"] (defScope s_carried_inputs) := ⟨rfl, rfl, rfl, by decide +kernel, rfl, by decide +kernel, by decide +kernel⟩
theorem ok_ci {f : Addr} {fd : FuncData} (F : Fun K "carried_inputs" "carried_inputs" s_carried_inputs f fd) (T : Txt mg) : FnOk P w K mg base CX0 1 f fd ["row"] (spD K R_ci) := by
  refine F.okD (k := 0) sc_carried_inputs (fun dk ds Φ ⟨_, _, e, _⟩ => by rw [e]; rfl) (by decide) fun cdv A outer s H E dk ds Φ hr hR => ?_
  have hu := hu_of hr
  obtain ⟨C, al, rfl, hl, hΦ⟩ := hR
  refine ⟨_, (ss_one (s_ret (pd_lc ["output", "name"] [] [] rfl (i_v (pd_ixS hu (pv 0) pd_int)) rfl rfl (fun _ _ _ _ _ => (g_t (n := 2) rfl (gs_c (g_n (i := 0) nd_output_name rfl (Or.inl rfl)) (gs_c (g_n (i := 1) nd_output_name rfl (Or.inl rfl)) gs_n)))) (fun _ _ _ _ _ => ifs_n) (fun _ _ _ _ _ => (pd_v 1 (pv 1)))))), ?_⟩
  exact lc_all al encP (fun p => .str p.2) [.val (encRow C al)] (fun Ψ h => ⟨rfl, _, rfl, h⟩) (by omega) (fun i p ys Nx e h1 h2 => ⟨rfl, rfl, h1, h2⟩) hΦ
theorem sc_at_edges : FnScope ["row"] ["row"] (defScope s_at_edges) := ⟨rfl, rfl, rfl, by decide +kernel, rfl, by decide +kernel, by decide +kernel⟩
theorem ok_edges {f : Addr} {fd : FuncData} (F : Fun K "at_edges" "at_edges" s_at_edges f fd) (T : Txt mg) : FnOk P w K mg base CX0 1 f fd ["row"] (spD K R_edges) := by
  refine F.okD (k := 0) sc_at_edges (fun dk ds Φ ⟨_, _, e, _⟩ => by rw [e]; rfl) (by decide) fun cdv A outer s H E dk ds Φ hr hR => ?_
  have hu := hu_of hr
  obtain ⟨C, al, rfl, hl, hΦ⟩ := hR
  refine ⟨_, (ss_one (s_ret (pd_op op_times od_mul (pd_lst (pa_k pd_int pa_n)) (pd_op op_plus od_add (pd_callB call_lenA cd_len (by rfl) T.len PySem.boot_len (pa_k (pd_ixS hu (pv 0) pd_int) pa_n)) pd_int)))), ?_⟩
  refine ⟨(by show 1 ≤ 1000; decide), rfl, _, rfl, rfl, _, rfl, ?_⟩
  refine ⟨by show (0 : Int) ≤ ((al.map encP).length : Nat) + 1; omega, by show (((al.map encP).length : Nat) : Int) + 1 ≤ 1000; rw [List.length_map]; omega, by show 1 ≤ 100; decide, ?_⟩
  have e : (List.replicate ((((al.map encP).length : Nat) : Int) + 1).toNat [D.int 0]).flatten = List.replicate (al.length + 1) (D.int 0) := by
    rw [List.length_map, show ((al.length : Int) + 1).toNat = al.length + 1 by omega]
    generalize al.length + 1 = n
    induction n with
    | zero => rfl
    | succ n ih => rw [List.replicate_succ, List.flatten_cons, ih]; rfl
  rw [← e] at hΦ
  exact hΦ
theorem sc_gate_count : FnScope ["row", "width"] ["row", "width"] (defScope s_gate_count) := ⟨rfl, rfl, rfl, by decide +kernel, rfl, by decide +kernel, by decide +kernel⟩
theorem ok_gc {f : Addr} {fd : FuncData} (F : Fun K "gate_count" "gate_count" s_gate_count f fd) (T : Txt mg) : FnOk P w K mg base CX0 1 f fd ["row", "width"] (spD K R_gc) := by
  refine F.okD (k := 0) sc_gate_count (fun dk ds Φ ⟨_, _, _, e, _⟩ => by rw [e]; rfl) (by decide) fun cdv A outer s H E dk ds Φ hr hR => ?_
  have hu := hu_of hr
  obtain ⟨C, al, w, rfl, hg, hw, hΦ⟩ := hR
  refine ⟨_, (ss_one (s_ret (pd_opS op_times od_mul (pv 1) (pd_callB call_lenA cd_len (by rfl) T.len PySem.boot_len (pa_k (pd_lc ["name", "word", "names"] [] [] rfl (i_v (pd_ix hu (pd_ixS hu (pv 0) pd_int) pd_int)) rfl rfl (fun _ _ _ _ _ => (g_t (n := 3) rfl (gs_c (g_n (i := 0) nd_name_word_names rfl (Or.inl rfl)) (gs_c (g_n (i := 1) nd_name_word_names rfl (Or.inl rfl)) (gs_c (g_n (i := 2) nd_name_word_names rfl (Or.inl rfl)) gs_n))))) (fun _ _ _ _ _ => (ifs_1 (pdt_vS (pv 2)))) (fun _ _ _ _ _ => (pd_v 0 (pv 0)))) pa_n))))), ?_⟩
  refine ⟨rfl, ?_⟩
  unfold dC aC
  refine lc_at C.gates encG (fun g => .str g.1) (fun g => !g.2.2.isEmpty) [.val (encRow C al), .val (.int w)] (fun Ψ h => ⟨rfl, _, rfl, _, rfl, h⟩) ?_ (fun i g ys Nx e h1 h2 h3 => ⟨rfl, rfl, rfl, _, rfl, ?_⟩) ?_
  · have := hg.good.lg; omega
  · show if (!(g.2.2.map D.str).isEmpty) = true then _ else _
    rw [show (g.2.2.map D.str).isEmpty = g.2.2.isEmpty by cases g.2.2 <;> rfl]
    cases q : g.2.2.isEmpty with
    | true => exact h3 (by rw [q]; rfl)
    | false => exact ⟨h1, h2 (by rw [q]; rfl)⟩
  · refine ⟨rfl, _, rfl, .inl ⟨by show -(2 ^ 64) < (w : Int); omega, by show (w : Int) < 2 ^ 64; omega⟩, ?_⟩
    have e : (((C.gates.filter fun g => !g.2.2.isEmpty).map fun g => D.str g.1).length : Nat) = realG C := by rw [List.length_map]; rfl
    show Φ (.val (.int ((w : Int) * ((((C.gates.filter fun g => !g.2.2.isEmpty).map fun g => D.str g.1).length : Nat) : Int))))
    rw [e]
    exact hΦ
theorem sc_told_lates : FnScope ["cell", "carried", "lates", "name", "word", "names"] ["cell", "carried"] (defScope s_told_lates) := ⟨rfl, rfl, rfl, by decide +kernel, rfl, by decide +kernel, by decide +kernel⟩
set_option maxHeartbeats 1000000 in
theorem ok_told {f : Addr} {fd : FuncData} (F : Fun K "told_lates" "told_lates" s_told_lates f fd) (T : Txt mg) : FnOk P w K mg base CX0 1 f fd ["cell", "carried"] (spD K R_told) := by
  refine F.okD (k := 0) sc_told_lates (fun dk ds Φ ⟨_, _, e, _⟩ => by rw [e]; rfl) (by decide) fun cdv A outer s H E dk ds Φ hr hR => ?_
  have hu := hu_of hr
  obtain ⟨C, cr, rfl, hg, h0, hΦ⟩ := hR
  refine ⟨_, (ss_cons (s_set (i := 2) sc_told_lates.nd rfl (Or.inr rfl) (pd_callTy (call_dictA rfl) cd_dict (by rfl) T.dict PyProof.Rows.boot_dict (pa_k (pd_lc ["name"] ["carried"] [1] rfl (i_v (pd_ixS hu (pv 0) pd_int)) rfl rfl (fun _ _ _ _ _ => (g_n (i := 0) nd_name_carried rfl (Or.inl rfl))) (fun _ _ _ _ _ => ifs_n) (fun _ _ _ _ _ => (pd_tup (pa_k (pd_v 0 (pv 0)) (pa_k (pd_get hu (pv 1) (pd_v 0 (pv 0)) pd_int) pa_n))))) pa_n)))
      (ss_cons (s_for (m := 99) PassesOwn.never rfl (i_v (pd_ixS hu (pv 0) pd_int)) (g_t (n := 3) rfl (gs_c (g_n (i := 3) sc_told_lates.nd rfl (Or.inl rfl)) (gs_c (g_n (i := 4) sc_told_lates.nd rfl (Or.inl rfl)) (gs_c (g_n (i := 5) sc_told_lates.nd rfl (Or.inl rfl)) gs_n)))) (ss_one (s_sub (n := 2) hu (pd_op op_plus od_add pd_int (pd_maxD rfl (by rfl) T.max (pd_lc ["other"] ["lates"] [2] rfl (i_v (pd_v 5 (pv 5))) rfl rfl (fun _ _ _ _ _ => (g_n (i := 0) nd_other_lates rfl (Or.inl rfl))) (fun _ _ _ _ _ => ifs_n) (fun _ _ _ _ _ => (pd_ixS hu (pv 1) (pd_v 0 (pv 0))))) (pd_neg pd_int))) (pv 2) (pd_v 3 (pv 3)))))
      (ss_one (s_ret (pd_v 2 (pv 2)))))), ?_⟩
  unfold sSeq sSet dC aC
  refine lc_all C.ins D.str (fun n => .tup [.str n, .int (look cr n)]) [.val (encC C), .val (.dK (encT cr)), .no, .no, .no, .no] (fun Ψ h => ⟨rfl, _, rfl, h⟩) (by have := hg.li; omega) (fun i n ys Nx e h1 h2 => ?_) ?_
  · rw [← valT_get] at h2
    exact ⟨rfl, _, rfl, by show 2 ≤ 1000; decide, h1, h2⟩
  have insnd : C.ins.Nodup := (List.nodup_append.mp hg.nd).1
  have e0 : pairK (C.ins.map fun n => D.tup [.str n, .int (look cr n)]) = some (encT (C.ins.map fun n => (n, look cr n))) := by
    rw [pairK_map (g := fun n => ((Sum.inr n : Key), D.int (look cr n))) (fun n => ⟨.str n, rfl, rfl⟩)]
    simp [encT]
  refine ⟨_, e0, by simp [encT]; have := hg.li; omega, ?_⟩
  rw [merge_new (by simpa [Function.comp_def] using insnd)]
  dsimp only
  refine for_at (C.gates.map encG) [.val (encC C), .val (.dK (encT cr)), .own (.dK (encT (C.ins.map fun n => (n, look cr n)))), .no, .no, .no] (fun Ψ h => ⟨rfl, _, rfl, h⟩)
    (fun i ρ => ∃ s3 s4 s5 : Sl, ρ = [.val (encC C), .val (.dK (encT cr)), .own (.dK (encT (tbl C.ins (C.gates.take i) (look cr)))), s3, s4, s5]) ⟨.no, .no, .no, by simp [tbl]⟩ ?_ ?_
  · rintro i x ρ hx ⟨s3, s4, s5, rfl⟩
    obtain ⟨g, hgi, rfl⟩ := map_item hx
    obtain ⟨har, hps⟩ := gates_at hg.gt hgi
    have hk := tbl_keys C.ins (C.gates.take i) (look cr)
    have hnn := tbl_nonneg (ins := C.ins) (gs := C.gates.take i) h0
    have hnew : g.1 ∉ (tbl C.ins (C.gates.take i) (look cr)).map (·.1) := by
      rw [hk]
      have nd : (C.ins ++ C.gates.map (·.1)).Nodup := hg.nd
      intro q
      have e : C.gates = C.gates.take i ++ g :: C.gates.drop (i + 1) := by
        obtain ⟨hi, rfl⟩ := List.getElem?_eq_some_iff.mp hgi
        rw [List.getElem_cons_drop, List.take_append_drop]
      rw [e, List.map_append, ← List.append_assoc] at nd
      exact (List.nodup_append.mp nd).2.2 g.1 q g.1 (by simp) rfl
    have step : tbl C.ins (C.gates.take (i + 1)) (look cr) = tbl C.ins (C.gates.take i) (look cr) ++ [(g.1, mx (g.2.2.map fun o => 1 + look (tbl C.ins (C.gates.take i) (look cr)) o))] := by
      unfold tbl
      rw [List.take_add_one, hgi, List.foldl_append]
      rfl
    generalize hT : tbl C.ins (C.gates.take i) (look cr) = t at hk hnn hnew step ⊢
    refine ⟨rfl, rfl, ?_⟩
    unfold sSub d2 cd dMaxD
    dsimp only
    refine lc_all g.2.2 D.str (fun o => .int (look t o)) [.val (encC C), .val (.dK (encT cr)), .own (.dK (encT t)), .val (.str g.1), .val (.str g.2.1), .val (.tup (g.2.2.map D.str))] (fun Ψ h => h) (by rcases har with q | q | q <;> omega) (fun j o ys Nx e h1 h2 => ?_) ?_
    · refine ⟨rfl, .int (look t o), ?_, h1, h2⟩
      have := (valT t o).1 (by rw [hk]; exact hps o (List.mem_of_getElem? e))
      show some (valD (encT t) (Sum.inr o)) = _
      rw [this]
    · have fin : ∀ m : Int, m = mx (g.2.2.map fun o => 1 + look t o) → ∃ c', setD (.dK (encT t)) (.str g.1) (.int m) = some c' ∧ ∃ s3 s4 s5 : Sl, [.val (encC C), .val (.dK (encT cr)), .own c', .val (.str g.1), .val (.str g.2.1), .val (.tup (g.2.2.map D.str))] = [.val (encC C), .val (.dK (encT cr)), .own (.dK (encT (tbl C.ins (C.gates.take (i + 1)) (look cr)))), s3, s4, s5] := fun m hm => by
        refine ⟨.dK (encT (t ++ [(g.1, m)])), ?_, _, _, _, by rw [step, hm]⟩
        have : (encT t).length < 100000 := by
          have := congrArg List.length hk
          simp only [List.length_map, List.length_append, List.length_take] at this
          have h1 := hg.li
          have h2 := hg.lg
          simp [encT]; omega
        simp only [setD, if_pos this]
        show some (D.dK (putD (encT t) (Sum.inr g.1) (.int m))) = _
        rw [put_new hnew]
      refine ⟨_, ints_look t g.2.2, fun e => ?_, fun m hm hh => ?_⟩
      · refine ⟨rfl, fin _ ?_⟩
        rw [List.map_eq_nil_iff.mp e]; rfl
      · refine ⟨rfl, fin _ ?_⟩
        obtain ⟨o, ho, rfl⟩ := List.mem_map.mp hm
        have := hnn o
        refine mx_of (.inr (List.mem_map.mpr ⟨o, ho, rfl⟩)) (by omega) fun a ha => ?_
        obtain ⟨o', ho', rfl⟩ := List.mem_map.mp ha
        have := hh _ (List.mem_map.mpr ⟨o', ho', rfl⟩)
        omega
  · rintro ρ ⟨s3, s4, s5, rfl⟩
    rw [List.length_map, List.take_of_length_le (Nat.le_refl _)]
    exact hΦ
end
end Lw
namespace Lw
open PySem L2
theorem keys_al (al : List (Str × Str)) : keysL (al.map fun p => D.str p.2) = some (al.map fun p => (Sum.inr p.2 : Key)) := by
  have := keysL_strs (al.map (·.2))
  simpa [Function.comp_def] using this
theorem zip_go (e : Int) : ∀ cr : Tab, ((cr.map fun p => (Sum.inr p.1 : Key))).zip ((cr.map fun p => D.int p.2) ++ [.int e]) = encT cr
  | [] => rfl
  | p :: cr => by
    rw [List.map_cons, List.map_cons, List.cons_append, List.zip_cons_cons, zip_go e cr]; rfl
theorem zip_al {al : List (Str × Str)} {cr : Tab} (e : Int) (h : cr.map (·.1) = al.map (·.2)) : (al.map fun p => (Sum.inr p.2 : Key)).zip ((cr.map fun p => D.int p.2) ++ [.int e]) = encT cr := by
  rw [← zip_go e cr]
  congr 1
  have := congrArg (List.map (Sum.inr : Str → Key)) h
  simpa [Function.comp_def] using this.symm
theorem atI_last {α : Type} {xs : List α} {a : α} : atI (xs ++ [a]) (-1) = some a := by
  have e : ixN (xs ++ [a]).length (-1) = some xs.length := by
    unfold ixN
    rw [if_neg (by decide), List.length_append, List.length_singleton, if_pos (by omega)]
    congr 1; omega
  unfold atI
  rw [e]
  simp
theorem states_last {α : Type} (f : Nat → α) (i : Nat) : atI ((List.range (i + 1)).map f) (-1) = some (f i) := by
  rw [List.range_succ, List.map_append]; exact atI_last
theorem nd_output_name_lates : (["output", "name", "lates"] : List Str).Nodup := by decide +kernel
theorem nd_name_lates : (["name", "lates"] : List Str).Nodup := by decide +kernel
theorem nd_state : (["state"] : List Str).Nodup := by decide +kernel
section
variable {P : Program} {w : World} {K : PySem.W.Frag} {mg : Str → Option Value} {base : Heap}
theorem sc_one_cell_more : FnScope ["row", "state", "carried", "lates", "onward"] ["row", "state"] (defScope s_one_cell_more) := ⟨rfl, rfl, rfl, by decide +kernel, rfl, by decide +kernel, by decide +kernel⟩
set_option maxHeartbeats 1000000 in
theorem ok_more {f fC fT : Addr} {fd fdC fdT : FuncData} (F : Fun K "one_cell_more" "one_cell_more" s_one_cell_more f fd) (T : Txt mg) (g_carried_inputs : Gd K mg "carried_inputs" s_carried_inputs ["row"] fC fdC) (g_told_lates : Gd K mg "told_lates" s_told_lates ["cell", "carried"] fT fdT)
    (O_carried_inputs : FnOk P w K mg base CX0 1 fC fdC ["row"] (spD K R_ci)) (O_told_lates : FnOk P w K mg base CX0 1 fT fdT ["cell", "carried"] (spD K R_told)) : FnOk P w K mg base CX0 2 f fd ["row", "state"] (spD K R_more) := by
  refine F.okD (k := 1) sc_one_cell_more (fun dk ds Φ ⟨_, _, _, _, e, _⟩ => by rw [e]; rfl) (by decide) fun cdv A outer s H E dk ds Φ hr hR => ?_
  have hu := hu_of hr
  obtain ⟨C, al, cr, e, rfl, hg, hk, h0, hΦ⟩ := hR
  have hla := hg.la
  refine ⟨_, (ss_cons (s_set (i := 2) sc_one_cell_more.nd rfl (Or.inl rfl) (pd_dzip rfl (by rfl) T.dict (by rfl) T.zip (pa_k (pd_call O_carried_inputs (hr.mono (by decide)) (by rfl) g_carried_inputs.m g_carried_inputs.k g_carried_inputs.b (pa_k (pd_v 0 (pv 0)) pa_n)) (pa_k (pd_v 1 (pv 1)) pa_n))))
      (ss_cons (s_set (i := 3) sc_one_cell_more.nd rfl (Or.inr rfl) (pd_call O_told_lates (hr.mono (by decide)) (by rfl) g_told_lates.m g_told_lates.k g_told_lates.b (pa_k (pd_ixS hu (pv 0) pd_int) (pa_k (pd_v 2 (pv 2)) pa_n))))
      (ss_cons (s_setLC (i := 4) ["output", "name"] ["lates"] [3] sc_one_cell_more.nd rfl (Or.inl rfl) rfl (i_v (pd_ixS hu (pv 0) pd_int)) rfl rfl (fun _ _ _ _ _ => (g_t (n := 2) rfl (gs_c (g_n (i := 0) nd_output_name_lates rfl (Or.inl rfl)) (gs_c (g_n (i := 1) nd_output_name_lates rfl (Or.inl rfl)) gs_n)))) (fun _ _ _ _ _ => ifs_n) (fun _ _ _ _ _ => (pd_ixS hu (pv 2) (pd_v 0 (pv 0)))))
      (ss_one (s_ret (pd_opS op_plus od_add (pv 4) (pd_lst (pa_k (pd_maxD rfl (by rfl) T.max (pd_lc ["name"] ["lates"] [3] rfl (i_v (pd_ix hu (pd_ixS hu (pv 0) pd_int) pd_int)) rfl rfl (fun _ _ _ _ _ => (g_n (i := 0) nd_name_lates rfl (Or.inl rfl))) (fun _ _ _ _ _ => ifs_n) (fun _ _ _ _ _ => (pd_ixS hu (pv 1) (pd_v 0 (pv 0))))) pd_int) pa_n)))))))), ?_⟩
  refine ⟨C, al, rfl, by omega, .inl rfl, _, keys_al al, by rw [List.length_map]; omega, ?_⟩
  rw [zip_al e hk, merge_new (by rw [hk]; exact hg.n2)]
  refine ⟨rfl, _, rfl, C, cr, rfl, hg.good, h0, .inl rfl, ?_⟩
  have hkeys := tbl_keys C.ins C.gates (look cr)
  have htn := tbl_nonneg (ins := C.ins) (gs := C.gates) h0
  generalize tbl C.ins C.gates (look cr) = t at hkeys htn hΦ ⊢
  have hin : ∀ o ∈ C.outs, o ∈ t.map (·.1) := fun o ho => by rw [hkeys]; exact List.mem_append_right _ (hg.og o ho)
  have at_ : ∀ o ∈ C.outs, lookD (.dK (encT t)) (.str o) = some (some (.int (look t o))) := fun o ho => by
    show some (valD (encT t) (Sum.inr o)) = _
    rw [(valT t o).1 (hin o ho)]
  dsimp only
  unfold sSeq sSet sRet d2s dMaxD dLst aC
  dsimp only
  refine lc_all al encP (fun p => .int (look t p.1)) [.val (encRow C al), .val (stD cr e), .val (.dK (encT cr)), .val (.dK (encT t)), .no] (fun Ψ h => ⟨rfl, _, rfl, h⟩) (by omega) (fun i p ys Nx e h1 h2 => ⟨rfl, rfl, rfl, _, at_ p.1 (hg.mem p (List.mem_of_getElem? e)).1, h1, h2⟩) ?_
  refine ⟨rfl, ?_⟩
  refine lc_all C.outs D.str (fun o => .int (look t o)) [.val (encRow C al), .val (stD cr e), .val (.dK (encT cr)), .val (.dK (encT t)), .own (.lst (al.map fun (p : Str × Str) => .int (look t p.1)))] (fun Ψ h => ⟨rfl, _, rfl, _, rfl, h⟩) (by have := hg.good.lo; omega) (fun i o ys Nx e h1 h2 => ⟨rfl, _, at_ o (List.mem_of_getElem? e), h1, h2⟩) ?_
  have fin : ∀ m : Int, m = mx (C.outs.map (look t)) → [D.int m].length ≤ 1000 ∧ (al.map fun p => D.int (look t p.1)).length + [D.int m].length ≤ 100000 ∧ Φ (.own (.lst ((al.map fun p => D.int (look t p.1)) ++ [D.int m]))) := fun m hm => by
    refine ⟨by show 1 ≤ 1000; decide, by rw [List.length_map]; show al.length + 1 ≤ 100000; omega, ?_⟩
    rw [← hm] at hΦ
    unfold stD car at hΦ
    rw [List.map_map] at hΦ
    exact hΦ
  refine ⟨_, ints_look t C.outs, fun z => fin 0 (by rw [List.map_eq_nil_iff.mp z]; rfl), fun m hm hh => fin m ?_⟩
  have : 0 ≤ m := by
    obtain ⟨o, ho, rfl⟩ := List.mem_map.mp hm
    exact htn o
  exact mx_of (.inr hm) this hh
theorem sc_lates_to : FnScope ["row", "width", "states", "place"] ["row", "width"] (defScope s_lates_to) := ⟨rfl, rfl, rfl, by decide +kernel, rfl, by decide +kernel, by decide +kernel⟩
set_option maxHeartbeats 1000000 in
theorem ok_lto {f fE fM : Addr} {fd fdE fdM : FuncData} (F : Fun K "lates_to" "lates_to" s_lates_to f fd) (T : Txt mg) (g_at_edges : Gd K mg "at_edges" s_at_edges ["row"] fE fdE) (g_one_cell_more : Gd K mg "one_cell_more" s_one_cell_more ["row", "state"] fM fdM)
    (O_at_edges : FnOk P w K mg base CX0 1 fE fdE ["row"] (spD K R_edges)) (O_one_cell_more : FnOk P w K mg base CX0 2 fM fdM ["row", "state"] (spD K R_more)) : FnOk P w K mg base CX0 3 f fd ["row", "width"] (spD K R_lto) := by
  refine F.okD (k := 2) sc_lates_to (fun dk ds Φ ⟨_, _, _, e, _⟩ => by rw [e]; rfl) (by decide) fun cdv A outer s H E dk ds Φ hr hR => ?_
  have hu := hu_of hr
  obtain ⟨C, al, w, rfl, hg, hw, hΦ⟩ := hR
  have hla := hg.la
  refine ⟨_, (ss_cons (s_set (i := 2) sc_lates_to.nd rfl (Or.inl rfl) (pd_lst (pa_k (pd_call O_at_edges (hr.mono (by decide)) (by rfl) g_at_edges.m g_at_edges.k g_at_edges.b (pa_k (pd_v 0 (pv 0)) pa_n)) pa_n)))
      (ss_cons (s_for (m := 99) PassesOwn.never rfl (i_r1 (by rfl) T.range (pd_v 1 (pv 1))) (g_n (i := 3) sc_lates_to.nd rfl (Or.inl rfl)) (ss_one (s_expr (pd_w PySem.F.plainAttrs_list PySem.F.slot_list_append PySem.F.type_list_append mt_append mw_app (pv 2) (pa_k (pd_call O_one_cell_more (hr.mono (by decide)) (by rfl) g_one_cell_more.m g_one_cell_more.k g_one_cell_more.b (pa_k (pd_v 0 (pv 0)) (pa_k (pd_ixS hu (pv 2) (pd_neg pd_int)) pa_n))) pa_n)))))
      (ss_one (s_ret (pd_lc ["state"] [] [] rfl (i_v (pd_v 2 (pv 2))) rfl rfl (fun _ _ _ _ _ => (g_n (i := 0) nd_state rfl (Or.inl rfl))) (fun _ _ _ _ _ => ifs_n) (fun _ _ _ _ _ => (pd_ixS hu (pv 0) (pd_neg pd_int)))))))), ?_⟩
  refine ⟨C, al, rfl, by omega, .inl rfl, by show 1 ≤ 1000; decide, ?_⟩
  dsimp only
  refine seq_cut (fun ρ => ∃ s3 : Sl, ρ = [.val (encRow C al), .val (.int w), .own (.lst ((List.range (w + 1)).map fun i => stD (Cr C.ins C.gates al i) (lateAt C al i))), s3]) (fun N hN => ?_) ?_
  · refine for_at (intsD 0 w) [.val (encRow C al), .val (.int w), .own (.lst [.lst (List.replicate (al.length + 1) (D.int 0))]), .no] (fun Ψ h => ⟨by omega, by omega, h⟩)
      (fun i ρ => ∃ s3 : Sl, ρ = [.val (encRow C al), .val (.int w), .own (.lst ((List.range (i + 1)).map fun i => stD (Cr C.ins C.gates al i) (lateAt C al i))), s3]) ⟨.no, ?_⟩ ?_ ?_
    · have : D.lst (List.replicate (al.length + 1) (D.int 0)) = stD (Cr C.ins C.gates al 0) (lateAt C al 0) := by
        unfold stD Cr lateAt
        rw [List.map_map, List.replicate_succ']
        congr 2
        generalize al = xs
        induction xs with
        | nil => rfl
        | cons x xs ih => rw [List.length_cons, List.replicate_succ, ih]; rfl
      rw [this]; rfl
    · rintro i x ρ hx ⟨s3, rfl⟩
      obtain ⟨hi, rfl⟩ := ints_item hx
      refine ⟨rfl, rfl, _, states_last _ i, C, al, _, _, rfl, hg, Cr_keys i, Cr_nonneg i, .inl rfl, by show ((List.range (i + 1)).map _).length < 100000; simp; omega, .val (.int (0 + (i : Int))), ?_⟩
      rw [List.range_succ (n := i + 1), List.map_append]
      rfl
    · rintro ρ ⟨s3, rfl⟩
      refine hN _ ⟨s3, ?_⟩
      simp [intsD]
  · rintro ρ ⟨s3, rfl⟩
    unfold sRet
    refine lc_all (List.range (w + 1)) (fun i => stD (Cr C.ins C.gates al i) (lateAt C al i)) (fun i => .int (lateAt C al i)) _ (fun Ψ h => h) (by rw [List.length_range]; omega) (fun i o ys Nx e h1 h2 => ⟨rfl, _, atI_last, h1, h2⟩) hΦ
theorem sc_latest : FnScope ["row", "width"] ["row", "width"] (defScope s_latest) := ⟨rfl, rfl, rfl, by decide +kernel, rfl, by decide +kernel, by decide +kernel⟩
theorem ok_latest {f fL : Addr} {fd fdL : FuncData} (F : Fun K "latest" "latest" s_latest f fd) (T : Txt mg) (g_lates_to : Gd K mg "lates_to" s_lates_to ["row", "width"] fL fdL)
    (O_lates_to : FnOk P w K mg base CX0 3 fL fdL ["row", "width"] (spD K R_lto)) : FnOk P w K mg base CX0 4 f fd ["row", "width"] (spD K R_latest) := by
  refine F.okD (k := 3) sc_latest (fun dk ds Φ ⟨_, _, _, e, _⟩ => by rw [e]; rfl) (by decide) fun cdv A outer s H E dk ds Φ hr hR => ?_
  have hu := hu_of hr
  obtain ⟨C, al, w, rfl, hg, hw, hΦ⟩ := hR
  refine ⟨_, (ss_one (s_ret (pd_ix hu (pd_call O_lates_to (hr.mono (by decide)) (by rfl) g_lates_to.m g_lates_to.k g_lates_to.b (pa_k (pd_v 0 (pv 0)) (pa_k (pd_v 1 (pv 1)) pa_n))) (pd_neg pd_int)))), ?_⟩
  refine ⟨C, al, w, rfl, hg, hw, .inl rfl, .int (lateAt C al w), states_last _ w, hΦ⟩
end
end Lw
namespace Lw
open PySem L2
noncomputable def R_ll : RD := fun dk ds Φ => ∃ (C : Cel) (al : List (Str × Str)) (w : Nat), ds = [encRow C al, .int w] ∧ GoodRow C al ∧ w ≤ 20000 ∧ Φ (.val (.lst ((List.range w).map fun i => D.int (MxC C al i))))
noncomputable def freeO (C : Cel) (al : List (Str × Str)) : List Str := C.outs.filter fun o => !(inV (.str o) (al.map fun p => V.str p.1))
noncomputable def lastAt (C : Cel) (al : List (Str × Str)) : Nat → Int
  | 0 => 0
  | i + 1 => mx ((freeO C al).map (look (Tb C.ins C.gates al i)))
theorem inV_strs (o : Str) : ∀ xs : List Str, inV (.str o) (xs.map V.str) = decide (o ∈ xs)
  | [] => by simp [inV]
  | x :: xs => by
    have ih := inV_strs o xs
    unfold inV at ih ⊢
    rw [List.map_cons, List.any_cons, ih]
    by_cases h : o = x
    · subst h; simp [eqV]
    · have : (eqV (V.str x) (V.str o)) = false := by simp [eqV]; exact fun z => h z.symm
      simp [this, h]
theorem tab_get {t : Tab} {x : Str} (h : x ∈ t.map (·.1)) : lookD (.dK (encT t)) (.str x) = some (some (.int (look t x))) := by
  show some (valD (encT t) (Sum.inr x)) = _
  rw [(valT t x).1 h]
theorem tab_put {t : Tab} {x : Str} {n : Int} (h : x ∉ t.map (·.1)) (hl : t.length < 100000) : setD (.dK (encT t)) (.str x) (.int n) = some (.dK (encT (t ++ [(x, n)]))) := by
  simp only [setD, if_pos (show (encT t).length < 100000 by simpa [encT] using hl)]
  show some (D.dK (putD (encT t) (Sum.inr x) (.int n))) = _
  rw [put_new h]
theorem ints_cons (m : Int) (t : Tab) (xs : List Str) (f : Int → Int) : intsOf ([D.int m] ++ xs.map fun o => D.int (f (look t o))) = some (m :: xs.map fun o => f (look t o)) := by
  have := intsOf_map (m :: xs.map fun o => f (look t o))
  rw [List.map_cons, List.map_map] at this
  exact this
theorem not_before {α : Type} {xs : List α} {f : α → Str} {i : Nat} {x : α} (nd : (xs.map f).Nodup) (h : xs[i]? = some x) : f x ∉ (xs.take i).map f := by
  obtain ⟨hi, rfl⟩ := List.getElem?_eq_some_iff.mp h
  intro q
  have e : xs = xs.take i ++ xs[i] :: xs.drop (i + 1) := by rw [List.getElem_cons_drop, List.take_append_drop]
  rw [e, List.map_append] at nd
  exact (List.nodup_append.mp nd).2.2 _ q _ (List.mem_map.mpr ⟨_, List.mem_cons_self, rfl⟩) rfl
theorem last_mono (C : Cel) (al : List (Str × Str)) : ∀ i, lastAt C al i ≤ lastAt C al (i + 1)
  | 0 => mx_nonneg _
  | i + 1 => mx_mono fun x _ => Tb_mono i x
theorem last_nonneg (C : Cel) (al : List (Str × Str)) : ∀ i, 0 ≤ lastAt C al i
  | 0 => Int.le_refl _
  | i + 1 => mx_nonneg _
theorem pairs_tab (al : List (Str × Str)) (f : Str × Str → Int) : pairK (al.map fun p => D.tup [.str p.2, .int (f p)]) = some (encT (al.map fun p => (p.2, f p))) := by
  rw [pairK_map (g := fun p => ((Sum.inr p.2 : Key), D.int (f p))) (fun p => ⟨.str p.2, rfl, rfl⟩)]
  simp [encT]
noncomputable def outL (al : List (Str × Str)) : D := .lst (al.map fun p => D.str p.1)
noncomputable abbrev lrow (C : Cel) (al : List (Str × Str)) (w : Nat) (o c l f p t n wd ns e : Sl) : List Sl :=
  [.val (encRow C al), .val (.int w), .val (encC C), .val (.tup (al.map encP)), o, c, l, f, p, t, n, wd, ns, e]
theorem nd_out_into : (["out", "into"] : List Str).Nodup := by decide +kernel
theorem nd_one_times : (["one", "times"] : List Str).Nodup := by decide +kernel
theorem nd_name_times : (["name", "times"] : List Str).Nodup := by decide +kernel
theorem nd_name_times_outs : (["name", "times", "outs"] : List Str).Nodup := by decide +kernel
theorem nd_out_into_times : (["out", "into", "times"] : List Str).Nodup := by decide +kernel
section
variable {P : Program} {w : World} {K : PySem.W.Frag} {mg : Str → Option Value} {base : Heap}
theorem sc_law_latest : FnScope ["row", "widths", "cell", "along", "outs", "carried", "last", "found", "place", "times", "name", "word", "names", "ends"] ["row", "widths"] (defScope s_law_latest) := ⟨rfl, rfl, rfl, by decide +kernel, rfl, by decide +kernel, by decide +kernel⟩
set_option maxHeartbeats 2000000 in
theorem ok_ll {f : Addr} {fd : FuncData} (F : Fun K "_law_latest" "_law_latest" s_law_latest f fd) (T : Txt mg) : FnOk P w K mg base CX0 1 f fd ["row", "widths"] (spD K R_ll) := by
  refine F.okD (k := 0) sc_law_latest (fun dk ds Φ ⟨_, _, _, e, _⟩ => by rw [e]; rfl) (by decide) fun cdv A outer s H E dk ds Φ hr hR => ?_
  have hu := hu_of hr
  obtain ⟨C, al, w, rfl, hg, hw, hΦ⟩ := hR
  have hla := hg.la
  refine ⟨_, (ss_cons (s_asg (m := 99) (pd_v 0 (pv 0)) (g_t (n := 2) rfl (gs_c (g_n (i := 2) sc_law_latest.nd rfl (Or.inl rfl)) (gs_c (g_n (i := 3) sc_law_latest.nd rfl (Or.inl rfl)) gs_n))))
      (ss_cons (s_set (i := 4) sc_law_latest.nd rfl (Or.inr rfl) (pd_lc ["out", "into"] [] [] rfl (i_v (pd_v 3 (pv 3))) rfl rfl (fun _ _ _ _ _ => (g_t (n := 2) rfl (gs_c (g_n (i := 0) nd_out_into rfl (Or.inl rfl)) (gs_c (g_n (i := 1) nd_out_into rfl (Or.inl rfl)) gs_n)))) (fun _ _ _ _ _ => ifs_n) (fun _ _ _ _ _ => (pd_v 0 (pv 0)))))
      (ss_cons (s_set (i := 5) sc_law_latest.nd rfl (Or.inl rfl) (pd_callTy (call_dictA rfl) cd_dict (by rfl) T.dict PyProof.Rows.boot_dict (pa_k (pd_lc ["out", "into"] [] [] rfl (i_v (pd_v 3 (pv 3))) rfl rfl (fun _ _ _ _ _ => (g_t (n := 2) rfl (gs_c (g_n (i := 0) nd_out_into rfl (Or.inl rfl)) (gs_c (g_n (i := 1) nd_out_into rfl (Or.inl rfl)) gs_n)))) (fun _ _ _ _ _ => ifs_n) (fun _ _ _ _ _ => (pd_tup (pa_k (pd_v 1 (pv 1)) (pa_k pd_int pa_n))))) pa_n)))
      (ss_cons (s_set (i := 6) sc_law_latest.nd rfl (Or.inl rfl) pd_int)
      (ss_cons (s_set (i := 7) sc_law_latest.nd rfl (Or.inl rfl) (pd_lst pa_n))
      (ss_cons (s_for (m := 99) PassesOwn.never rfl (i_r1 (by rfl) T.range (pd_v 1 (pv 1))) (g_n (i := 8) sc_law_latest.nd rfl (Or.inl rfl)) (ss_cons (s_set (i := 9) sc_law_latest.nd rfl (Or.inr rfl) pd_new)
      (ss_cons (s_for (m := 99) PassesOwn.never rfl (i_v (pd_ixS hu (pv 2) pd_int)) (g_n (i := 10) sc_law_latest.nd rfl (Or.inl rfl)) (ss_one (s_sub (n := 9) hu (pd_get hu (pv 5) (pd_v 10 (pv 10)) pd_int) (pv 9) (pd_v 10 (pv 10)))))
      (ss_cons (s_for (m := 99) PassesOwn.never rfl (i_v (pd_ixS hu (pv 2) pd_int)) (g_t (n := 3) rfl (gs_c (g_n (i := 10) sc_law_latest.nd rfl (Or.inl rfl)) (gs_c (g_n (i := 11) sc_law_latest.nd rfl (Or.inl rfl)) (gs_c (g_n (i := 12) sc_law_latest.nd rfl (Or.inl rfl)) gs_n)))) (ss_one (s_sub (n := 9) hu (pd_callB (call_maxA rfl) cd_max (by rfl) T.max PyProof.Rows.boot_max (pa_k (pd_op op_plus od_add (pd_lst (pa_k pd_int pa_n)) (pd_lc ["one"] ["times"] [9] rfl (i_v (pd_v 12 (pv 12))) rfl rfl (fun _ _ _ _ _ => (g_n (i := 0) nd_one_times rfl (Or.inl rfl))) (fun _ _ _ _ _ => ifs_n) (fun _ _ _ _ _ => (pd_op op_plus od_add pd_int (pd_ixS hu (pv 1) (pd_v 0 (pv 0))))))) pa_n)) (pv 9) (pd_v 10 (pv 10)))))
      (ss_cons (s_setLC (i := 13) ["name"] ["times"] [9] sc_law_latest.nd rfl (Or.inl rfl) rfl (i_v (pd_v 4 (pv 4))) rfl rfl (fun _ _ _ _ _ => (g_n (i := 0) nd_name_times rfl (Or.inl rfl))) (fun _ _ _ _ _ => ifs_n) (fun _ _ _ _ _ => (pd_ixS hu (pv 1) (pd_v 0 (pv 0)))))
      (ss_cons (s_set (i := 6) sc_law_latest.nd rfl (Or.inl rfl) (pd_callB (call_maxA rfl) cd_max (by rfl) T.max PyProof.Rows.boot_max (pa_k (pd_op op_plus od_add (pd_lst (pa_k (pd_v 6 (pv 6)) pa_n)) (pd_lc ["name"] ["times", "outs"] [9, 4] rfl (i_v (pd_ixS hu (pv 2) pd_int)) rfl rfl (fun _ _ _ _ _ => (g_n (i := 0) nd_name_times_outs rfl (Or.inl rfl))) (fun _ _ _ _ _ => (ifs_1 (pdt_cmpT (op_notInA hu) (od_in true) (pd_v 0 (pv 0)) (pv 2)))) (fun _ _ _ _ _ => (pd_ixS hu (pv 1) (pd_v 0 (pv 0)))))) pa_n)))
      (ss_cons (s_expr (pd_w PySem.F.plainAttrs_list PySem.F.slot_list_append PySem.F.type_list_append mt_append mw_app (pv 7) (pa_k (pd_callB (call_maxA rfl) cd_max (by rfl) T.max PyProof.Rows.boot_max (pa_k (pd_op op_plus od_add (pd_lst (pa_k (pd_v 6 (pv 6)) pa_n)) (pd_v 13 (pv 13))) pa_n)) pa_n)))
      (ss_one (s_set (i := 5) sc_law_latest.nd rfl (Or.inl rfl) (pd_callTy (call_dictA rfl) cd_dict (by rfl) T.dict PyProof.Rows.boot_dict (pa_k (pd_lc ["out", "into"] ["times"] [9] rfl (i_v (pd_v 3 (pv 3))) rfl rfl (fun _ _ _ _ _ => (g_t (n := 2) rfl (gs_c (g_n (i := 0) nd_out_into_times rfl (Or.inl rfl)) (gs_c (g_n (i := 1) nd_out_into_times rfl (Or.inl rfl)) gs_n)))) (fun _ _ _ _ _ => ifs_n) (fun _ _ _ _ _ => (pd_tup (pa_k (pd_v 1 (pv 1)) (pa_k (pd_ixS hu (pv 2) (pd_v 0 (pv 0))) pa_n))))) pa_n)))))))))))
      (ss_one (s_ret (pd_v 7 (pv 7)))))))))), ?_⟩
  refine ⟨rfl, rfl, ?_⟩
  dsimp only
  refine seq_cut (fun ρ => ρ = lrow C al w (.own (outL al)) .no .no .no .no .no .no .no .no .no) (fun N hN => ?_) ?_
  · unfold sSet
    exact lc_all al encP (fun p => .str p.1) _ (fun Ψ h => h) (by omega) (fun i p ys Nx e h1 h2 => ⟨rfl, rfl, h1, h2⟩) (hN _ rfl)
  rintro _ rfl
  refine seq_cut (fun ρ => ρ = lrow C al w (.own (outL al)) (.own (.dK (encT (Cr C.ins C.gates al 0)))) .no .no .no .no .no .no .no .no) (fun N hN => ?_) ?_
  · unfold sSet dC aC
    refine lc_all al encP (fun p => .tup [.str p.2, .int 0]) _ (fun Ψ h => h) (by omega) (fun i p ys Nx e h1 h2 => ⟨rfl, rfl, by show 2 ≤ 1000; decide, h1, h2⟩) ?_
    refine ⟨_, pairs_tab al fun _ => 0, by simp [encT]; omega, ?_⟩
    rw [merge_new (by simpa [Function.comp_def] using hg.n2)]
    exact hN _ rfl
  rintro _ rfl
  refine ⟨by show 0 ≤ 1000; decide, ?_⟩
  dsimp only
  refine seq_cut (fun ρ => ∃ o c p t n wd ns e : Sl, ρ = lrow C al w o c (.val (.int (lastAt C al w))) (.own (.lst ((List.range w).map fun i => D.int (MxC C al i)))) p t n wd ns e) (fun N hN => ?_) ?_
  · refine for_at (intsD 0 w) (lrow C al w (.own (outL al)) (.own (.dK (encT (Cr C.ins C.gates al 0)))) (.val (.int 0)) (.own (.lst [])) .no .no .no .no .no .no) (fun Ψ h => ⟨by omega, by omega, h⟩)
      (fun i ρ => ∃ o p t n wd ns e : Sl, (o = .own (outL al) ∨ o = .val (outL al)) ∧ ρ = lrow C al w o (.own (.dK (encT (Cr C.ins C.gates al i)))) (.val (.int (lastAt C al i))) (.own (.lst ((List.range i).map fun i => D.int (MxC C al i)))) p t n wd ns e) ⟨_, .no, .no, .no, .no, .no, .no, .inl rfl, rfl⟩ ?_ ?_
    · rintro i x ρ hx ⟨o, p, t, n, wd, ns, e, ho, rfl⟩
      obtain ⟨hi, rfl⟩ := ints_item hx
      have hcr := Cr_keys (ins := C.ins) (gs := C.gates) (al := al) i
      have hc0 := Cr_nonneg (ins := C.ins) (gs := C.gates) (al := al) i
      generalize hCr : Cr C.ins C.gates al i = cr at hcr hc0 ⊢
      have hLa : 0 ≤ lastAt C al i := by cases i with | zero => exact Int.le_refl _ | succ i => exact mx_nonneg _
      have insnd : C.ins.Nodup := (List.nodup_append.mp hg.good.nd).1
      have li := hg.good.li
      have lg := hg.good.lg
      have lo := hg.good.lo
      refine seq_cut (fun ρ => ∃ n : Sl, ρ = lrow C al w o (.own (.dK (encT cr))) (.val (.int (lastAt C al i))) (.own (.lst ((List.range i).map fun i => D.int (MxC C al i)))) (.val (.int (0 + (i : Int)))) (.own (.dK (encT []))) n wd ns e) (fun N hN => hN _ ⟨n, rfl⟩) ?_
      rintro ρ ⟨n, rfl⟩
      refine seq_cut (fun ρ => ∃ n : Sl, ρ = lrow C al w o (.own (.dK (encT cr))) (.val (.int (lastAt C al i))) (.own (.lst ((List.range i).map fun i => D.int (MxC C al i)))) (.val (.int (0 + (i : Int)))) (.own (.dK (encT (C.ins.map fun x => (x, look cr x))))) n wd ns e) (fun N hN => ?_) ?_
      · refine for_at (C.ins.map D.str) _ (fun Ψ h => ⟨rfl, _, rfl, h⟩) (fun j ρ => ∃ n : Sl, ρ = lrow C al w o (.own (.dK (encT cr))) (.val (.int (lastAt C al i))) (.own (.lst ((List.range i).map fun i => D.int (MxC C al i)))) (.val (.int (0 + (i : Int)))) (.own (.dK (encT ((C.ins.take j).map fun x => (x, look cr x))))) n wd ns e) ⟨n, rfl⟩ ?_ ?_
        · rintro j x ρ hx ⟨n, rfl⟩
          obtain ⟨y, hy, rfl⟩ := map_item hx
          have nb : y ∉ ((C.ins.take j).map fun x => (x, look cr x)).map (·.1) := by
            have := not_before (f := id) (by simpa using insnd) hy
            simpa [Function.comp_def] using this
          refine ⟨rfl, _, rfl, rfl, ?_⟩
          show ∃ c', setD (.dK (encT ((C.ins.take j).map fun x => (x, look cr x)))) (.str y) ((valD (encT cr) (Sum.inr y)).getD (.int 0)) = some c' ∧ _
          rw [valT_get]
          refine ⟨_, tab_put nb (by simp; omega), .val (.str y), ?_⟩
          rw [List.take_add_one, hy, List.map_append]
          rfl
        · rintro ρ ⟨n, rfl⟩
          rw [List.length_map, List.take_of_length_le (Nat.le_refl _)]
          exact hN _ ⟨n, rfl⟩
      rintro ρ ⟨n, rfl⟩
      refine seq_cut (fun ρ => ∃ n wd ns : Sl, ρ = lrow C al w o (.own (.dK (encT cr))) (.val (.int (lastAt C al i))) (.own (.lst ((List.range i).map fun i => D.int (MxC C al i)))) (.val (.int (0 + (i : Int)))) (.own (.dK (encT (tbl C.ins C.gates (look cr))))) n wd ns e) (fun N hN => ?_) ?_
      · refine for_at (C.gates.map encG) _ (fun Ψ h => ⟨rfl, _, rfl, h⟩) (fun j ρ => ∃ n wd ns : Sl, ρ = lrow C al w o (.own (.dK (encT cr))) (.val (.int (lastAt C al i))) (.own (.lst ((List.range i).map fun i => D.int (MxC C al i)))) (.val (.int (0 + (i : Int)))) (.own (.dK (encT (tbl C.ins (C.gates.take j) (look cr))))) n wd ns e) ⟨n, wd, ns, rfl⟩ ?_ ?_
        · rintro j x ρ hx ⟨n, wd, ns, rfl⟩
          obtain ⟨g, hgi, rfl⟩ := map_item hx
          obtain ⟨har, hps⟩ := gates_at hg.good.gt hgi
          have hk := tbl_keys C.ins (C.gates.take j) (look cr)
          have hnn := tbl_nonneg (ins := C.ins) (gs := C.gates.take j) hc0
          have hnew : g.1 ∉ (tbl C.ins (C.gates.take j) (look cr)).map (·.1) := by
            rw [hk]
            have nd : (C.ins ++ C.gates.map (·.1)).Nodup := hg.good.nd
            intro q
            obtain ⟨_, n2, n3⟩ := List.nodup_append.mp nd
            rcases List.mem_append.mp q with q | q
            · exact n3 _ q _ (List.mem_map.mpr ⟨g, List.mem_of_getElem? hgi, rfl⟩) rfl
            · exact not_before n2 hgi q
          have hlen : (tbl C.ins (C.gates.take j) (look cr)).length < 100000 := by
            have := congrArg List.length hk
            simp only [List.length_map, List.length_append, List.length_take] at this
            omega
          have step : tbl C.ins (C.gates.take (j + 1)) (look cr) = tbl C.ins (C.gates.take j) (look cr) ++ [(g.1, mx (g.2.2.map fun o => 1 + look (tbl C.ins (C.gates.take j) (look cr)) o))] := by
            unfold tbl
            rw [List.take_add_one, hgi, List.foldl_append]
            rfl
          generalize hT : tbl C.ins (C.gates.take j) (look cr) = t at hk hnn hnew hlen step ⊢
          refine ⟨rfl, rfl, ?_⟩
          unfold sSub dC aC d2 dLst cd
          dsimp only
          refine ⟨by show 1 ≤ 1000; decide, ?_⟩
          refine lc_all g.2.2 D.str (fun o => .int (1 + look t o)) (lrow C al w o (.own (.dK (encT cr))) (.val (.int (lastAt C al i))) (.own (.lst ((List.range i).map fun i => D.int (MxC C al i)))) (.val (.int (0 + (i : Int)))) (.own (.dK (encT t))) (.val (.str g.1)) (.val (.str g.2.1)) (.val (.tup (g.2.2.map D.str))) e) (fun Ψ h => h) (by rcases har with q | q | q <;> omega) (fun k o ys Nx e' h1 h2 => ⟨rfl, _, tab_get (by rw [hk]; exact hps o (List.mem_of_getElem? e')), h1, h2⟩) ?_
          refine ⟨by show 1 + (g.2.2.map _).length ≤ 100000; rw [List.length_map]; rcases har with q | q | q <;> omega, _, ints_cons 0 t g.2.2 (1 + ·), by simp, fun m hm hh => ⟨rfl, _, tab_put hnew hlen, .val (.str g.1), .val (.str g.2.1), .val (.tup (g.2.2.map D.str)), ?_⟩⟩
          have : m = mx (g.2.2.map fun o => 1 + look t o) := mx_of (by simpa using hm) (hh 0 (by simp)) fun a ha => hh a (List.mem_cons_of_mem _ ha)
          rw [step, ← this]
          rfl
        · rintro ρ ⟨n, wd, ns, rfl⟩
          rw [List.length_map, List.take_of_length_le (Nat.le_refl _)]
          exact hN _ ⟨n, wd, ns, rfl⟩
      rintro ρ ⟨n, wd, ns, rfl⟩
      have hk := tbl_keys C.ins C.gates (look cr)
      have hnn := tbl_nonneg (ins := C.ins) (gs := C.gates) hc0
      have hTb : Tb C.ins C.gates al i = tbl C.ins C.gates (look cr) := by unfold Tb; rw [hCr]
      generalize tbl C.ins C.gates (look cr) = t at hk hnn hTb ⊢
      have inT : ∀ o ∈ C.outs, o ∈ t.map (·.1) := fun o ho => by rw [hk]; exact List.mem_append_right _ (hg.og o ho)
      have inA : ∀ p ∈ al, p.1 ∈ t.map (·.1) := fun p hp => inT _ (hg.mem p hp).1
      refine seq_cut (fun ρ => ρ = lrow C al w (.val (outL al)) (.own (.dK (encT cr))) (.val (.int (lastAt C al i))) (.own (.lst ((List.range i).map fun i => D.int (MxC C al i)))) (.val (.int (0 + (i : Int)))) (.own (.dK (encT t))) n wd ns (.own (.lst (al.map fun (p : Str × Str) => D.int (look t p.1))))) (fun N hN => ?_) ?_
      · unfold sSet
        refine lc_all al (fun p => .str p.1) (fun p => .int (look t p.1)) (lrow C al w (.val (outL al)) (.own (.dK (encT cr))) (.val (.int (lastAt C al i))) (.own (.lst ((List.range i).map fun i => D.int (MxC C al i)))) (.val (.int (0 + (i : Int)))) (.own (.dK (encT t))) n wd ns e) (fun Ψ h => ?_) (by omega) (fun k p ys Nx e' h1 h2 => ⟨rfl, _, tab_get (inA p (List.mem_of_getElem? e')), h1, h2⟩) (hN _ rfl)
        rcases ho with rfl | rfl <;> exact h
      rintro _ rfl
      refine seq_cut (fun ρ => ρ = lrow C al w (.val (outL al)) (.own (.dK (encT cr))) (.val (.int (lastAt C al (i + 1)))) (.own (.lst ((List.range i).map fun i => D.int (MxC C al i)))) (.val (.int (0 + (i : Int)))) (.own (.dK (encT t))) n wd ns (.own (.lst (al.map fun (p : Str × Str) => D.int (look t p.1))))) (fun N hN => ?_) ?_
      · unfold sSet dC aC d2 dLst
        refine ⟨by show 1 ≤ 1000; decide, ?_⟩
        refine lc_at C.outs D.str (fun o => .int (look t o)) (fun o => !(inV (.str o) (al.map fun p => V.str p.1))) (lrow C al w (.val (outL al)) (.own (.dK (encT cr))) (.val (.int (lastAt C al i))) (.own (.lst ((List.range i).map fun i => D.int (MxC C al i)))) (.val (.int (0 + (i : Int)))) (.own (.dK (encT t))) n wd ns (.own (.lst (al.map fun (p : Str × Str) => D.int (look t p.1))))) (fun Ψ h => ⟨rfl, _, rfl, h⟩) (by omega) (fun k x ys Nx e' h1 h2 h3 => ⟨_, _, rfl, flatsD_map (fun p => rfl) al, ?_⟩) ?_
        · have hx : x ∈ C.outs := List.mem_of_getElem? e'
          cases q : inV (V.str x) (al.map fun p => V.str p.1) with
          | true => exact h3 (by rw [q]; rfl)
          | false => exact ⟨rfl, _, tab_get (inT x hx), h1, h2 (by rw [q]; rfl)⟩
        · refine ⟨by show 1 + ((C.outs.filter _).map _).length ≤ 100000; have := List.length_filter_le (fun o => !(inV (.str o) (al.map fun p => V.str p.1))) C.outs; rw [List.length_map]; omega, _, ints_cons (lastAt C al i) t (freeO C al) id, by simp, fun m hm hh => ?_⟩
          have e1 : m = lastAt C al (i + 1) := by
            have h1 := last_mono C al i
            have h2 := last_nonneg C al i
            have h3 := hh _ List.mem_cons_self
            have el : lastAt C al (i + 1) = mx ((freeO C al).map (look t)) := by rw [← hTb]; rfl
            rw [el] at h1 ⊢
            refine mx_of ?_ (by omega) fun a ha => hh a (List.mem_cons_of_mem _ ha)
            rcases List.mem_cons.mp hm with q | q
            · rcases mx_mem ((freeO C al).map (look t)) with z | z
              · left
                have : mx ((freeO C al).map (look t)) = m ∨ True := .inr trivial
                have : lastAt C al i ≤ 0 := by rw [← z]; exact h1
                omega
              · right
                have : mx ((freeO C al).map (look t)) ≤ m := hh _ (List.mem_cons_of_mem _ z)
                have : m = mx ((freeO C al).map (look t)) := by
                  have : m ≤ mx ((freeO C al).map (look t)) := by rw [q]; exact h1
                  omega
                rw [this]; exact z
            · exact .inr q
          rw [← e1] at hN
          exact hN _ rfl
      rintro _ rfl
      refine seq_cut (fun ρ => ρ = lrow C al w (.val (outL al)) (.own (.dK (encT cr))) (.val (.int (lastAt C al (i + 1)))) (.own (.lst ((List.range (i + 1)).map fun i => D.int (MxC C al i)))) (.val (.int (0 + (i : Int)))) (.own (.dK (encT t))) n wd ns (.val (.lst (al.map fun (p : Str × Str) => D.int (look t p.1))))) (fun N hN => ?_) ?_
      · have ie : intsOf ([D.int (lastAt C al (i + 1))] ++ al.map fun p => D.int (look t p.1)) = some (lastAt C al (i + 1) :: (al.map (·.1)).map (look t)) := by
          have := ints_cons (lastAt C al (i + 1)) t (al.map (·.1)) id
          simpa [Function.comp_def] using this
        refine ⟨rfl, by show 1 ≤ 1000; decide, by show 1 + (al.map _).length ≤ 100000; rw [List.length_map]; omega, _, ie, by simp, fun m hm hh => ⟨by show ((List.range i).map _).length < 100000; simp; omega, ?_⟩⟩
        have el : lastAt C al (i + 1) = mx ((freeO C al).map (look t)) := by rw [← hTb]; rfl
        have e1 : m = MxC C al i := by
          unfold MxC Mx
          rw [hTb]
          refine split_max (ns := freeO C al) (es := al.map (·.1)) hnn (fun x hx => (List.mem_filter.mp hx).1) (fun x hx => ?_) (fun x hx => ?_) ?_ ?_ fun a ha => hh a (List.mem_cons_of_mem _ ha)
          · obtain ⟨p, hp, rfl⟩ := List.mem_map.mp hx
            exact (hg.mem p hp).1
          · by_cases q : x ∈ al.map (·.1)
            · exact .inr q
            · refine .inl (List.mem_filter.mpr ⟨hx, ?_⟩)
              have := inV_strs x (al.map (·.1))
              rw [List.map_map] at this
              have e2 : inV (V.str x) (al.map fun p => V.str p.1) = decide (x ∈ al.map (·.1)) := this
              rw [e2, decide_eq_false q]; rfl
          · rw [← el]; exact List.mem_cons.mp hm
          · rw [← el]; exact hh _ List.mem_cons_self
        subst e1
        refine hN _ ?_
        rw [List.range_succ, List.map_append]
        rfl
      rintro _ rfl
      unfold sSet dC aC
      refine lc_all al encP (fun p => .tup [.str p.2, .int (look t p.1)]) (lrow C al w (.val (outL al)) (.own (.dK (encT cr))) (.val (.int (lastAt C al (i + 1)))) (.own (.lst ((List.range (i + 1)).map fun i => D.int (MxC C al i)))) (.val (.int (0 + (i : Int)))) (.own (.dK (encT t))) n wd ns (.val (.lst (al.map fun (p : Str × Str) => D.int (look t p.1))))) (fun Ψ h => h) (by omega) (fun k p ys Nx e' h1 h2 => ⟨rfl, rfl, rfl, _, tab_get (inA p (List.mem_of_getElem? e')), by show 2 ≤ 1000; decide, h1, h2⟩) ?_
      refine ⟨_, pairs_tab al fun p => look t p.1, by simp [encT]; omega, ?_⟩
      rw [merge_new (by simpa [Function.comp_def] using hg.n2)]
      have : Cr C.ins C.gates al (i + 1) = al.map fun p => (p.2, look t p.1) := by
        show car al (tbl C.ins C.gates (look (Cr C.ins C.gates al i))) = _
        rw [show tbl C.ins C.gates (look (Cr C.ins C.gates al i)) = t from hTb]; rfl
      rw [← this]
      exact ⟨_, _, _, _, _, _, _, .inr rfl, rfl⟩
    · rintro ρ ⟨o, p, t, n, wd, ns, e, _, rfl⟩
      rw [show (intsD 0 w).length = w by simp [intsD]]
      exact hN _ ⟨o, _, p, t, n, wd, ns, e, rfl⟩
  · rintro ρ ⟨o, c, p, t, n, wd, ns, e, rfl⟩
    exact hΦ
noncomputable def R_whole : RD := fun dk ds Φ => ∃ a b : Int, ds = [.int a, .int b] ∧ Φ (.val (.bl (decide (a = b))))
theorem sc_law_whole : FnScope ["found", "due"] ["found", "due"] (defScope s_law_whole) := ⟨rfl, rfl, rfl, by decide +kernel, rfl, by decide +kernel, by decide +kernel⟩
theorem ok_whole {f : Addr} {fd : FuncData} (F : Fun K "_law_whole" "_law_whole" s_law_whole f fd) (T : Txt mg) : FnOk P w K mg base CX0 1 f fd ["found", "due"] (spD K R_whole) := by
  refine F.okD (k := 0) sc_law_whole (fun dk ds Φ ⟨_, _, e, _⟩ => by rw [e]; rfl) (by decide) fun cdv A outer s H E dk ds Φ hr hR => ?_
  have hu := hu_of hr
  obtain ⟨a, b, rfl, hΦ⟩ := hR
  refine ⟨_, (ss_one (s_ret (pd_and (pd_callB (call_isiK _) cd_isi (by rfl) T.isinstance PyProof.Rows.boot_isinstance (pa_k (pd_v 0 (pv 0)) (pa_k (pd_ty (by rfl) T.int PyProof.Rows.boot_int) pa_n))) (pd_and (pd_not (pd_callB (call_isiK _) cd_isi (by rfl) T.isinstance PyProof.Rows.boot_isinstance (pa_k (pd_v 0 (pv 0)) (pa_k (pd_ty (by rfl) T.bool PyProof.Rows.boot_bool) pa_n)))) (pd_bone (pd_cmpS (op_eqA hr.units) (od_eq false) (pv 0) (pd_v 1 (pv 1)))))))), ?_⟩
  exact ⟨"int", true, rfl, rfl, "int", false, rfl, rfl, rfl, hΦ⟩
end
end Lw
namespace Lw
open PySem L2
noncomputable def R_shuf : RD := fun dk ds Φ => ∃ (d c : Addr) (xs : List D), dk = [d, c] ∧ ds = [.raw (.ref d), .lst xs] ∧ xs.length ≤ 1000 ∧ ∀ ys, ys.Perm xs → Φ (.val (.lst ys))
noncomputable def wordsOf (z : Str) : List Str := (Txt.split z " ").filter fun x => nb true (decide (x = ""))
noncomputable def R_words : RD := fun dk ds Φ => ∃ z : Str, ds = [.str z] ∧ z.length ≤ 1000 ∧ (Txt.split z " ").length ≤ 1000 ∧ Φ (.own (.lst ((wordsOf z).map D.str)))
structure Kit where
  ins : Str
  gates : List Str
  outs : Str
  pairs : Str
  nums : Str
noncomputable def encK (k : Kit) : D := .tup [.str k.ins, .lst (k.gates.map D.str), .str k.outs, .str k.pairs, .str k.nums]
noncomputable def kitTab : List Kit := [
  ⟨"a b c", [("s " : Str) ++ "odd a b c", ("t " : Str) ++ "most a b c"], "s t", "t c", "a 1 b 1 s -1 c 1"⟩,
  ⟨"a b c", ["n not a", "s odd a b c", "t most n b c"], "s t", "t c", "a 1 b -1 s -1 c -1"⟩,
  ⟨"a c", ["s odd a c", "t and a c"], "s t", "t c", "a 1 s -1 c 1"⟩,
  ⟨"a c", ["s and c c", "t and a a"], "s t", "t c", "a 2 s -1 c 1"⟩,
  ⟨"a", ["s not a"], "s", "", "a 1 s 1 - -1"⟩,
  ⟨"a b c", [("s " : Str) ++ "odd a b c", ("t " : Str) ++ "most a b c"], "s t", "", "a 1 b 1 c 1 s -1 t -2"⟩,
  ⟨"a c d", ["s odd a d c", "t most a d c", "e and a a"], "s t e", "t c e d", "a 3 s -1 c 1 d 1"⟩,
  ⟨"a b x c d", ["s odd a b c", "t most a b c", "z odd s x d", "u most s x d"], "z t u", "t c u d", "a 1 b 1 x 1 z -1 c 1 d 1"⟩,
  ⟨"a", ["s nil", "t or a s"], "s t", "", "s 5 a -2 t 2"⟩,
  ⟨"a b", ["s and a b", "t or a b"], "s t", "", "a 1 b 1 s -1 t -1"⟩]
noncomputable def adderD : D := .tup [.str "odd a b c", .str "most a b c"]
noncomputable def R_kit : RD := fun dk ds Φ => ∃ d c : Addr, dk = [d, c] ∧ ds = [.raw (.ref d)] ∧ ∀ k ∈ kitTab, Φ (.val (encK k))
theorem nd_word : (["word"] : List Str).Nodup := by decide +kernel
section
variable {P : Program} {w : World} {K : PySem.W.Frag} {mg : Str → Option Value} {base : Heap}
theorem sc_law_shuffled : FnScope ["deck", "some", "left", "found"] ["deck", "some"] (defScope s_law_shuffled) := ⟨rfl, rfl, rfl, by decide +kernel, rfl, by decide +kernel, by decide +kernel⟩
theorem ok_shuf {f fT : Addr} {fd fdT : FuncData} (F : Fun K "_law_shuffled" "_law_shuffled" s_law_shuffled f fd) (T : Txt mg) (g_law_take : Gd K mg "_law_take" sTake ["deck", "many"] fT fdT) (O_law_take : FnOk P w K mg base CX0 1 fT fdT ["deck", "many"] (spD K R_take)) :
    FnOk P w K mg base CX0 2 f fd ["deck", "some"] (spD K R_shuf) := by
  refine F.okD (k := 1) sc_law_shuffled (fun dk ds Φ ⟨_, _, _, _, e, _⟩ => by rw [e]; rfl) (by decide) fun cdv A outer s H E dk ds Φ hr hR => ?_
  have hu := hu_of hr
  obtain ⟨d, c, xs, rfl, rfl, hl, hΦ⟩ := hR
  refine ⟨_, (ss_cons (s_set (i := 2) sc_law_shuffled.nd rfl (Or.inl rfl) (pd_callTy call_list_of cd_list (by rfl) T.list PyProof.Rows.boot_list (pa_k (pd_v 1 (pv 1)) pa_n)))
      (ss_cons (s_set (i := 3) sc_law_shuffled.nd rfl (Or.inl rfl) (pd_lst pa_n))
      (ss_cons (s_while PassesOwn.never (pdt_cmpS (op_neA hr.units) (od_eq true) (pv 2) (pd_lst pa_n)) (ss_one (s_expr (pd_w PySem.F.plainAttrs_list PySem.F.slot_list_append PySem.F.type_list_append mt_append mw_app (pv 3) (pa_k (pd_w PySem.F.plainAttrs_list PySem.F.slot_list_pop PySem.F.type_list_pop mt_popAt mw_pop (pv 2) (pa_k (pd_call O_law_take (hr.mono (by decide)) (by rfl) g_law_take.m g_law_take.k g_law_take.b (pa_k (pd_v 0 (pv 0)) (pa_k (pd_callB call_lenA cd_len (by rfl) T.len PySem.boot_len (pa_s (pv 2) pa_n)) pa_n))) pa_n)) pa_n)))))
      (ss_one (s_ret (pd_v 3 (pv 3))))))), ?_⟩
  refine ⟨_, rfl, by show 0 ≤ 1000; decide, ?_⟩
  dsimp only
  refine seq_cut (fun ρ => ∃ (ys : List D), ρ = [.val (.raw (.ref d)), .val (.lst xs), .own (.lst []), .own (.lst ys)] ∧ ys.Perm xs) (fun N hN => ?_) ?_
  · refine ⟨fun ρ => ∃ left found : List D, ρ = [.val (.raw (.ref d)), .val (.lst xs), .own (.lst left), .own (.lst found)] ∧ (found ++ left).Perm xs, fun (ρ : List Sl) => match ρ[2]? with | some (Sl.own (D.lst l)) => l.length | _ => 0, ⟨xs, [], rfl, .refl _⟩, ?_⟩
    rintro ρ ⟨left, found, rfl, hp⟩
    have hlen := hp.length_eq
    rw [List.length_append] at hlen
    refine ⟨rfl, by show 0 ≤ 1000; decide, ?_⟩
    cases left with
    | nil => exact hN _ ⟨found, rfl, by simpa using hp⟩
    | cons x left =>
      rw [List.length_cons] at hlen
      refine ⟨rfl, rfl, rfl, rfl, _, rfl, d, c, _, rfl, rfl, by show (0 : Int) < ((x :: left).length : Nat); simp only [List.length_cons]; omega, by show ((x :: left).length : Int) < 1000000; simp only [List.length_cons]; omega, fun j hj => ⟨.inr rfl, ?_⟩⟩
      have hj' : j < (x :: left).length := by have : (j : Int) < ((x :: left).length : Nat) := hj; omega
      obtain ⟨y, hy⟩ : ∃ y, (x :: left)[j]? = some y := ⟨_, List.getElem?_eq_getElem hj'⟩
      have hl2 := List.length_eraseIdx_of_lt hj'
      refine ⟨j, y, by simp only [List.length_cons] at hj'; omega, by simp only [List.length_cons] at hj'; omega, pop_ok hj', hy, by show found.length < 100000; omega, ⟨(x :: left).eraseIdx j, found ++ [y], rfl, ?_⟩, ?_⟩
      · rw [List.append_assoc]
        exact ((erase_perm hy).symm.append_left found).trans hp
      · show ((x :: left).eraseIdx j).length < (x :: left).length
        omega
  · rintro ρ ⟨ys, rfl, hp⟩
    exact hΦ ys hp
theorem sc_law_words : FnScope ["text"] ["text"] (defScope s_law_words) := ⟨rfl, rfl, rfl, by decide +kernel, rfl, by decide +kernel, by decide +kernel⟩
theorem ok_words {f : Addr} {fd : FuncData} (F : Fun K "_law_words" "_law_words" s_law_words f fd) (T : Txt mg) : FnOk P w K mg base CX0 1 f fd ["text"] (spD K R_words) := by
  refine F.okD (k := 0) sc_law_words (fun dk ds Φ ⟨_, e, _⟩ => by rw [e]; rfl) (by decide) fun cdv A outer s H E dk ds Φ hr hR => ?_
  have hu := hu_of hr
  obtain ⟨z, rfl, hl, hl2, hΦ⟩ := hR
  refine ⟨_, (ss_one (s_ret (pd_lc ["word"] [] [] rfl (i_v (pd_ms PySem.F.plainAttrs_str PySem.F.slot_str_split PySem.F.type_str_split mt_split md_split (pv 0) (pa_k pd_str pa_n))) rfl rfl (fun _ _ _ _ _ => (g_n (i := 0) nd_word rfl (Or.inl rfl))) (fun _ _ _ _ _ => (ifs_1 (pdt_cmpS (op_neA hr.units) (od_eq true) (pv 0) pd_str))) (fun _ _ _ _ _ => (pd_v 0 (pv 0)))))), ?_⟩
  refine lc_at (Txt.split z " ") D.str D.str (fun x => nb true (decide (x = ""))) [.val (.str z)] (fun Ψ h => ⟨rfl, by decide, by omega, h⟩) ?_ (fun i x ys Nx e h1 h2 h3 => ⟨rfl, ?_⟩) hΦ
  · omega
  · show if (nb true (decide (x = ""))) = true then _ else _
    cases q : decide (x = "") with
    | true => exact h3 (by rw [q]; rfl)
    | false => exact ⟨h1, h2 (by rw [q]; rfl)⟩
theorem sc_law_kit : FnScope ["deck", "adder", "some", "more"] ["deck"] (defScope s_law_kit) := ⟨rfl, rfl, rfl, by decide +kernel, rfl, by decide +kernel, by decide +kernel⟩
set_option maxHeartbeats 2000000 in
theorem ok_kit {f fT : Addr} {fd fdT : FuncData} (F : Fun K "_law_kit" "_law_kit" s_law_kit f fd) (T : Txt mg) (g_law_take : Gd K mg "_law_take" sTake ["deck", "many"] fT fdT) (O_law_take : FnOk P w K mg base CX0 1 fT fdT ["deck", "many"] (spD K R_take)) :
    FnOk P w K mg base CX0 2 f fd ["deck"] (spD K R_kit) := by
  refine F.okD (k := 1) sc_law_kit (fun dk ds Φ ⟨_, _, _, e, _⟩ => by rw [e]; rfl) (by decide) fun cdv A outer s H E dk ds Φ hr hR => ?_
  have hu := hu_of hr
  obtain ⟨d, c, rfl, rfl, hΦ⟩ := hR
  refine ⟨_, (ss_cons (s_set (i := 1) sc_law_kit.nd rfl (Or.inl rfl) (pd_tup (pa_k pd_str (pa_k pd_str pa_n))))
      (ss_cons (s_set (i := 2) sc_law_kit.nd rfl (Or.inl rfl) (pd_lst (pa_k (pd_tup (pa_k pd_str (pa_k (pd_lst (pa_k (pd_op op_plus od_add pd_str (pd_ixS hu (pv 1) pd_int)) (pa_k (pd_op op_plus od_add pd_str (pd_ixS hu (pv 1) pd_int)) pa_n))) (pa_k pd_str (pa_k pd_str (pa_k pd_str pa_n)))))) pa_n)))
      (ss_cons (s_expr (pd_w PySem.F.plainAttrs_list PySem.F.slot_list_append PySem.F.type_list_append mt_append mw_app (pv 2) (pa_k (pd_tup (pa_k pd_str (pa_k (pd_lst (pa_k pd_str (pa_k pd_str (pa_k pd_str pa_n)))) (pa_k pd_str (pa_k pd_str (pa_k pd_str pa_n)))))) pa_n)))
      (ss_cons (s_expr (pd_w PySem.F.plainAttrs_list PySem.F.slot_list_append PySem.F.type_list_append mt_append mw_app (pv 2) (pa_k (pd_tup (pa_k pd_str (pa_k (pd_lst (pa_k pd_str (pa_k pd_str pa_n))) (pa_k pd_str (pa_k pd_str (pa_k pd_str pa_n)))))) pa_n)))
      (ss_cons (s_expr (pd_w PySem.F.plainAttrs_list PySem.F.slot_list_append PySem.F.type_list_append mt_append mw_app (pv 2) (pa_k (pd_tup (pa_k pd_str (pa_k (pd_lst (pa_k pd_str (pa_k pd_str pa_n))) (pa_k pd_str (pa_k pd_str (pa_k pd_str pa_n)))))) pa_n)))
      (ss_cons (s_expr (pd_w PySem.F.plainAttrs_list PySem.F.slot_list_append PySem.F.type_list_append mt_append mw_app (pv 2) (pa_k (pd_tup (pa_k pd_str (pa_k (pd_lst (pa_k pd_str pa_n)) (pa_k pd_str (pa_k pd_str (pa_k pd_str pa_n)))))) pa_n)))
      (ss_cons (s_expr (pd_w PySem.F.plainAttrs_list PySem.F.slot_list_append PySem.F.type_list_append mt_append mw_app (pv 2) (pa_k (pd_tup (pa_k pd_str (pa_k (pd_lst (pa_k (pd_op op_plus od_add pd_str (pd_ixS hu (pv 1) pd_int)) (pa_k (pd_op op_plus od_add pd_str (pd_ixS hu (pv 1) pd_int)) pa_n))) (pa_k pd_str (pa_k pd_str (pa_k pd_str pa_n)))))) pa_n)))
      (ss_cons (s_set (i := 3) sc_law_kit.nd rfl (Or.inl rfl) (pd_lst (pa_k pd_str (pa_k pd_str (pa_k pd_str pa_n)))))
      (ss_cons (s_expr (pd_w PySem.F.plainAttrs_list PySem.F.slot_list_append PySem.F.type_list_append mt_append mw_app (pv 2) (pa_k (pd_tup (pa_k pd_str (pa_k (pd_v 3 (pv 3)) (pa_k pd_str (pa_k pd_str (pa_k pd_str pa_n)))))) pa_n)))
      (ss_cons (s_set (i := 3) sc_law_kit.nd rfl (Or.inl rfl) (pd_lst (pa_k pd_str (pa_k pd_str (pa_k pd_str (pa_k pd_str pa_n))))))
      (ss_cons (s_expr (pd_w PySem.F.plainAttrs_list PySem.F.slot_list_append PySem.F.type_list_append mt_append mw_app (pv 2) (pa_k (pd_tup (pa_k pd_str (pa_k (pd_v 3 (pv 3)) (pa_k pd_str (pa_k pd_str (pa_k pd_str pa_n)))))) pa_n)))
      (ss_cons (s_expr (pd_w PySem.F.plainAttrs_list PySem.F.slot_list_append PySem.F.type_list_append mt_append mw_app (pv 2) (pa_k (pd_tup (pa_k pd_str (pa_k (pd_lst (pa_k pd_str (pa_k pd_str pa_n))) (pa_k pd_str (pa_k pd_str (pa_k pd_str pa_n)))))) pa_n)))
      (ss_cons (s_expr (pd_w PySem.F.plainAttrs_list PySem.F.slot_list_append PySem.F.type_list_append mt_append mw_app (pv 2) (pa_k (pd_tup (pa_k pd_str (pa_k (pd_lst (pa_k pd_str (pa_k pd_str pa_n))) (pa_k pd_str (pa_k pd_str (pa_k pd_str pa_n)))))) pa_n)))
      (ss_one (s_ret (pd_ixS hu (pv 2) (pd_call O_law_take (hr.mono (by decide)) (by rfl) g_law_take.m g_law_take.k g_law_take.b (pa_k (pd_v 0 (pv 0)) (pa_k pd_int pa_n))))))))))))))))))), ?_⟩
  refine seq_cut (fun ρ => ρ = [.val (.raw (.ref d)), .val adderD, .no, .no]) (fun N hN => ⟨(by show 2 ≤ 1000; decide), hN _ rfl⟩) ?_
  rintro _ rfl
  refine seq_cut (fun ρ => ρ = [.val (.raw (.ref d)), .val adderD, .own (.lst ((kitTab.take 1).map encK)), .no]) (fun N hN => ⟨rfl, _, rfl, (by decide +kernel), rfl, _, rfl, (by decide +kernel), (by show 2 ≤ 1000; decide), (by show 5 ≤ 1000; decide), (by show 1 ≤ 1000; decide), hN _ rfl⟩) ?_
  rintro _ rfl
  refine seq_cut (fun ρ => ρ = [.val (.raw (.ref d)), .val adderD, .own (.lst ((kitTab.take 2).map encK)), .no]) (fun N hN => ⟨rfl, (by show 3 ≤ 1000; decide), (by show 5 ≤ 1000; decide), (by show 1 < 100000; decide), hN _ rfl⟩) ?_
  rintro _ rfl
  refine seq_cut (fun ρ => ρ = [.val (.raw (.ref d)), .val adderD, .own (.lst ((kitTab.take 3).map encK)), .no]) (fun N hN => ⟨rfl, (by show 2 ≤ 1000; decide), (by show 5 ≤ 1000; decide), (by show 2 < 100000; decide), hN _ rfl⟩) ?_
  rintro _ rfl
  refine seq_cut (fun ρ => ρ = [.val (.raw (.ref d)), .val adderD, .own (.lst ((kitTab.take 4).map encK)), .no]) (fun N hN => ⟨rfl, (by show 2 ≤ 1000; decide), (by show 5 ≤ 1000; decide), (by show 3 < 100000; decide), hN _ rfl⟩) ?_
  rintro _ rfl
  refine seq_cut (fun ρ => ρ = [.val (.raw (.ref d)), .val adderD, .own (.lst ((kitTab.take 5).map encK)), .no]) (fun N hN => ⟨rfl, (by show 1 ≤ 1000; decide), (by show 5 ≤ 1000; decide), (by show 4 < 100000; decide), hN _ rfl⟩) ?_
  rintro _ rfl
  refine seq_cut (fun ρ => ρ = [.val (.raw (.ref d)), .val adderD, .own (.lst ((kitTab.take 6).map encK)), .no]) (fun N hN => ⟨rfl, rfl, _, rfl, (by decide +kernel), rfl, _, rfl, (by decide +kernel), (by show 2 ≤ 1000; decide), (by show 5 ≤ 1000; decide), (by show 5 < 100000; decide), hN _ rfl⟩) ?_
  rintro _ rfl
  refine seq_cut (fun ρ => ρ = [.val (.raw (.ref d)), .val adderD, .own (.lst ((kitTab.take 6).map encK)), .own (.lst [.str "s odd a d c", .str "t most a d c", .str "e and a a"])]) (fun N hN => ⟨(by show 3 ≤ 1000; decide), hN _ rfl⟩) ?_
  rintro _ rfl
  refine seq_cut (fun ρ => ρ = [.val (.raw (.ref d)), .val adderD, .own (.lst ((kitTab.take 7).map encK)), .val (.lst [.str "s odd a d c", .str "t most a d c", .str "e and a a"])]) (fun N hN => ⟨rfl, (by show 5 ≤ 1000; decide), (by show 6 < 100000; decide), hN _ rfl⟩) ?_
  rintro _ rfl
  refine seq_cut (fun ρ => ρ = [.val (.raw (.ref d)), .val adderD, .own (.lst ((kitTab.take 7).map encK)), .own (.lst [.str "s odd a b c", .str "t most a b c", .str "z odd s x d", .str "u most s x d"])]) (fun N hN => ⟨(by show 4 ≤ 1000; decide), hN _ rfl⟩) ?_
  rintro _ rfl
  refine seq_cut (fun ρ => ρ = [.val (.raw (.ref d)), .val adderD, .own (.lst ((kitTab.take 8).map encK)), .val (.lst [.str "s odd a b c", .str "t most a b c", .str "z odd s x d", .str "u most s x d"])]) (fun N hN => ⟨rfl, (by show 5 ≤ 1000; decide), (by show 7 < 100000; decide), hN _ rfl⟩) ?_
  rintro _ rfl
  refine seq_cut (fun ρ => ρ = [.val (.raw (.ref d)), .val adderD, .own (.lst ((kitTab.take 9).map encK)), .val (.lst [.str "s odd a b c", .str "t most a b c", .str "z odd s x d", .str "u most s x d"])]) (fun N hN => ⟨rfl, (by show 2 ≤ 1000; decide), (by show 5 ≤ 1000; decide), (by show 8 < 100000; decide), hN _ rfl⟩) ?_
  rintro _ rfl
  refine seq_cut (fun ρ => ρ = [.val (.raw (.ref d)), .val adderD, .own (.lst ((kitTab.take 10).map encK)), .val (.lst [.str "s odd a b c", .str "t most a b c", .str "z odd s x d", .str "u most s x d"])]) (fun N hN => ⟨rfl, (by show 2 ≤ 1000; decide), (by show 5 ≤ 1000; decide), (by show 9 < 100000; decide), hN _ rfl⟩) ?_
  rintro _ rfl
  refine ⟨rfl, d, c, 10, rfl, rfl, by decide, by decide, fun r hr' => ⟨.inl rfl, ?_⟩⟩
  have hr2 : r < 10 := by omega
  obtain ⟨k, hk⟩ : ∃ k, kitTab[r]? = some k := ⟨_, List.getElem?_eq_getElem (by show r < 10; exact hr2)⟩
  refine ⟨encK k, ?_, hΦ k (List.mem_of_getElem? hk)⟩
  exact atI_nat (by rw [List.getElem?_map, List.take_of_length_le (by decide), hk]; rfl)
end
end Lw
namespace Lw
open PySem L2
noncomputable abbrev TabS := List (Str × Str)
noncomputable def encS (t : TabS) : List (Key × D) := t.map fun p => (Sum.inr p.1, D.str p.2)
noncomputable def nmOf (t : TabS) (x : Str) : Str := match t.find? (fun p => decide (p.1 = x)) with
  | some p => p.2
  | none => ""
theorem nm_cons {p : Str × Str} {t : TabS} {x : Str} : nmOf (p :: t) x = if p.1 = x then p.2 else nmOf t x := by
  unfold nmOf
  rw [List.find?_cons]
  by_cases h : p.1 = x <;> simp [h]
theorem valS : ∀ (t : TabS) (x : Str), (x ∈ t.map (·.1) → valD (encS t) (Sum.inr x) = some (.str (nmOf t x))) ∧ (x ∉ t.map (·.1) → valD (encS t) (Sum.inr x) = none)
  | [], x => ⟨fun h => by simp at h, fun _ => rfl⟩
  | p :: t, x => by
    have ih := valS t x
    have e : encS (p :: t) = (Sum.inr p.1, D.str p.2) :: encS t := rfl
    rw [e, valD_cons, nm_cons]
    by_cases h : p.1 = x
    · subst h
      exact ⟨fun _ => by rw [if_pos rfl, if_pos rfl], fun n => absurd (by simp) n⟩
    · have h' : (Sum.inr p.1 : Key) ≠ Sum.inr x := fun q => h (Sum.inr.inj q)
      rw [if_neg h', if_neg h]
      refine ⟨fun m => ih.1 ?_, fun m => ih.2 fun q => m (by simp only [List.map_cons, List.mem_cons]; exact .inr q)⟩
      simp only [List.map_cons, List.mem_cons] at m
      exact m.resolve_left fun q => h q.symm
theorem putS {t : TabS} {x n : Str} (h : x ∉ t.map (·.1)) : putD (encS t) (Sum.inr x) (.str n) = encS (t ++ [(x, n)]) := by
  unfold putD
  rw [valD_any, (valS t x).2 h]
  simp [encS]
theorem mergeS_go : ∀ (u t : TabS), ((t ++ u).map (·.1)).Nodup → mergeD (encS t) (encS u) = encS (t ++ u)
  | [], t, _ => by simp [mergeD, encS]
  | p :: u, t, h => by
    have hn : p.1 ∉ t.map (·.1) := fun q => by
      rw [List.map_append] at h
      exact (List.nodup_append.mp h).2.2 p.1 q p.1 (by simp) rfl
    have e : mergeD (encS t) (encS (p :: u)) = mergeD (putD (encS t) (Sum.inr p.1) (.str p.2)) (encS u) := rfl
    rw [e, putS hn, mergeS_go u (t ++ [p]) (by simpa using h)]
    simp
theorem mergeS {t : TabS} (h : (t.map (·.1)).Nodup) : mergeD [] (encS t) = encS t := by
  have := mergeS_go t [] (by simpa using h)
  simpa [encS] using this
theorem zipS : ∀ (own xs : List Str), (own.map fun o => (Sum.inr o : Key)).zip (xs.map D.str) = encS (own.zip xs)
  | [], _ => rfl
  | _ :: _, [] => rfl
  | o :: own, x :: xs => by simp only [List.map_cons, List.zip_cons_cons, zipS own xs]; rfl
theorem zip_fst : ∀ (own xs : List Str), own.length = xs.length → (own.zip xs).map (·.1) = own
  | [], _, _ => rfl
  | _ :: _, [], h => by simp at h
  | o :: own, x :: xs, h => by simp only [List.zip_cons_cons, List.map_cons, zip_fst own xs (by simpa using h)]
theorem nm_mem : ∀ {own xs : List Str} {o : Str}, own.length = xs.length → o ∈ own → nmOf (own.zip xs) o ∈ xs
  | [], _, _, _, h => by cases h
  | _ :: _, [], _, h, _ => by simp at h
  | a :: own, x :: xs, o, h, m => by
    rw [List.zip_cons_cons, nm_cons]
    split
    · exact List.mem_cons_self
    · rename_i e
      exact List.mem_cons_of_mem _ (nm_mem (by simpa using h) ((List.mem_cons.mp m).resolve_left fun q => e q.symm))
theorem nm_inj : ∀ {own xs : List Str} {o o' : Str}, own.length = xs.length → xs.Nodup → o ∈ own → o' ∈ own → nmOf (own.zip xs) o = nmOf (own.zip xs) o' → o = o'
  | [], _, _, _, _, _, h, _, _ => by cases h
  | _ :: _, [], _, _, h, _, _, _, _ => by simp at h
  | a :: own, x :: xs, o, o', h, nd, m, m', e => by
    rw [List.zip_cons_cons, nm_cons, nm_cons] at e
    obtain ⟨n1, n2⟩ := List.nodup_cons.mp nd
    have hl : own.length = xs.length := by simpa using h
    by_cases q : a = o
    · by_cases q' : a = o'
      · rw [← q, ← q']
      · rw [if_pos q, if_neg q'] at e
        have := nm_mem hl ((List.mem_cons.mp m').resolve_left fun z => q' z.symm)
        dsimp only at e
        rw [← e] at this
        exact absurd this n1
    · by_cases q' : a = o'
      · rw [if_neg q, if_pos q'] at e
        have := nm_mem hl ((List.mem_cons.mp m).resolve_left fun z => q z.symm)
        dsimp only at e
        rw [e] at this
        exact absurd this n1
      · rw [if_neg q, if_neg q'] at e
        exact nm_inj hl n2 ((List.mem_cons.mp m).resolve_left fun z => q z.symm) ((List.mem_cons.mp m').resolve_left fun z => q' z.symm) e
theorem nodup_on {α β : Type} {f : α → β} : ∀ {l : List α}, l.Nodup → (∀ x ∈ l, ∀ y ∈ l, f x = f y → x = y) → (l.map f).Nodup
  | [], _, _ => .nil
  | a :: l, nd, h => by
    obtain ⟨n1, n2⟩ := List.nodup_cons.mp nd
    refine List.nodup_cons.mpr ⟨fun m => ?_, nodup_on n2 fun x hx y hy => h x (List.mem_cons_of_mem _ hx) y (List.mem_cons_of_mem _ hy)⟩
    obtain ⟨y, hy, e⟩ := List.mem_map.mp m
    have := h a List.mem_cons_self y (List.mem_cons_of_mem _ hy) e.symm
    subst this
    exact n1 hy
noncomputable def pairsOf : List Str → List (Str × Str)
  | a :: b :: r => (a, b) :: pairsOf r
  | _ => []
theorem pairs_at : ∀ {ws : List Str} {i : Nat} {p : Str × Str}, (pairsOf ws)[i]? = some p → ws[2 * i]? = some p.1 ∧ ws[2 * i + 1]? = some p.2
  | [], i, p, h => by simp [pairsOf] at h
  | [a], i, p, h => by simp [pairsOf] at h
  | a :: b :: r, 0, p, h => by simp [pairsOf] at h; subst h; exact ⟨rfl, rfl⟩
  | a :: b :: r, i + 1, p, h => by
    have := pairs_at (ws := r) (i := i) (p := p) (by simpa [pairsOf] using h)
    rw [show 2 * (i + 1) = (2 * i) + 1 + 1 by omega]
    simpa using this
theorem pairs_len : ∀ (ws : List Str), ws.length % 2 = 0 → 2 * (pairsOf ws).length = ws.length
  | [], _ => rfl
  | [a], h => by simp at h
  | a :: b :: r, h => by
    have := pairs_len r (by simp only [List.length_cons] at h; omega)
    simp only [pairsOf, List.length_cons]; omega
theorem many_two (n : Nat) : manyS 0 ((2 * n : Nat) : Int) 2 = n := by
  unfold manyS
  split
  · omega
  · omega
end Lw
namespace Lw
open PySem L2
noncomputable def tri (l : List Str) : Str × Str × List Str := (l.headD "", (l.drop 1).headD "", l.drop 2)
noncomputable def arB (w : Str) (n : Nat) : Bool := (decide (w ∈ two3) && (n == 2 || n == 3)) || ((w == "most") && (n == 3)) || ((w == "not") && (n == 1)) || ((w == "one") && (n == 0)) || ((w == "nil") && (n == 0))
theorem arB_ok {w : Str} {n : Nat} (h : arB w n = true) : ArOk w n := by
  unfold arB at h
  simp only [Bool.or_eq_true, Bool.and_eq_true, decide_eq_true_eq, beq_iff_eq] at h
  rcases h with (((h | h) | h) | h) | h
  · exact ⟨.inl h⟩
  · exact ⟨.inr (.inl h)⟩
  · exact ⟨.inr (.inr (.inl h))⟩
  · exact ⟨.inr (.inr (.inr (.inl h)))⟩
  · exact ⟨.inr (.inr (.inr (.inr h)))⟩
noncomputable def gatesB : List Str → Gts → Bool
  | _, [] => true
  | kn, g :: r => arB g.2.1 g.2.2.length && (g.2.2.all (fun p => decide (p ∈ kn)) && gatesB (kn ++ [g.1]) r)
theorem gatesB_ok : ∀ {gs : Gts} {kn : List Str}, gatesB kn gs = true → GatesOk kn gs
  | [], _, _ => trivial
  | g :: r, kn, h => by
    unfold gatesB at h
    simp only [Bool.and_eq_true, List.all_eq_true, decide_eq_true_eq] at h
    exact ⟨arB_ok h.1, h.2.1, gatesB_ok h.2.2⟩
theorem GatesOk.more : ∀ {gs : Gts} {kn kn' : List Str}, (∀ x ∈ kn, x ∈ kn') → GatesOk kn gs → GatesOk kn' gs
  | [], _, _, _, _ => trivial
  | g :: r, kn, kn', h, ok => ⟨ok.1, fun p hp => h p (ok.2.1 p hp), GatesOk.more (fun x hx => by
    rcases List.mem_append.mp hx with q | q
    · exact List.mem_append_left _ (h x q)
    · exact List.mem_append_right _ q) ok.2.2⟩
noncomputable def ren (f : Str → Str) (g : Str × Str × List Str) : Str × Str × List Str := (f g.1, g.2.1, g.2.2.map f)
theorem GatesOk.ren (f : Str → Str) : ∀ {gs : Gts} {kn : List Str}, GatesOk kn gs → GatesOk (kn.map f) (gs.map (Lw.ren f))
  | [], _, _ => trivial
  | g :: r, kn, ok => by
    refine ⟨by show ArOk g.2.1 (g.2.2.map f).length; rw [List.length_map]; exact ok.1, fun p hp => ?_, ?_⟩
    · obtain ⟨q, hq, rfl⟩ := List.mem_map.mp hp
      exact List.mem_map.mpr ⟨q, ok.2.1 q hq, rfl⟩
    · have := GatesOk.ren f ok.2.2
      rw [List.map_append] at this
      exact this
theorem GatesOk.app : ∀ {gs hs : Gts} {kn : List Str}, GatesOk kn gs → GatesOk (kn ++ gs.map (·.1)) hs → GatesOk kn (gs ++ hs)
  | [], hs, kn, _, h => by simpa using h
  | g :: r, hs, kn, ok, h => ⟨ok.1, ok.2.1, GatesOk.app ok.2.2 (by simpa using h)⟩
noncomputable def kI (k : Kit) : List Str := wordsOf k.ins
noncomputable def kO (k : Kit) : List Str := wordsOf k.outs
noncomputable def kP (k : Kit) : List Str := wordsOf k.pairs
noncomputable def kN (k : Kit) : List Str := wordsOf k.nums
noncomputable def kG (k : Kit) : List (List Str) := k.gates.map wordsOf
noncomputable def kH (k : Kit) : List Str := (kG k).map fun l => (tri l).1
noncomputable def kitB (k : Kit) : Bool :=
  (k.ins :: k.outs :: k.pairs :: k.nums :: k.gates).all (fun z => decide (z.length ≤ 1000) && decide ((Txt.split z " ").length ≤ 1000)) &&
  ((kG k).all (fun l => decide (2 ≤ l.length)) &&
  (decide ((kI k ++ kH k).Nodup) &&
  ((kI k ++ kH k).all (fun x => decide (x.length = 1) && decide (x ≠ "-")) &&
  (gatesB (kI k) ((kG k).map tri) &&
  ((kO k).all (fun o => decide (o ∈ kH k)) &&
  (decide (kO k).Nodup &&
  (decide ((kP k).length % 2 = 0) &&
  ((pairsOf (kP k)).all (fun p => decide (p.1 ∈ kO k) && decide (p.2 ∈ kI k)) &&
  (decide ((pairsOf (kP k)).map (·.1)).Nodup &&
  (decide ((pairsOf (kP k)).map (·.2)).Nodup &&
  (decide ((kN k).length % 2 = 0) &&
  ((pairsOf (kN k)).all (fun p => (decide (p.1 ∈ kI k ++ kH k) || decide (p.1 = "-")) && ((intText? p.2).isSome && decide (p.2.length ≤ 640))) &&
  (decide ((kI k).length ≤ 5) && (decide ((kG k).length ≤ 4) && (decide ((kO k).length ≤ 3) && (decide ((kP k).length ≤ 8) && decide ((kN k).length ≤ 100)))))))))))))))))
structure KitOk (k : Kit) : Prop where
  tx : ∀ z ∈ k.ins :: k.outs :: k.pairs :: k.nums :: k.gates, z.length ≤ 1000 ∧ (Txt.split z " ").length ≤ 1000
  g2 : ∀ l ∈ kG k, 2 ≤ l.length
  nd : (kI k ++ kH k).Nodup
  one : ∀ x ∈ kI k ++ kH k, x.length = 1 ∧ x ≠ "-"
  gt : GatesOk (kI k) ((kG k).map tri)
  oh : ∀ o ∈ kO k, o ∈ kH k
  ond : (kO k).Nodup
  pe : (kP k).length % 2 = 0
  pm : ∀ p ∈ pairsOf (kP k), p.1 ∈ kO k ∧ p.2 ∈ kI k
  p1 : ((pairsOf (kP k)).map (·.1)).Nodup
  p2 : ((pairsOf (kP k)).map (·.2)).Nodup
  ne : (kN k).length % 2 = 0
  nm : ∀ p ∈ pairsOf (kN k), (p.1 ∈ kI k ++ kH k ∨ p.1 = "-") ∧ (intText? p.2).isSome = true ∧ p.2.length ≤ 640
  li : (kI k).length ≤ 5
  lg : (kG k).length ≤ 4
  lo : (kO k).length ≤ 3
  lp : (kP k).length ≤ 8
  ln : (kN k).length ≤ 100
set_option maxHeartbeats 4000000 in
theorem kits_B : kitTab.all kitB = true := by decide +kernel
theorem kits_ok {k : Kit} (h : k ∈ kitTab) : KitOk k := by
  have := List.all_eq_true.mp kits_B k h
  unfold kitB at this
  simp only [Bool.and_eq_true, List.all_eq_true, decide_eq_true_eq, Bool.or_eq_true] at this
  obtain ⟨a1, a2, a3, a4, a5, a6, a7, a8, a9, b1, b2, b3, b4, b5, b6, b7, b8, b9⟩ := this
  exact ⟨a1, a2, a3, a4, gatesB_ok a5, a6, a7, a8, a9, b1, b2, b3, b4, b5, b6, b7, b8, b9⟩
noncomputable def idn (i : Nat) : Str := ("i" : Str) ++ ((toString ((0 : Int) + (i : Int)) : String) : Str)
noncomputable def igate (w0 : Str) (i : Nat) : List Str := if i = 0 then [idn 0, w0] else [idn i, "not", idn 0]
theorem idn_facts : ∀ i < 19, (idn i).length ≠ 1 ∧ idn i ≠ "-" ∧ ∀ j < 19, idn i = idn j → i = j := by decide +kernel
theorem ig_head (w0 : Str) (i : Nat) : (tri (igate w0 i)).1 = idn i := by
  unfold igate; split
  · subst_vars; rfl
  · rfl
theorem ig_two (w0 : Str) (i : Nat) : 2 ≤ (igate w0 i).length := by unfold igate; split <;> simp
theorem ig_ok {w0 : Str} (h : w0 = "one" ∨ w0 = "nil") (kn : List Str) : ∀ n, GatesOk kn (((List.range n).map (igate w0)).map tri)
  | 0 => trivial
  | n + 1 => by
    rw [List.range_succ, List.map_append, List.map_append]
    refine GatesOk.snoc (ig_ok h kn n) ?_ ?_
    · by_cases e : n = 0
      · subst e
        rcases h with rfl | rfl
        · exact ⟨.inr (.inr (.inr (.inl ⟨rfl, rfl⟩)))⟩
        · exact ⟨.inr (.inr (.inr (.inr ⟨rfl, rfl⟩)))⟩
      · unfold igate
        rw [if_neg e]
        exact ⟨.inr (.inr (.inl ⟨rfl, rfl⟩))⟩
    · intro p hp
      by_cases e : n = 0
      · subst e; simp [tri, igate] at hp
      · have hp' : p = idn 0 := by
          unfold igate at hp
          rw [if_neg e] at hp
          simpa [tri] using hp
        subst hp'
        refine List.mem_append_right _ ?_
        rw [List.map_map, List.map_map]
        refine List.mem_map.mpr ⟨0, List.mem_range.mpr (by omega), ig_head w0 0⟩
noncomputable def encL (l : List Str) : D := .lst (l.map D.str)
theorem getS {t : TabS} {x : Str} (h : x ∈ t.map (·.1)) : lookD (.dK (encS t)) (.str x) = some (some (.str (nmOf t x))) := by
  show some (valD (encS t) (Sum.inr x)) = _
  rw [(valS t x).1 h]
theorem at_head {l : List Str} (h : 2 ≤ l.length) : atI (l.map D.str) 0 = some (.str (tri l).1) ∧ atI (l.map D.str) 1 = some (.str (tri l).2.1) := by
  match l, h with
  | a :: b :: r, _ =>
    constructor
    · exact atI_nat (j := 0) rfl
    · exact atI_nat (j := 1) rfl
theorem perm_strs : ∀ {xs : List Str} {ys : List D}, ys.Perm (xs.map D.str) → ∃ zs : List Str, zs.Perm xs ∧ ys = zs.map D.str := by
  intro xs ys h
  have key : ∀ (ys : List D), (∀ y ∈ ys, ∃ x : Str, y = D.str x) → ∃ zs : List Str, ys = zs.map D.str := by
    intro ys
    induction ys with
    | nil => exact fun _ => ⟨[], rfl⟩
    | cons y ys ih =>
      intro h
      obtain ⟨x, rfl⟩ := h y List.mem_cons_self
      obtain ⟨zs, rfl⟩ := ih fun z hz => h z (List.mem_cons_of_mem _ hz)
      exact ⟨x :: zs, rfl⟩
  obtain ⟨zs, rfl⟩ := key ys fun y hy => by
    obtain ⟨x, _, rfl⟩ := List.mem_map.mp (h.mem_iff.mp hy)
    exact ⟨x, rfl⟩
  refine ⟨zs, ?_, rfl⟩
  have := h.map (fun d => match d with | D.str x => x | _ => ("" : Str))
  simpa [Function.comp_def] using this
theorem perm_pairs {xs : List (Str × Str)} {ys : List D} (h : ys.Perm (xs.map encP)) : ∃ zs : List (Str × Str), zs.Perm xs ∧ ys = zs.map encP := by
  have key : ∀ (ys : List D), (∀ y ∈ ys, ∃ x : Str × Str, y = encP x) → ∃ zs : List (Str × Str), ys = zs.map encP := by
    intro ys
    induction ys with
    | nil => exact fun _ => ⟨[], rfl⟩
    | cons y ys ih =>
      intro h
      obtain ⟨x, rfl⟩ := h y List.mem_cons_self
      obtain ⟨zs, rfl⟩ := ih fun z hz => h z (List.mem_cons_of_mem _ hz)
      exact ⟨x :: zs, rfl⟩
  obtain ⟨zs, rfl⟩ := key ys fun y hy => by
    obtain ⟨x, _, rfl⟩ := List.mem_map.mp (h.mem_iff.mp hy)
    exact ⟨x, rfl⟩
  refine ⟨zs, ?_, rfl⟩
  have := h.map (fun d => match d with | D.tup [D.str x, D.str y] => (x, y) | _ => (("" : Str), ("" : Str)))
  simpa [Function.comp_def, encP] using this
theorem map_getD {α β : Type} (l : List α) (d : α) (h : α → β) : (List.range l.length).map (fun i => h (l.getD i d)) = l.map h := by
  apply List.ext_getElem?
  intro i
  rw [List.getElem?_map, List.getElem?_map]
  by_cases hi : i < l.length
  · rw [List.getElem?_range hi, List.getElem?_eq_getElem hi]
    simp [List.getD, List.getElem?_eq_getElem hi]
  · rw [List.getElem?_eq_none (by simpa using hi), List.getElem?_eq_none (by omega)]; rfl
theorem cut_last (f : Nat → D) (n : Nat) : cutD ((List.range n).map f) (some (-1)) none = if n = 0 then [] else [f (n - 1)] := by
  unfold cutD
  rw [HT.sIx_none, List.length_map, List.length_range]
  have e : HT.sIx n 0 (some (-1)) = n - 1 := by
    show (if (-1 : Int) < 0 then ((-1 : Int) + (n : Int)).toNat else min (-1 : Int).toNat n) = n - 1
    rw [if_pos (by decide)]; omega
  rw [e]
  split
  · subst_vars; rfl
  · obtain ⟨m, rfl⟩ : ∃ m, n = m + 1 := ⟨n - 1, by omega⟩
    rw [List.range_succ, List.map_append, Nat.add_sub_cancel, List.drop_left' (by simp)]
    simp
theorem put_len {κ : Type} [DecidableEq κ] (kvs : List (κ × D)) (k : κ) (d : D) : (putD kvs k d).length ≤ kvs.length + 1 := by
  unfold putD
  split
  · simp
  · simp
theorem idn_small : ∀ i < 19, ((0 : Int) + (i : Nat)).natAbs.log2 < 1920 ∧ ("i" : Str).length + ((toString ((0 : Int) + (i : Nat)) : String) : Str).length ≤ 100000 := by decide +kernel
theorem lc_in {n : Nat} {caps : List Nat} {g : TGd} {te : TEd} {dk : List Addr} {Φ : Sl → List Sl → Prop} {α : Type} (xs : List α) (enc out : α → D) (ρ1 : List Sl) (hl : xs.length ≤ 100000)
    (hs : ∀ (i : Nat) x (ys : List D) (Nx : List D → List Sl → Prop), xs[i]? = some x → ys.length < 100000 → Nx (ys ++ [out x]) (capS caps ρ1) → g (enc x) (List.replicate n Sl.no ++ capS caps ρ1) fun ρ2 => te dk ρ2 fun r ρ4 => match sd r with
      | some c => ys.length < 100000 ∧ Nx (ys ++ [c]) (ρ4.drop n)
      | none => False)
    (hΦ : Φ (.own (.lst (xs.map out))) (backS caps (capS caps ρ1) ρ1)) : ∃ Pv : Nat → List D → List Sl → Prop, Pv 0 [] (capS caps ρ1) ∧
      (∀ i d ys cs, (xs.map enc)[i]? = some d → cs.length = caps.length → Pv i ys cs → g d (List.replicate n Sl.no ++ cs) fun ρ2 => yesD dk ρ2 fun b ρ3 => if b = true then te dk ρ3 fun r ρ4 => match sd r with
        | some c => ys.length < 100000 ∧ Pv (i + 1) (ys ++ [c]) (ρ4.drop n)
        | none => False
        else Pv (i + 1) ys (ρ3.drop n)) ∧
      ∀ ys cs, cs.length = caps.length → Pv (xs.map enc).length ys cs → Φ (.own (.lst ys)) (backS caps cs ρ1) :=
  lc_all (ι := fun _ _ Ψ => Ψ (xs.map enc) ρ1) (dk := dk) (ρ := []) xs enc out ρ1 (fun Ψ h => h) hl hs hΦ
end Lw
namespace Lw
open PySem L2
noncomputable def R_made : RD := fun dk ds Φ => ∃ (d c : Addr) (k : Kit), dk = [d, c] ∧ ds = [.raw (.ref d), encK k] ∧ k ∈ kitTab ∧ ∀ C al kvs, GoodRow C al → Φ (.own (.lst [encRow C al, .dK kvs]))
noncomputable abbrev mrow (d : Addr) (k : Kit) (s2 s3 s4 s5 s6 s7 s8 s9 s10 s11 s12 s13 s14 : Sl) : List Sl := [.val (.raw (.ref d)), .val (encK k), s2, s3, s4, s5, s6, s7, s8, s9, s10, s11, s12, s13, s14]
theorem setS {t : TabS} {x n : Str} (h : x ∉ t.map (·.1)) (hl : t.length < 100000) : setD (.dK (encS t)) (.str x) (.str n) = some (.dK (encS (t ++ [(x, n)]))) := by
  simp only [setD, if_pos (show (encS t).length < 100000 by simpa [encS] using hl)]
  show some (D.dK (putD (encS t) (Sum.inr x) (.str n))) = _
  rw [putS h]
noncomputable abbrev sl (xs : List Str) : D := .lst (xs.map D.str)
noncomputable def idl (n : Nat) : List D := (List.range n).map fun i => D.str (idn i)
theorem nd_k : (["k"] : List Str).Nodup := by decide +kernel
theorem nd_text : (["text"] : List Str).Nodup := by decide +kernel
theorem nd_gate : (["gate"] : List Str).Nodup := by decide +kernel
theorem nd_gate_names : (["gate", "names"] : List Str).Nodup := by decide +kernel
theorem nd_one_names : (["one", "names"] : List Str).Nodup := by decide +kernel
theorem nd_k_names_pairs : (["k", "names", "pairs"] : List Str).Nodup := by decide +kernel
section
variable {P : Program} {w : World} {K : PySem.W.Frag} {mg : Str → Option Value} {base : Heap}
theorem sc_law_made : FnScope ["deck", "kit", "ins", "outs", "pairs", "numbers", "idle", "gates", "name", "own", "names", "rows", "along", "weights", "k"] ["deck", "kit"] (defScope s_law_made) := ⟨rfl, rfl, rfl, by decide +kernel, rfl, by decide +kernel, by decide +kernel⟩
set_option maxHeartbeats 4000000 in
theorem ok_mrow {f fT fN fS fW : Addr} {fd fdT fdN fdS fdW : FuncData} (F : Fun K "_law_made" "_law_made" s_law_made f fd) (T : Txt mg) (g_law_take : Gd K mg "_law_take" sTake ["deck", "many"] fT fdT) (g_law_names : Gd K mg "_law_names" sNames ["deck", "many"] fN fdN)
    (g_law_shuffled : Gd K mg "_law_shuffled" s_law_shuffled ["deck", "some"] fS fdS) (g_law_words : Gd K mg "_law_words" s_law_words ["text"] fW fdW)
    (O_law_take : FnOk P w K mg base CX0 1 fT fdT ["deck", "many"] (spD K R_take)) (O_law_names : FnOk P w K mg base CX0 3 fN fdN ["deck", "many"] (spD K R_names))
    (O_law_shuffled : FnOk P w K mg base CX0 2 fS fdS ["deck", "some"] (spD K R_shuf)) (O_law_words : FnOk P w K mg base CX0 1 fW fdW ["text"] (spD K R_words)) :
    FnOk P w K mg base CX0 4 f fd ["deck", "kit"] (spD K R_made) := by
  refine F.okD (k := 3) sc_law_made (fun dk ds Φ ⟨_, _, _, _, e, _⟩ => by rw [e]; rfl) (by decide) fun cdv A outer s H E dk ds Φ hr hR => ?_
  have hu := hu_of hr
  obtain ⟨d, c, k, rfl, rfl, hk, hΦ⟩ := hR
  have KO := kits_ok hk
  have tx := KO.tx
  refine ⟨_, (ss_cons (s_set (i := 2) sc_law_made.nd rfl (Or.inl rfl) (pd_call O_law_words (hr.mono (by decide)) (by rfl) g_law_words.m g_law_words.k g_law_words.b (pa_k (pd_ixS hu (pv 1) pd_int) pa_n)))
      (ss_cons (s_set (i := 3) sc_law_made.nd rfl (Or.inl rfl) (pd_call O_law_words (hr.mono (by decide)) (by rfl) g_law_words.m g_law_words.k g_law_words.b (pa_k (pd_ixS hu (pv 1) pd_int) pa_n)))
      (ss_cons (s_set (i := 4) sc_law_made.nd rfl (Or.inr rfl) (pd_call O_law_words (hr.mono (by decide)) (by rfl) g_law_words.m g_law_words.k g_law_words.b (pa_k (pd_ixS hu (pv 1) pd_int) pa_n)))
      (ss_cons (s_set (i := 5) sc_law_made.nd rfl (Or.inl rfl) (pd_call O_law_words (hr.mono (by decide)) (by rfl) g_law_words.m g_law_words.k g_law_words.b (pa_k (pd_ixS hu (pv 1) pd_int) pa_n)))
      (ss_cons (s_setLC (i := 6) ["k"] [] [] sc_law_made.nd rfl (Or.inl rfl) rfl (i_r1 (by rfl) T.range (pd_ix hu (pd_lst (pa_k pd_int (pa_k pd_int (pa_k pd_int (pa_k (pd_call O_law_take (hr.mono (by decide)) (by rfl) g_law_take.m g_law_take.k g_law_take.b (pa_k (pd_v 0 (pv 0)) (pa_k pd_int pa_n))) pa_n))))) (pd_call O_law_take (hr.mono (by decide)) (by rfl) g_law_take.m g_law_take.k g_law_take.b (pa_k (pd_v 0 (pv 0)) (pa_k pd_int pa_n))))) rfl rfl (fun _ _ _ _ _ => (g_n (i := 0) nd_k rfl (Or.inl rfl))) (fun _ _ _ _ _ => ifs_n) (fun _ _ _ _ _ => (pd_op op_plus od_add pd_str (pd_callTy call_str_int cd_str (by rfl) T.str PyProof.Rows.boot_str (pa_k (pd_v 0 (pv 0)) pa_n)))))
      (ss_cons (s_set (i := 7) sc_law_made.nd rfl (Or.inl rfl) (pd_lst pa_n))
      (ss_cons (s_for (m := 99) PassesOwn.never rfl (i_v (pd_v 6 (pv 6))) (g_n (i := 8) sc_law_made.nd rfl (Or.inl rfl)) (ss_one (s_expr (pd_w PySem.F.plainAttrs_list PySem.F.slot_list_append PySem.F.type_list_append mt_append mw_app (pv 7) (pa_k (pd_ix hu (pd_lst (pa_k (pd_lst (pa_k (pd_v 8 (pv 8)) (pa_k (pd_ix hu (pd_lst (pa_k pd_str (pa_k pd_str pa_n))) (pd_call O_law_take (hr.mono (by decide)) (by rfl) g_law_take.m g_law_take.k g_law_take.b (pa_k (pd_v 0 (pv 0)) (pa_k pd_int pa_n)))) pa_n))) (pa_k (pd_op op_plus od_add (pd_lst (pa_k (pd_v 8 (pv 8)) (pa_k pd_str pa_n))) (pd_slS sl_any sd_sl (pv 6) po_n (po_s pd_int))) pa_n))) (pd_callTy call_intA cd_intA (by rfl) T.int PyProof.Rows.boot_int (pa_k (pd_cmp op_gt od_gt (pd_callB call_lenA cd_len (by rfl) T.len PySem.boot_len (pa_s (pv 7) pa_n)) pd_int) pa_n))) pa_n)))))
      (ss_cons (s_set (i := 3) sc_law_made.nd rfl (Or.inl rfl) (pd_opS op_plus od_add (pv 3) (pd_op op_times od_mul (pd_slS sl_any sd_sl (pv 6) (po_s (pd_neg pd_int)) po_n) (pd_call O_law_take (hr.mono (by decide)) (by rfl) g_law_take.m g_law_take.k g_law_take.b (pa_k (pd_v 0 (pv 0)) (pa_k pd_int pa_n))))))
      (ss_cons (s_set (i := 7) sc_law_made.nd rfl (Or.inl rfl) (pd_opS op_plus od_add (pv 7) (pd_lc ["text"] [] [] rfl (i_v (pd_ixS hu (pv 1) pd_int)) rfl rfl (fun _ _ _ _ _ => (g_n (i := 0) nd_text rfl (Or.inl rfl))) (fun _ _ _ _ _ => ifs_n) (fun _ _ _ _ _ => (pd_call O_law_words (hr.mono (by decide)) (by rfl) g_law_words.m g_law_words.k g_law_words.b (pa_k (pd_v 0 (pv 0)) pa_n))))))
      (ss_cons (s_set (i := 9) sc_law_made.nd rfl (Or.inl rfl) (pd_opS op_plus od_add (pv 2) (pd_lc ["gate"] [] [] rfl (i_v (pd_v 7 (pv 7))) rfl rfl (fun _ _ _ _ _ => (g_n (i := 0) nd_gate rfl (Or.inl rfl))) (fun _ _ _ _ _ => ifs_n) (fun _ _ _ _ _ => (pd_ixS hu (pv 0) pd_int)))))
      (ss_cons (s_set (i := 10) sc_law_made.nd rfl (Or.inr rfl) (pd_dzip rfl (by rfl) T.dict (by rfl) T.zip (pa_k (pd_v 9 (pv 9)) (pa_k (pd_call O_law_names (hr.mono (by decide)) (by rfl) g_law_names.m g_law_names.k g_law_names.b (pa_k (pd_v 0 (pv 0)) (pa_k (pd_callB call_lenA cd_len (by rfl) T.len PySem.boot_len (pa_k (pd_v 9 (pv 9)) pa_n)) pa_n))) pa_n))))
      (ss_cons (s_setLC (i := 11) ["gate"] ["names"] [10] sc_law_made.nd rfl (Or.inl rfl) rfl (i_v (pd_v 7 (pv 7))) rfl rfl (fun _ _ _ _ _ => (g_n (i := 0) nd_gate_names rfl (Or.inl rfl))) (fun _ _ _ _ _ => ifs_n) (fun _ _ _ _ _ => (pd_tup (pa_k (pd_ixS hu (pv 1) (pd_ixS hu (pv 0) pd_int)) (pa_k (pd_ixS hu (pv 0) pd_int) (pa_k (pd_callTy call_tuple_of cd_tup (by rfl) T.tuple PyProof.Rows.boot_tuple (pa_k (pd_lc ["one"] ["names"] [1] rfl (i_v (pd_slS sl_any sd_sl (pv 0) (po_s pd_int) po_n)) rfl rfl (fun _ _ _ _ _ => (g_n (i := 0) nd_one_names rfl (Or.inl rfl))) (fun _ _ _ _ _ => ifs_n) (fun _ _ _ _ _ => (pd_ixS hu (pv 1) (pd_v 0 (pv 0))))) pa_n)) pa_n))))))
      (ss_cons (s_setLC (i := 2) ["one"] ["names"] [10] sc_law_made.nd rfl (Or.inl rfl) rfl (i_v (pd_call O_law_shuffled (hr.mono (by decide)) (by rfl) g_law_shuffled.m g_law_shuffled.k g_law_shuffled.b (pa_k (pd_v 0 (pv 0)) (pa_k (pd_v 2 (pv 2)) pa_n)))) rfl rfl (fun _ _ _ _ _ => (g_n (i := 0) nd_one_names rfl (Or.inl rfl))) (fun _ _ _ _ _ => ifs_n) (fun _ _ _ _ _ => (pd_ixS hu (pv 1) (pd_v 0 (pv 0)))))
      (ss_cons (s_setLC (i := 3) ["one"] ["names"] [10] sc_law_made.nd rfl (Or.inl rfl) rfl (i_v (pd_call O_law_shuffled (hr.mono (by decide)) (by rfl) g_law_shuffled.m g_law_shuffled.k g_law_shuffled.b (pa_k (pd_v 0 (pv 0)) (pa_k (pd_v 3 (pv 3)) pa_n)))) rfl rfl (fun _ _ _ _ _ => (g_n (i := 0) nd_one_names rfl (Or.inl rfl))) (fun _ _ _ _ _ => ifs_n) (fun _ _ _ _ _ => (pd_ixS hu (pv 1) (pd_v 0 (pv 0)))))
      (ss_cons (s_setLC (i := 12) ["k"] ["names", "pairs"] [10, 4] sc_law_made.nd rfl (Or.inl rfl) rfl (i_r3 (by rfl) T.range pd_int (pd_callB call_lenA cd_len (by rfl) T.len PySem.boot_len (pa_k (pd_v 4 (pv 4)) pa_n)) pd_int) rfl rfl (fun _ _ _ _ _ => (g_n (i := 0) nd_k_names_pairs rfl (Or.inl rfl))) (fun _ _ _ _ _ => ifs_n) (fun _ _ _ _ _ => (pd_tup (pa_k (pd_ixS hu (pv 1) (pd_ixS hu (pv 2) (pd_v 0 (pv 0)))) (pa_k (pd_ixS hu (pv 1) (pd_ixS hu (pv 2) (pd_opS op_plus od_add (pv 0) pd_int))) pa_n)))))
      (ss_cons (s_sub (n := 10) hu pd_str (pv 10) pd_str)
      (ss_cons (s_set (i := 13) sc_law_made.nd rfl (Or.inl rfl) pd_new)
      (ss_cons (s_for (m := 99) PassesOwn.never rfl (i_r3 (by rfl) T.range pd_int (pd_callB call_lenA cd_len (by rfl) T.len PySem.boot_len (pa_k (pd_v 5 (pv 5)) pa_n)) pd_int) (g_n (i := 14) sc_law_made.nd rfl (Or.inl rfl)) (ss_one (s_sub (n := 13) hu (pd_callTy call_intA cd_intA (by rfl) T.int PyProof.Rows.boot_int (pa_k (pd_ixS hu (pv 5) (pd_opS op_plus od_add (pv 14) pd_int)) pa_n)) (pv 13) (pd_ixS hu (pv 10) (pd_ixS hu (pv 5) (pd_v 14 (pv 14)))))))
      (ss_one (s_ret (pd_lst (pa_k (pd_tup (pa_k (pd_tup (pa_k (pd_callTy call_tuple_of cd_tup (by rfl) T.tuple PyProof.Rows.boot_tuple (pa_k (pd_v 2 (pv 2)) pa_n)) (pa_k (pd_callTy call_tuple_of cd_tup (by rfl) T.tuple PyProof.Rows.boot_tuple (pa_k (pd_v 11 (pv 11)) pa_n)) (pa_k (pd_callTy call_tuple_of cd_tup (by rfl) T.tuple PyProof.Rows.boot_tuple (pa_k (pd_v 3 (pv 3)) pa_n)) pa_n)))) (pa_k (pd_callTy call_tuple_of cd_tup (by rfl) T.tuple PyProof.Rows.boot_tuple (pa_k (pd_call O_law_shuffled (hr.mono (by decide)) (by rfl) g_law_shuffled.m g_law_shuffled.k g_law_shuffled.b (pa_k (pd_v 0 (pv 0)) (pa_k (pd_v 12 (pv 12)) pa_n))) pa_n)) pa_n))) (pa_k (pd_v 13 (pv 13)) pa_n))))))))))))))))))))))), ?_⟩
  refine seq_cut (fun ρ => ρ = mrow d k (.own (sl (kI k))) .no .no .no .no .no .no .no .no .no .no .no .no) (fun N hN => ⟨rfl, _, rfl, k.ins, rfl, (tx _ (by simp)).1, (tx _ (by simp)).2, .inl rfl, hN _ rfl⟩) ?_
  rintro _ rfl
  refine seq_cut (fun ρ => ρ = mrow d k (.own (sl (kI k))) (.own (sl (kO k))) .no .no .no .no .no .no .no .no .no .no .no) (fun N hN => ⟨rfl, _, rfl, k.outs, rfl, (tx _ (by simp)).1, (tx _ (by simp)).2, .inl rfl, hN _ rfl⟩) ?_
  rintro _ rfl
  refine seq_cut (fun ρ => ρ = mrow d k (.own (sl (kI k))) (.own (sl (kO k))) (.own (sl (kP k))) .no .no .no .no .no .no .no .no .no .no) (fun N hN => ⟨rfl, _, rfl, k.pairs, rfl, (tx _ (by simp)).1, (tx _ (by simp)).2, .inl rfl, hN _ rfl⟩) ?_
  rintro _ rfl
  refine seq_cut (fun ρ => ρ = mrow d k (.own (sl (kI k))) (.own (sl (kO k))) (.own (sl (kP k))) (.own (sl (kN k))) .no .no .no .no .no .no .no .no .no) (fun N hN => ⟨rfl, _, rfl, k.nums, rfl, (tx _ (by simp)).1, (tx _ (by simp)).2, .inl rfl, hN _ rfl⟩) ?_
  rintro _ rfl
  refine seq_cut (fun ρ => ∃ n, n < 19 ∧ ρ = mrow d k (.own (sl (kI k))) (.own (sl (kO k))) (.own (sl (kP k))) (.own (sl (kN k))) (.own (.lst (idl n))) .no .no .no .no .no .no .no .no) (fun N hN => ?_) ?_
  · unfold sSet eLC iR1
    refine ⟨d, c, 19, rfl, rfl, by decide, by decide, fun r1 h1 => ⟨.inl rfl, by show 4 ≤ 1000; decide, d, c, 4, rfl, rfl, by decide, by decide, fun r2 h2 => ⟨.inl rfl, ?_⟩⟩⟩
    obtain ⟨m, hm, hat⟩ : ∃ m : Nat, m < 19 ∧ atI [D.int 0, .int 0, .int 1, .int (r1 : Int)] (r2 : Int) = some (.int (m : Int)) := by
      have : r2 = 0 ∨ r2 = 1 ∨ r2 = 2 ∨ r2 = 3 := by omega
      rcases this with rfl | rfl | rfl | rfl
      · exact ⟨0, by decide, atI_nat rfl⟩
      · exact ⟨0, by decide, atI_nat rfl⟩
      · exact ⟨1, by decide, atI_nat rfl⟩
      · exact ⟨r1, by omega, atI_nat rfl⟩
    refine ⟨_, hat, by omega, by omega, ?_⟩
    rw [Int.toNat_natCast]
    refine lc_in (Φ := fun r ρ' => N (ρ'.set 6 r)) (List.range m) (fun (i : Nat) => D.int (0 + (i : Int))) (fun i => .str (idn i)) (mrow d k (.own (sl (kI k))) (.own (sl (kO k))) (.own (sl (kP k))) (.own (sl (kN k))) .no .no .no .no .no .no .no .no .no) (by rw [List.length_range]; omega) (fun j i ys Nx e h1 h2 => ?_) (hN _ ⟨m, hm, rfl⟩)
    have hi : i < 19 := by have := List.mem_range.mp (List.mem_of_getElem? e); omega
    exact ⟨(idn_small i hi).1, (idn_small i hi).2, h1, h2⟩
  rintro ρ ⟨n, hn, rfl⟩
  refine seq_cut (fun ρ => ρ = mrow d k (.own (sl (kI k))) (.own (sl (kO k))) (.own (sl (kP k))) (.own (sl (kN k))) (.own (.lst (idl n))) (.own (.lst [])) .no .no .no .no .no .no .no) (fun N hN => ⟨by show 0 ≤ 1000; decide, hN _ rfl⟩) ?_
  rintro _ rfl
  refine seq_cut (fun ρ => ∃ (w0 : Str) (s8 : Sl), (w0 = "one" ∨ w0 = "nil") ∧ ρ = mrow d k (.own (sl (kI k))) (.own (sl (kO k))) (.own (sl (kP k))) (.own (sl (kN k))) (.val (.lst (idl n))) (.own (.lst (((List.range n).map (igate w0)).map encL))) s8 .no .no .no .no .no .no) (fun N hN => ?_) ?_
  · refine for_at (idl n) (mrow d k (.own (sl (kI k))) (.own (sl (kO k))) (.own (sl (kP k))) (.own (sl (kN k))) (.val (.lst (idl n))) (.own (.lst [])) .no .no .no .no .no .no .no) (fun Ψ h => h)
      (fun j ρ => ∃ (w0 : Str) (s8 : Sl), (w0 = "one" ∨ w0 = "nil") ∧ ρ = mrow d k (.own (sl (kI k))) (.own (sl (kO k))) (.own (sl (kP k))) (.own (sl (kN k))) (.val (.lst (idl n))) (.own (.lst (((List.range j).map (igate w0)).map encL))) s8 .no .no .no .no .no .no) ⟨"one", .no, .inl rfl, rfl⟩ ?_ ?_
    · rintro j x ρ hx ⟨w0, s8, hw, rfl⟩
      obtain ⟨j', hj', rfl⟩ := map_item hx
      obtain ⟨hj, e⟩ := List.getElem?_eq_some_iff.mp hj'
      rw [List.length_range] at hj
      rw [List.getElem_range] at e
      subst e
      refine ⟨rfl, by show 2 ≤ 1000; decide, d, c, 2, rfl, rfl, by decide, by decide, fun r hr => ⟨.inl rfl, ?_⟩⟩
      obtain ⟨w1, hw1, hat⟩ : ∃ w1 : Str, (w1 = "one" ∨ w1 = "nil") ∧ atI [D.str "one", .str "nil"] (r : Int) = some (.str w1) := by
        have : r = 0 ∨ r = 1 := by omega
        rcases this with rfl | rfl
        · exact ⟨_, .inl rfl, atI_nat rfl⟩
        · exact ⟨_, .inr rfl, atI_nat rfl⟩
      have ec : cutD (idl n) none (some 1) = [D.str (idn 0)] := by
        have := cut_take (fun i => D.str (idn i)) (List.range n) 1
        obtain ⟨m, rfl⟩ : ∃ m, n = m + 1 := ⟨n - 1, by omega⟩
        have e2 : (List.range (m + 1)).take 1 = [0] := by rw [List.range_succ_eq_map]; rfl
        rw [e2] at this
        exact this
      refine ⟨_, hat, by show 2 ≤ 1000; decide, by show 2 ≤ 1000; decide, rfl, ?_⟩
      show (2 + (cutD (idl n) none (some 1)).length ≤ 100000) ∧ _
      rw [ec]
      refine ⟨by show 2 + 1 ≤ 100000; decide, by show 2 ≤ 1000; decide, rfl, rfl, _, rfl, ?_⟩
      have len : ((((List.range j).map (igate w0)).map encL).length : Nat) = j := by simp
      show ∃ c', atI [D.lst [.str (idn j), .str w1], .lst [.str (idn j), .str "not", .str (idn 0)]] (if decide ((((((List.range j).map (igate w0)).map encL).length : Nat) : Int) > 0) = true then 1 else 0) = some c' ∧ (((List.range j).map (igate w0)).map encL).length < 100000 ∧ _
      rw [len]
      by_cases h0 : j = 0
      · subst h0
        refine ⟨D.lst [.str (idn 0), .str w1], rfl, by decide, w1, .val (.str (idn 0)), hw1, rfl⟩
      · refine ⟨D.lst [.str (idn j), .str "not", .str (idn 0)], ?_, by omega, w0, .val (.str (idn j)), hw, ?_⟩
        · rw [if_pos (by simp; omega)]; exact atI_nat (j := 1) rfl
        · rw [List.range_succ, List.map_append, List.map_append]
          have : encL (igate w0 j) = D.lst [.str (idn j), .str "not", .str (idn 0)] := by unfold igate; rw [if_neg h0]; rfl
          show _ = mrow d k _ _ _ _ _ (.own (.lst (((List.range j).map (igate w0)).map encL ++ [encL (igate w0 j)]))) _ _ _ _ _ _ _
          rw [this]
          rfl
    · rintro ρ ⟨w0, s8, hw, rfl⟩
      rw [show (idl n).length = n by simp [idl]]
      exact hN _ ⟨w0, s8, hw, rfl⟩
  rintro ρ ⟨w0, s8, hw, rfl⟩
  refine seq_cut (fun ρ => ∃ ex : List Str, (ex = [] ∨ (1 ≤ n ∧ ex = [idn (n - 1)])) ∧ ρ = mrow d k (.own (sl (kI k))) (.own (sl (kO k ++ ex))) (.own (sl (kP k))) (.own (sl (kN k))) (.val (.lst (idl n))) (.own (.lst (((List.range n).map (igate w0)).map encL))) s8 .no .no .no .no .no .no) (fun N hN => ?_) ?_
  · refine ⟨rfl, rfl, d, c, 2, rfl, rfl, by decide, by decide, fun r hr => ⟨.inl rfl, ?_⟩⟩
    show (0 : Int) ≤ (r : Int) ∧ (r : Int) ≤ 1000 ∧ (cutD (idl n) (some (-1)) none).length ≤ 100 ∧ _
    have ec : cutD (idl n) (some (-1)) none = (if n = 0 then [] else [idn (n - 1)]).map D.str := by
      have := cut_last (fun i => D.str (idn i)) n
      rw [show idl n = (List.range n).map fun i => D.str (idn i) from rfl, this]
      split <;> rfl
    rw [ec]
    refine ⟨by omega, by omega, by split <;> simp, ?_⟩
    show ((kO k).map D.str).length + _ ≤ 100000 ∧ _
    have hlo := KO.lo
    have : r = 0 ∨ r = 1 := by omega
    rcases this with rfl | rfl
    · refine ⟨by show ((kO k).map D.str).length + 0 ≤ 100000; rw [List.length_map]; omega, hN _ ⟨[], .inl rfl, ?_⟩⟩
      rw [List.append_nil]
      show mrow d k _ (.own (.lst ((kO k).map D.str ++ []))) _ _ _ _ _ _ _ _ _ _ _ = _
      rw [List.append_nil]
    · by_cases h0 : n = 0
      · rw [if_pos h0]
        refine ⟨by show ((kO k).map D.str).length + 0 ≤ 100000; rw [List.length_map]; omega, hN _ ⟨[], .inl rfl, ?_⟩⟩
        rw [List.append_nil]
        show mrow d k _ (.own (.lst ((kO k).map D.str ++ []))) _ _ _ _ _ _ _ _ _ _ _ = _
        rw [List.append_nil]
      · rw [if_neg h0]
        refine ⟨by show ((kO k).map D.str).length + 1 ≤ 100000; rw [List.length_map]; omega, hN _ ⟨[idn (n - 1)], .inr ⟨by omega, rfl⟩, ?_⟩⟩
        show mrow d k _ (.own (.lst ((kO k).map D.str ++ [D.str (idn (n - 1))]))) _ _ _ _ _ _ _ _ _ _ _ = _
        rw [show sl (kO k ++ [idn (n - 1)]) = D.lst ((kO k).map D.str ++ [D.str (idn (n - 1))]) by simp [sl]]
  rintro ρ ⟨ex, hex, rfl⟩
  have gl0 : (kG k).length = k.gates.length := by unfold kG; simp
  have hlg := KO.lg
  have hli := KO.li
  have hlo := KO.lo
  obtain ⟨G, hG⟩ : ∃ G, G = (List.range n).map (igate w0) ++ kG k := ⟨_, rfl⟩
  have G2 : ∀ l ∈ G, 2 ≤ l.length := fun l hl => by
    rw [hG] at hl
    rcases List.mem_append.mp hl with q | q
    · obtain ⟨i, _, rfl⟩ := List.mem_map.mp q
      exact ig_two w0 i
    · exact KO.g2 l q
  have Gl : G.length ≤ 22 := by rw [hG]; simp; omega
  refine seq_cut (fun ρ => ρ = mrow d k (.own (sl (kI k))) (.own (sl (kO k ++ ex))) (.own (sl (kP k))) (.own (sl (kN k))) (.val (.lst (idl n))) (.own (.lst (G.map encL))) s8 .no .no .no .no .no .no) (fun N hN => ?_) ?_
  · unfold sSet d2s
    refine ⟨rfl, ?_⟩
    refine lc_all k.gates D.str (fun z => encL (wordsOf z)) _ (fun Ψ h => ⟨rfl, _, rfl, h⟩) (by omega) (fun j z ys Nx e h1 h2 => ⟨z, rfl, (tx z (by simp [List.mem_of_getElem? e])).1, (tx z (by simp [List.mem_of_getElem? e])).2, .inl rfl, h1, h2⟩) ?_
    refine ⟨by show (((List.range n).map (igate w0)).map encL).length + (k.gates.map _).length ≤ 100000; simp; omega, hN _ ?_⟩
    have eG : G.map encL = ((List.range n).map (igate w0)).map encL ++ k.gates.map (fun z => encL (wordsOf z)) := by
      rw [hG, List.map_append]
      congr 1
      unfold kG
      rw [List.map_map]; rfl
    rw [eG]
    rfl
  rintro _ rfl
  obtain ⟨Hd, hH⟩ : ∃ Hd, Hd = G.map fun l => (tri l).1 := ⟨_, rfl⟩
  have eH : Hd = (List.range n).map idn ++ kH k := by
    rw [hH, hG, List.map_append, List.map_map]
    congr 1
    exact List.map_congr_left fun i _ => ig_head w0 i
  have ownd : (kI k ++ Hd).Nodup := by
    have hi1 : ∀ i ∈ List.range n, idn i ∉ kI k ++ kH k := fun i hi q => (idn_facts i (by have := List.mem_range.mp hi; omega)).1 (KO.one _ q).1
    have hnd := KO.nd
    obtain ⟨n1, n2, n3⟩ := List.nodup_append.mp hnd
    rw [eH]
    refine List.nodup_append.mpr ⟨n1, List.nodup_append.mpr ⟨nodup_on List.nodup_range fun i hi j hj e => (idn_facts i (by have := List.mem_range.mp hi; omega)).2.2 j (by have := List.mem_range.mp hj; omega) e, n2, fun a ha b hb e => ?_⟩, fun a ha b hb e => ?_⟩
    · obtain ⟨i, hi, rfl⟩ := List.mem_map.mp ha
      exact hi1 i hi (by rw [e]; exact List.mem_append_right _ hb)
    · rcases List.mem_append.mp hb with q | q
      · obtain ⟨i, hi, rfl⟩ := List.mem_map.mp q
        exact hi1 i hi (by rw [← e]; exact List.mem_append_left _ ha)
      · exact n3 a ha b q e
  have nodash : ("-" : Str) ∉ kI k ++ Hd := fun q => by
    rw [eH] at q
    rcases List.mem_append.mp q with q | q
    · exact (KO.one _ (List.mem_append_left _ q)).2 rfl
    · rcases List.mem_append.mp q with q | q
      · obtain ⟨i, hi, e⟩ := List.mem_map.mp q
        exact (idn_facts i (by have := List.mem_range.mp hi; omega)).2.1 e
      · exact (KO.one _ (List.mem_append_right _ q)).2 rfl
  have Hl : Hd.length = G.length := by rw [hH]; simp
  refine seq_cut (fun ρ => ρ = mrow d k (.own (sl (kI k))) (.own (sl (kO k ++ ex))) (.own (sl (kP k))) (.own (sl (kN k))) (.val (.lst (idl n))) (.val (.lst (G.map encL))) s8 (.own (sl (kI k ++ Hd))) .no .no .no .no .no) (fun N hN => ?_) ?_
  · unfold sSet d2s
    refine ⟨rfl, ?_⟩
    refine lc_all G encL (fun l => .str (tri l).1) (mrow d k (.own (sl (kI k))) (.own (sl (kO k ++ ex))) (.own (sl (kP k))) (.own (sl (kN k))) (.val (.lst (idl n))) (.val (.lst (G.map encL))) s8 .no .no .no .no .no .no) (fun Ψ h => h) (by omega) (fun j l ys Nx e h1 h2 => ⟨rfl, _, (at_head (G2 l (List.mem_of_getElem? e))).1, h1, h2⟩) ?_
    refine ⟨by show ((kI k).map D.str).length + (G.map _).length ≤ 100000; simp; omega, hN _ ?_⟩
    show mrow d k _ _ _ _ _ _ _ (.own (.lst ((kI k).map D.str ++ G.map fun l => D.str (tri l).1))) _ _ _ _ _ = _
    rw [show sl (kI k ++ Hd) = D.lst ((kI k).map D.str ++ G.map fun l => D.str (tri l).1) by unfold sl; rw [List.map_append, hH, List.map_map]; rfl]
  rintro _ rfl
  refine seq_cut (fun ρ => ∃ xs : List Str, xs.length = (kI k ++ Hd).length ∧ xs.Nodup ∧ (∀ x ∈ xs, GoodName x) ∧ ρ = mrow d k (.own (sl (kI k))) (.own (sl (kO k ++ ex))) (.own (sl (kP k))) (.own (sl (kN k))) (.val (.lst (idl n))) (.val (.lst (G.map encL))) s8 (.val (sl (kI k ++ Hd))) (.own (.dK (encS ((kI k ++ Hd).zip xs)))) .no .no .no .no) (fun N hN => ?_) ?_
  · refine ⟨rfl, _, rfl, d, c, ((kI k ++ Hd).map D.str).length, rfl, rfl, by simp; omega, fun xs lx nd gn => ⟨.inl rfl, _, keysL_strs (kI k ++ Hd), by simp; omega, ?_⟩⟩
    have lx' : xs.length = (kI k ++ Hd).length := by rw [lx, List.length_map]
    rw [zipS, mergeS (by rw [zip_fst _ _ lx'.symm]; exact ownd)]
    exact hN _ ⟨xs, lx', nd, gn, rfl⟩
  rintro ρ ⟨xs, lx, xnd, xgn, rfl⟩
  have tk : ((kI k ++ Hd).zip xs).map (·.1) = kI k ++ Hd := zip_fst _ _ lx.symm
  have nmem : ∀ o ∈ kI k ++ Hd, nmOf ((kI k ++ Hd).zip xs) o ∈ xs := fun o ho => nm_mem lx.symm ho
  have ninj : ∀ o ∈ kI k ++ Hd, ∀ o' ∈ kI k ++ Hd, nmOf ((kI k ++ Hd).zip xs) o = nmOf ((kI k ++ Hd).zip xs) o' → o = o' := fun o ho o' ho' e => nm_inj lx.symm xnd ho ho' e
  generalize ht : (kI k ++ Hd).zip xs = t at tk nmem ninj ⊢
  have tlen : t.length < 100000 := by
    have := congrArg List.length tk
    simp only [List.length_map, List.length_append] at this
    omega
  have gk : GatesOk (kI k) (G.map tri) := by
    rw [hG, List.map_append]
    exact GatesOk.app (ig_ok hw _ n) (GatesOk.more (fun x hx => List.mem_append_left _ hx) KO.gt)
  have gH : ∀ l ∈ G, (tri l).1 ∈ Hd := fun l hl => by rw [hH]; exact List.mem_map.mpr ⟨l, hl, rfl⟩
  have gP : ∀ l ∈ G, ∀ p ∈ l.drop 2, p ∈ kI k ++ Hd := fun l hl p hp => by
    obtain ⟨j, hj, rfl⟩ := List.getElem_of_mem hl
    have h1 := (gates_at gk (i := j) (g := tri G[j]) (by rw [List.getElem?_map, List.getElem?_eq_getElem hj]; rfl)).2 p hp
    rcases List.mem_append.mp h1 with q | q
    · exact List.mem_append_left _ q
    · refine List.mem_append_right _ ?_
      rw [hH]
      obtain ⟨g, hg, rfl⟩ := List.mem_map.mp q
      obtain ⟨l', hl', rfl⟩ := List.mem_map.mp (List.mem_of_mem_take hg)
      exact List.mem_map.mpr ⟨l', hl', rfl⟩
  have oH : ∀ o ∈ kO k ++ ex, o ∈ Hd := fun o ho => by
    rw [eH]
    rcases List.mem_append.mp ho with q | q
    · exact List.mem_append_right _ (KO.oh o q)
    · rcases hex with rfl | ⟨h1, rfl⟩
      · cases q
      · rw [List.mem_singleton.mp q]
        exact List.mem_append_left _ (List.mem_map.mpr ⟨n - 1, List.mem_range.mpr (by omega), rfl⟩)
  have kyI : ∀ o ∈ kI k, o ∈ t.map (·.1) := fun o ho => by rw [tk]; exact List.mem_append_left _ ho
  have kyH : ∀ o ∈ Hd, o ∈ t.map (·.1) := fun o ho => by rw [tk]; exact List.mem_append_right _ ho
  refine seq_cut (fun ρ => ρ = mrow d k (.own (sl (kI k))) (.own (sl (kO k ++ ex))) (.own (sl (kP k))) (.own (sl (kN k))) (.val (.lst (idl n))) (.val (.lst (G.map encL))) s8 (.val (sl (kI k ++ Hd))) (.own (.dK (encS t))) (.own (.lst (G.map fun l => encG (ren (nmOf t) (tri l))))) .no .no .no) (fun N hN => ?_) ?_
  · unfold sSet
    refine lc_all G encL (fun l => encG (ren (nmOf t) (tri l))) (mrow d k (.own (sl (kI k))) (.own (sl (kO k ++ ex))) (.own (sl (kP k))) (.own (sl (kN k))) (.val (.lst (idl n))) (.val (.lst (G.map encL))) s8 (.val (sl (kI k ++ Hd))) (.own (.dK (encS t))) .no .no .no .no) (fun Ψ h => h) (by omega) (fun j l ys Nx e h1 h2 => ?_) (hN _ rfl)
    have hl := List.mem_of_getElem? e
    refine ⟨rfl, rfl, _, (at_head (G2 l hl)).1, _, getS (kyH _ (gH l hl)), rfl, _, (at_head (G2 l hl)).2, ?_⟩
    unfold dC aC
    have har := (gates_at gk (i := j) (g := tri l) (by rw [List.getElem?_map, e]; rfl)).1.ok
    have hlen : (l.drop 2).length ≤ 3 := by
      have e2 : (tri l).2.2.length = (l.drop 2).length := rfl
      rw [e2] at har
      rcases har with q | q | q | q | q <;> omega
    refine lc_all (l.drop 2) D.str (fun p => .str (nmOf t p)) [.val (encL l), .own (.dK (encS t))] (fun Ψ h => ⟨rfl, by rw [← cut_drop] at h; exact h⟩) (by omega) (fun j p ys Nx e h1 h2 => ⟨rfl, _, getS (by rw [tk]; exact gP l hl p (List.mem_of_getElem? e)), h1, h2⟩) ?_
    refine ⟨by show 3 ≤ 1000; decide, h1, ?_⟩
    have eE : encG (ren (nmOf t) (tri l)) = D.tup [.str (nmOf t (tri l).1), .str (tri l).2.1, .tup ((l.drop 2).map fun p => D.str (nmOf t p))] := by
      unfold encG ren
      rw [List.map_map]; rfl
    rw [eE] at h2
    exact h2
  rintro _ rfl
  refine seq_cut (fun ρ => ∃ I' : List Str, I'.Perm (kI k) ∧ ρ = mrow d k (.own (sl (I'.map (nmOf t)))) (.own (sl (kO k ++ ex))) (.own (sl (kP k))) (.own (sl (kN k))) (.val (.lst (idl n))) (.val (.lst (G.map encL))) s8 (.val (sl (kI k ++ Hd))) (.own (.dK (encS t))) (.own (.lst (G.map fun l => encG (ren (nmOf t) (tri l))))) .no .no .no) (fun N hN => ?_) ?_
  · unfold sSet eLC iV
    refine ⟨d, c, (kI k).map D.str, rfl, rfl, by simp; omega, fun ys hp => ⟨.inl rfl, ?_⟩⟩
    obtain ⟨I', pI, rfl⟩ := perm_strs hp
    refine lc_in (Φ := fun r ρ' => N (ρ'.set 2 r)) I' D.str (fun o => .str (nmOf t o)) (mrow d k (.val (sl (kI k))) (.own (sl (kO k ++ ex))) (.own (sl (kP k))) (.own (sl (kN k))) (.val (.lst (idl n))) (.val (.lst (G.map encL))) s8 (.val (sl (kI k ++ Hd))) (.own (.dK (encS t))) (.own (.lst (G.map fun l => encG (ren (nmOf t) (tri l))))) .no .no .no) (by rw [pI.length_eq]; omega) (fun j o ys Nx e h1 h2 => ⟨rfl, _, getS (kyI o (pI.mem_iff.mp (List.mem_of_getElem? e))), h1, h2⟩) (hN _ ⟨I', pI, ?_⟩)
    unfold sl
    rw [List.map_map]
    rfl
  rintro ρ ⟨I', pI, rfl⟩
  refine seq_cut (fun ρ => ∃ O' : List Str, O'.Perm (kO k ++ ex) ∧ ρ = mrow d k (.own (sl (I'.map (nmOf t)))) (.own (sl (O'.map (nmOf t)))) (.own (sl (kP k))) (.own (sl (kN k))) (.val (.lst (idl n))) (.val (.lst (G.map encL))) s8 (.val (sl (kI k ++ Hd))) (.own (.dK (encS t))) (.own (.lst (G.map fun l => encG (ren (nmOf t) (tri l))))) .no .no .no) (fun N hN => ?_) ?_
  · unfold sSet eLC iV
    have exl : ex.length ≤ 1 := by rcases hex with rfl | ⟨_, rfl⟩ <;> simp
    refine ⟨d, c, (kO k ++ ex).map D.str, rfl, rfl, by simp; omega, fun ys hp => ⟨.inl rfl, ?_⟩⟩
    obtain ⟨O', pO, rfl⟩ := perm_strs hp
    refine lc_in (Φ := fun r ρ' => N (ρ'.set 3 r)) O' D.str (fun o => .str (nmOf t o)) (mrow d k (.own (sl (I'.map (nmOf t)))) (.val (sl (kO k ++ ex))) (.own (sl (kP k))) (.own (sl (kN k))) (.val (.lst (idl n))) (.val (.lst (G.map encL))) s8 (.val (sl (kI k ++ Hd))) (.own (.dK (encS t))) (.own (.lst (G.map fun l => encG (ren (nmOf t) (tri l))))) .no .no .no) (by rw [pO.length_eq, List.length_append]; omega) (fun j o ys Nx e h1 h2 => ⟨rfl, _, getS (kyH o (oH o (pO.mem_iff.mp (List.mem_of_getElem? e)))), h1, h2⟩) (hN _ ⟨O', pO, ?_⟩)
    unfold sl
    rw [List.map_map (g := D.str) (f := nmOf t) (l := O')]
    rfl
  rintro ρ ⟨O', pO, rfl⟩
  have hlp := KO.lp
  have hpl := pairs_len (kP k) KO.pe
  obtain ⟨pp, hpp⟩ : ∃ pp, pp = pairsOf (kP k) := ⟨_, rfl⟩
  rw [← hpp] at hpl
  refine seq_cut (fun ρ => ρ = mrow d k (.own (sl (I'.map (nmOf t)))) (.own (sl (O'.map (nmOf t)))) (.val (sl (kP k))) (.own (sl (kN k))) (.val (.lst (idl n))) (.val (.lst (G.map encL))) s8 (.val (sl (kI k ++ Hd))) (.own (.dK (encS t))) (.own (.lst (G.map fun l => encG (ren (nmOf t) (tri l))))) (.own (.lst (pp.map fun p => encP (nmOf t p.1, nmOf t p.2)))) .no .no) (fun N hN => ?_) ?_
  · unfold sSet eLC iR3
    refine ⟨rfl, _, rfl, ⟨by omega, by omega, by show (0 : Int) ≤ (((kP k).map D.str).length : Nat); omega, by show ((((kP k).map D.str).length : Nat) : Int) ≤ 100000; simp; omega, by omega, by omega⟩, ?_⟩
    have em : manyS 0 ((((kP k).map D.str).length : Nat) : Int) 2 = pp.length := by
      rw [List.length_map, ← hpl]; exact many_two _
    rw [em]
    refine lc_in (Φ := fun r ρ' => N (ρ'.set 12 r)) (List.range pp.length) (fun (i : Nat) => D.int (0 + (i : Int) * 2)) (fun i => (fun p : Str × Str => encP (nmOf t p.1, nmOf t p.2)) (pp.getD i ("", ""))) (mrow d k (.own (sl (I'.map (nmOf t)))) (.own (sl (O'.map (nmOf t)))) (.val (sl (kP k))) (.own (sl (kN k))) (.val (.lst (idl n))) (.val (.lst (G.map encL))) s8 (.val (sl (kI k ++ Hd))) (.own (.dK (encS t))) (.own (.lst (G.map fun l => encG (ren (nmOf t) (tri l))))) .no .no .no) (by rw [List.length_range]; omega) (fun j i ys Nx e h1 h2 => ?_) ?_
    · have hi := List.mem_range.mp (List.mem_of_getElem? e)
      have hp : pp[i]? = some pp[i] := List.getElem?_eq_getElem hi
      have hgd : pp.getD i ("", "") = pp[i] := by simp [List.getD, hp]
      rw [hgd] at h2
      obtain ⟨q1, q2⟩ := pairs_at (by rw [← hpp]; exact hp)
      have hm := KO.pm pp[i] (by rw [← hpp]; exact List.getElem_mem hi)
      refine ⟨rfl, rfl, .str pp[i].1, ?_, _, getS (kyH _ (oH _ (List.mem_append_left _ hm.1))), rfl, rfl, rfl, .str pp[i].2, ?_, _, getS (kyI _ hm.2), by show 2 ≤ 1000; decide, h1, h2⟩
      · rw [show (0 + (i : Int) * 2) = ((2 * i : Nat) : Int) by omega]
        exact atI_nat (by rw [List.getElem?_map, q1]; rfl)
      · rw [show (0 + (i : Int) * 2 + 1) = ((2 * i + 1 : Nat) : Int) by omega]
        exact atI_nat (by rw [List.getElem?_map, q2]; rfl)
    · rw [map_getD pp ("", "") (fun p : Str × Str => encP (nmOf t p.1, nmOf t p.2))]
      exact hN _ rfl
  rintro _ rfl
  refine seq_cut (fun ρ => ρ = mrow d k (.own (sl (I'.map (nmOf t)))) (.own (sl (O'.map (nmOf t)))) (.val (sl (kP k))) (.own (sl (kN k))) (.val (.lst (idl n))) (.val (.lst (G.map encL))) s8 (.val (sl (kI k ++ Hd))) (.own (.dK (encS (t ++ [(("-" : Str), ("" : Str))])))) (.own (.lst (G.map fun l => encG (ren (nmOf t) (tri l))))) (.own (.lst (pp.map fun p => encP (nmOf t p.1, nmOf t p.2)))) .no .no) (fun N hN => ⟨rfl, _, setS (by rw [tk]; exact nodash) tlen, hN _ rfl⟩) ?_
  rintro _ rfl
  refine seq_cut (fun ρ => ρ = mrow d k (.own (sl (I'.map (nmOf t)))) (.own (sl (O'.map (nmOf t)))) (.val (sl (kP k))) (.own (sl (kN k))) (.val (.lst (idl n))) (.val (.lst (G.map encL))) s8 (.val (sl (kI k ++ Hd))) (.own (.dK (encS (t ++ [(("-" : Str), ("" : Str))])))) (.own (.lst (G.map fun l => encG (ren (nmOf t) (tri l))))) (.own (.lst (pp.map fun p => encP (nmOf t p.1, nmOf t p.2)))) (.own (.dK [])) .no) (fun N hN => hN _ rfl) ?_
  rintro _ rfl
  have hln := KO.ln
  have hnl := pairs_len (kN k) KO.ne
  have tk2 : (t ++ [(("-" : Str), ("" : Str))]).map (·.1) = (kI k ++ Hd) ++ [("-" : Str)] := by rw [List.map_append, tk]; rfl
  refine seq_cut (fun ρ => ∃ (kvs : List (Key × D)) (s14 : Sl), ρ = mrow d k (.own (sl (I'.map (nmOf t)))) (.own (sl (O'.map (nmOf t)))) (.val (sl (kP k))) (.val (sl (kN k))) (.val (.lst (idl n))) (.val (.lst (G.map encL))) s8 (.val (sl (kI k ++ Hd))) (.own (.dK (encS (t ++ [(("-" : Str), ("" : Str))])))) (.own (.lst (G.map fun l => encG (ren (nmOf t) (tri l))))) (.own (.lst (pp.map fun p => encP (nmOf t p.1, nmOf t p.2)))) (.own (.dK kvs)) s14) (fun N hN => ?_) ?_
  · have em : manyS 0 ((((kN k).map D.str).length : Nat) : Int) 2 = (pairsOf (kN k)).length := by
      rw [List.length_map, ← hnl]; exact many_two _
    refine for_at (intsS 0 2 (pairsOf (kN k)).length) (mrow d k (.own (sl (I'.map (nmOf t)))) (.own (sl (O'.map (nmOf t)))) (.val (sl (kP k))) (.val (sl (kN k))) (.val (.lst (idl n))) (.val (.lst (G.map encL))) s8 (.val (sl (kI k ++ Hd))) (.own (.dK (encS (t ++ [(("-" : Str), ("" : Str))])))) (.own (.lst (G.map fun l => encG (ren (nmOf t) (tri l))))) (.own (.lst (pp.map fun p => encP (nmOf t p.1, nmOf t p.2)))) (.own (.dK [])) .no) (fun Ψ h => ⟨rfl, _, rfl, ⟨by omega, by omega, by show (0 : Int) ≤ (((kN k).map D.str).length : Nat); omega, by show ((((kN k).map D.str).length : Nat) : Int) ≤ 100000; simp; omega, by omega, by omega⟩, by rw [em]; exact h⟩)
      (fun j ρ => ∃ (kvs : List (Key × D)) (s14 : Sl), kvs.length ≤ j ∧ ρ = mrow d k (.own (sl (I'.map (nmOf t)))) (.own (sl (O'.map (nmOf t)))) (.val (sl (kP k))) (.val (sl (kN k))) (.val (.lst (idl n))) (.val (.lst (G.map encL))) s8 (.val (sl (kI k ++ Hd))) (.own (.dK (encS (t ++ [(("-" : Str), ("" : Str))])))) (.own (.lst (G.map fun l => encG (ren (nmOf t) (tri l))))) (.own (.lst (pp.map fun p => encP (nmOf t p.1, nmOf t p.2)))) (.own (.dK kvs)) s14) ⟨[], .no, by simp, rfl⟩ ?_ ?_
    · rintro j x ρ hx ⟨kvs, s14, hkl, rfl⟩
      obtain ⟨j', hj', rfl⟩ := map_item hx
      obtain ⟨hj, e⟩ := List.getElem?_eq_some_iff.mp hj'
      rw [List.length_range] at hj
      rw [List.getElem_range] at e
      subst e
      have hp : (pairsOf (kN k))[j]? = some (pairsOf (kN k))[j] := List.getElem?_eq_getElem hj
      obtain ⟨q1, q2⟩ := pairs_at hp
      obtain ⟨m1, m2, m3⟩ := KO.nm _ (List.getElem_mem hj)
      obtain ⟨v, hv⟩ := Option.isSome_iff_exists.mp m2
      have a1 : atI ((kN k).map D.str) (0 + (j : Int) * 2 + 1) = some (.str (pairsOf (kN k))[j].2) := by
        rw [show (0 + (j : Int) * 2 + 1) = ((2 * j + 1 : Nat) : Int) by omega]
        exact atI_nat (by rw [List.getElem?_map, q2]; rfl)
      have a0 : atI ((kN k).map D.str) (0 + (j : Int) * 2) = some (.str (pairsOf (kN k))[j].1) := by
        rw [show (0 + (j : Int) * 2) = ((2 * j : Nat) : Int) by omega]
        exact atI_nat (by rw [List.getElem?_map, q1]; rfl)
      have ky : (pairsOf (kN k))[j].1 ∈ (t ++ [(("-" : Str), ("" : Str))]).map (·.1) := by
        rw [tk2]
        rcases m1 with q | q
        · refine List.mem_append_left _ ?_
          rcases List.mem_append.mp q with z | z
          · exact List.mem_append_left _ z
          · exact List.mem_append_right _ (by rw [eH]; exact List.mem_append_right _ z)
        · rw [q]; exact List.mem_append_right _ (by simp)
      have jl : j < 100 := by omega
      refine ⟨rfl, rfl, _, a1, v, hv, m3, rfl, rfl, rfl, _, a0, _, getS ky, .dK (putD kvs (Sum.inr (nmOf (t ++ [(("-" : Str), ("" : Str))]) (pairsOf (kN k))[j].1)) (.int v)), ?_, _, .val (.int (0 + (j : Int) * 2)), ?_, rfl⟩
      · simp only [setD, if_pos (show kvs.length < 100000 by omega)]
        rfl
      · exact Nat.le_trans (put_len _ _ _) (by omega)
    · rintro ρ ⟨kvs, s14, _, rfl⟩
      exact hN _ ⟨kvs, s14, rfl⟩
  rintro ρ ⟨kvs, s14, rfl⟩
  refine ⟨by show 3 ≤ 1000; decide, d, c, _, rfl, rfl, by show (pp.map _).length ≤ 1000; simp; omega, fun ys hp => ⟨.inl rfl, by show 2 ≤ 1000; decide, by show 2 ≤ 1000; decide, ?_⟩⟩
  obtain ⟨al, pA, e⟩ := perm_pairs (xs := pp.map fun p => (nmOf t p.1, nmOf t p.2)) (ys := ys) (by rw [List.map_map]; exact hp)
  subst e
  have fin := hΦ ⟨I'.map (nmOf t), G.map fun l => ren (nmOf t) (tri l), O'.map (nmOf t)⟩ al kvs ?_
  · unfold encRow encC at fin
    dsimp only at fin
    rw [List.map_map (g := encG)] at fin
    exact fin
  have iO : ∀ o ∈ O', o ∈ kI k ++ Hd := fun o ho => List.mem_append_right _ (oH o (pO.mem_iff.mp ho))
  have iI : ∀ o ∈ I', o ∈ kI k ++ Hd := fun o ho => List.mem_append_left _ (pI.mem_iff.mp ho)
  have exl : ex.length ≤ 1 := by rcases hex with rfl | ⟨_, rfl⟩ <;> simp
  have eN : (G.map fun l => ren (nmOf t) (tri l)).map (·.1) = Hd.map (nmOf t) := by
    rw [hH, List.map_map, List.map_map]; rfl
  have pm : ∀ p ∈ pp, p.1 ∈ kO k ∧ p.2 ∈ kI k := fun p hp => KO.pm p (by rw [← hpp]; exact hp)
  have pn1 : (pp.map (·.1)).Nodup := by rw [hpp]; exact KO.p1
  have pn2 : (pp.map (·.2)).Nodup := by rw [hpp]; exact KO.p2
  have ond : (kO k ++ ex).Nodup := by
    refine List.nodup_append.mpr ⟨KO.ond, ?_, fun a ha b hb e => ?_⟩
    · rcases hex with rfl | ⟨_, rfl⟩ <;> simp
    · rcases hex with rfl | ⟨h1, rfl⟩
      · cases hb
      · rw [List.mem_singleton.mp hb] at e
        exact (idn_facts (n - 1) (by omega)).1 (by rw [← e]; exact (KO.one a (List.mem_append_right _ (KO.oh a ha))).1)
  refine ⟨⟨?_, ?_, ?_, ?_, ?_, ?_, ?_, ?_⟩, ?_, ?_, ?_, ?_, ?_⟩
  · show (I'.map (nmOf t) ++ (G.map fun l => ren (nmOf t) (tri l)).map (·.1)).Nodup
    rw [eN, ← List.map_append]
    have pall : (I' ++ Hd).Perm (kI k ++ Hd) := pI.append_right Hd
    exact nodup_on (pall.nodup_iff.mpr ownd) fun x hx y hy e => ninj x (pall.mem_iff.mp hx) y (pall.mem_iff.mp hy) e
  · intro x hx
    have hx : x ∈ I'.map (nmOf t) ++ (G.map fun l => ren (nmOf t) (tri l)).map (·.1) := hx
    rw [eN, ← List.map_append] at hx
    obtain ⟨o, ho, rfl⟩ := List.mem_map.mp hx
    refine xgn _ (nmem o ?_)
    rcases List.mem_append.mp ho with q | q
    · exact iI o q
    · exact List.mem_append_right _ q
  · have g1 : GatesOk I' (G.map tri) := GatesOk.more (fun x hx => pI.mem_iff.mpr hx) gk
    have := g1.ren (nmOf t)
    rw [List.map_map] at this
    exact this
  · intro o ho
    obtain ⟨q, hq, rfl⟩ := List.mem_map.mp ho
    refine List.mem_append_right _ ?_
    rw [eN]
    exact List.mem_map.mpr ⟨q, oH q (pO.mem_iff.mp hq), rfl⟩
  · exact nodup_on (pO.nodup_iff.mpr ond) fun x hx y hy e => ninj x (iO x hx) y (iO y hy) e
  · show (I'.map (nmOf t)).length ≤ 6
    rw [List.length_map, pI.length_eq]; omega
  · show (G.map _).length ≤ 24
    rw [List.length_map]; omega
  · show (O'.map (nmOf t)).length ≤ 6
    rw [List.length_map, pO.length_eq, List.length_append]; omega
  · intro o ho
    obtain ⟨q, hq, rfl⟩ := List.mem_map.mp ho
    show _ ∈ (G.map fun l => ren (nmOf t) (tri l)).map (·.1)
    rw [eN]
    exact List.mem_map.mpr ⟨q, oH q (pO.mem_iff.mp hq), rfl⟩
  · refine (pA.map (·.1)).nodup_iff.mpr ?_
    rw [List.map_map]
    have : (pp.map (·.1)).map (nmOf t) = pp.map ((·.1) ∘ fun p : Str × Str => (nmOf t p.1, nmOf t p.2)) := by rw [List.map_map]; rfl
    rw [← this]
    refine nodup_on pn1 fun x hx y hy e => ninj x ?_ y ?_ e
    · obtain ⟨p, hp, rfl⟩ := List.mem_map.mp hx
      exact List.mem_append_right _ (oH _ (List.mem_append_left _ (pm p hp).1))
    · obtain ⟨p, hp, rfl⟩ := List.mem_map.mp hy
      exact List.mem_append_right _ (oH _ (List.mem_append_left _ (pm p hp).1))
  · refine (pA.map (·.2)).nodup_iff.mpr ?_
    rw [List.map_map]
    have : (pp.map (·.2)).map (nmOf t) = pp.map ((·.2) ∘ fun p : Str × Str => (nmOf t p.1, nmOf t p.2)) := by rw [List.map_map]; rfl
    rw [← this]
    refine nodup_on pn2 fun x hx y hy e => ninj x ?_ y ?_ e
    · obtain ⟨p, hp, rfl⟩ := List.mem_map.mp hx
      exact List.mem_append_left _ (pm p hp).2
    · obtain ⟨p, hp, rfl⟩ := List.mem_map.mp hy
      exact List.mem_append_left _ (pm p hp).2
  · intro p hp
    obtain ⟨q, hq, rfl⟩ := List.mem_map.mp (pA.mem_iff.mp hp)
    exact ⟨List.mem_map.mpr ⟨q.1, pO.mem_iff.mpr (List.mem_append_left _ (pm q hq).1), rfl⟩, List.mem_map.mpr ⟨q.2, pI.mem_iff.mpr (pm q hq).2, rfl⟩⟩
  · rw [pA.length_eq, List.length_map]; omega
end
end Lw
namespace Lw
open PySem L2
noncomputable def spLaw (K : PySem.W.Frag) : Sp := fun vs H Q _ => ∃ (a : Addr) (ns : List Int), vs = [.ref a] ∧ SqL K H a (ns.map V.int) ∧ ns.length ≤ 63 ∧ ∀ H', Q (.bl true) H'
noncomputable abbrev CA := Cel × List (Str × Str)
noncomputable def encCA (x : CA) : D := encRow x.1 x.2
theorem enum_item {rs : List CA} {i : Nat} {x : D} (h : (enumD (rs.map encCA))[i]? = some x) : ∃ r, rs[i]? = some r ∧ x = .tup [.int i, encCA r] := by
  obtain ⟨hi, _⟩ := List.getElem?_eq_some_iff.mp h
  rw [enumD_len, List.length_map] at hi
  have := enumD_get (xs := rs.map encCA) (i := i) (d := encCA rs[i]) (by rw [List.getElem?_map, List.getElem?_eq_getElem hi]; rfl)
  rw [this] at h
  cases h
  exact ⟨_, List.getElem?_eq_getElem hi, rfl⟩
theorem nofree {w : Str} {n : Nat} (h : ArOk w n) : nb true (inV (.str w) [V.str "one", V.str "nil"]) = !decide (n = 0) := by
  have e := inV_strs w ["one", "nil"]
  have e' : inV (.str w) [V.str "one", V.str "nil"] = decide (w ∈ (["one", "nil"] : List Str)) := e
  rw [e']
  show (!decide (w ∈ (["one", "nil"] : List Str))) = !decide (n = 0)
  congr 1
  rcases h.ok with ⟨q, z⟩ | ⟨rfl, rfl⟩ | ⟨rfl, rfl⟩ | ⟨rfl, rfl⟩ | ⟨rfl, rfl⟩
  · rw [decide_eq_false (show ¬ n = 0 by omega)]
    unfold two3 at q
    simp only [List.mem_cons, List.not_mem_nil, or_false] at q
    rcases q with rfl | rfl | rfl <;> decide +kernel
  · decide +kernel
  · decide +kernel
  · decide +kernel
  · decide +kernel
theorem not_if {a b : Int} (h : a = b) {p q : Prop} (hq : q) : if (!decide (a = b)) = true then p else q := by
  rw [decide_eq_true h]; exact hq
theorem ne_if {a b : Int} (h : a = b) {p q : Prop} (hq : q) : if (nb true (decide (a = b))) = true then p else q := by
  rw [decide_eq_true h]; exact hq
noncomputable abbrev lw (d : Addr) (far : D) (rs : List CA) (s4 s5 s6 s7 s8 s9 : Sl) : List Sl := [.no, .val (.raw (.ref d)), .own far, .val (.lst (rs.map encCA)), s4, s5, s6, s7, s8, s9]
theorem nd9_gate : (["gate"] : List Str).Nodup := by decide +kernel
section
variable {P : Program} {w : World} {K : PySem.W.Frag} {mg : Str → Option Value} {base : Heap}
theorem sc_law : FnScope ["script", "deck", "far", "rows", "at", "row", "most", "due", "gates", "width"] ["script"] (defScope s_law) := ⟨rfl, rfl, rfl, by decide +kernel, rfl, by decide +kernel, by decide +kernel⟩
set_option maxHeartbeats 4000000 in
theorem ok_law {f fD fT fR fM fK fL fW fA fG : Addr} {fd fdD fdT fdR fdM fdK fdL fdW fdA fdG : FuncData} (F : Fun K "law" "law" s_law f fd) (T : Txt mg) (g_law_deck : Gd K mg "_law_deck" sDeck ["script"] fD fdD) (g_law_take : Gd K mg "_law_take" sTake ["deck", "many"] fT fdT)
    (g_law_row : Gd K mg "_law_row" s_law_row ["deck", "inputs", "gates", "most"] fR fdR) (g_law_made : Gd K mg "_law_made" s_law_made ["deck", "kit"] fM fdM) (g_law_kit : Gd K mg "_law_kit" s_law_kit ["deck"] fK fdK) (g_law_latest : Gd K mg "_law_latest" s_law_latest ["row", "widths"] fL fdL) (g_law_whole : Gd K mg "_law_whole" s_law_whole ["found", "due"] fW fdW) (g_latest : Gd K mg "latest" s_latest ["row", "width"] fA fdA) (g_gate_count : Gd K mg "gate_count" s_gate_count ["row", "width"] fG fdG)
    (O_law_deck : FnOk P w K mg base CX0 1 fD fdD ["script"] (spDeck K)) (O_law_take : FnOk P w K mg base CX0 1 fT fdT ["deck", "many"] (spD K R_take)) (O_law_row : FnOk P w K mg base CX0 4 fR fdR ["deck", "inputs", "gates", "most"] (spD K R_row)) (O_law_made : FnOk P w K mg base CX0 4 fM fdM ["deck", "kit"] (spD K R_made)) (O_law_kit : FnOk P w K mg base CX0 2 fK fdK ["deck"] (spD K R_kit))
    (O_law_latest : FnOk P w K mg base CX0 1 fL fdL ["row", "widths"] (spD K R_ll)) (O_law_whole : FnOk P w K mg base CX0 1 fW fdW ["found", "due"] (spD K R_whole)) (O_latest : FnOk P w K mg base CX0 4 fA fdA ["row", "width"] (spD K R_latest)) (O_gate_count : FnOk P w K mg base CX0 1 fG fdG ["row", "width"] (spD K R_gc)) :
    FnOk P w K mg base CX0 5 f fd ["script"] (spLaw K) := by
  refine F.ok sc_law (fun vs H Q E h => ?_) (fun cdv A outer s H vs Q E hr h => ?_)
  · obtain ⟨a, ns, rfl, _⟩ := h
    rfl
  · obtain ⟨a, ns, rfl, hS, hlen, hQ⟩ := h
    have hu := hu_of hr
    have hr1 : Room 1 _ := hr.mono (by decide)
    refine ex_next _ (ps_set (i := 1) sc_law.nd rfl (Or.inl rfl) (pe_call O_law_deck hr1 rfl g_law_deck.m g_law_deck.k g_law_deck.b .nil pass0 (pa_c (pv 0) pa_nil))) ?_
    refine ⟨_, rfl, a, ns, rfl, hS, hlen, fun d c H1 D1 _ _ _ => ?_⟩
    refine ⟨_, (ss_cons (s_set (i := 2) sc_law.nd rfl (Or.inl rfl) (pd_lst (pa_k (pd_call O_law_take (hr.mono (by decide)) (by rfl) g_law_take.m g_law_take.k g_law_take.b (pa_k (pd_v 1 (pv 1)) (pa_k pd_int pa_n))) (pa_k (pd_call O_law_take (hr.mono (by decide)) (by rfl) g_law_take.m g_law_take.k g_law_take.b (pa_k (pd_v 1 (pv 1)) (pa_k pd_int pa_n))) (pa_k (pd_call O_law_take (hr.mono (by decide)) (by rfl) g_law_take.m g_law_take.k g_law_take.b (pa_k (pd_v 1 (pv 1)) (pa_k pd_int pa_n))) pa_n)))))
      (ss_cons (s_set (i := 3) sc_law.nd rfl (Or.inl rfl) (pd_lst (pa_k (pd_call O_law_row (hr.mono (by decide)) (by rfl) g_law_row.m g_law_row.k g_law_row.b (pa_k (pd_v 1 (pv 1)) (pa_k pd_int (pa_k pd_int (pa_k pd_int pa_n))))) (pa_k (pd_ix hu (pd_call O_law_made (hr.mono (by decide)) (by rfl) g_law_made.m g_law_made.k g_law_made.b (pa_k (pd_v 1 (pv 1)) (pa_k (pd_call O_law_kit (hr.mono (by decide)) (by rfl) g_law_kit.m g_law_kit.k g_law_kit.b (pa_k (pd_v 1 (pv 1)) pa_n)) pa_n))) pd_int) (pa_k (pd_call O_law_row (hr.mono (by decide)) (by rfl) g_law_row.m g_law_row.k g_law_row.b (pa_k (pd_v 1 (pv 1)) (pa_k pd_int (pa_k pd_int (pa_k pd_int pa_n))))) pa_n)))))
      (ss_cons (s_for (m := 99) PassesOwn.never rfl (i_enum (by rfl) T.enumerate (pd_v 3 (pv 3))) (g_t (n := 2) rfl (gs_c (g_n (i := 4) sc_law.nd rfl (Or.inl rfl)) (gs_c (g_n (i := 5) sc_law.nd rfl (Or.inl rfl)) gs_n))) (ss_cons (s_set (i := 6) sc_law.nd rfl (Or.inl rfl) (pd_ix hu (pd_lst (pa_k pd_int (pa_k pd_int (pa_k pd_int pa_n)))) (pd_v 4 (pv 4))))
      (ss_cons (s_set (i := 7) sc_law.nd rfl (Or.inl rfl) (pd_call O_law_latest (hr.mono (by decide)) (by rfl) g_law_latest.m g_law_latest.k g_law_latest.b (pa_k (pd_v 5 (pv 5)) (pa_k (pd_v 6 (pv 6)) pa_n))))
      (ss_cons (s_set (i := 8) sc_law.nd rfl (Or.inl rfl) (pd_callB call_lenA cd_len (by rfl) T.len PySem.boot_len (pa_k (pd_lc ["gate"] [] [] rfl (i_v (pd_ix hu (pd_ixS hu (pv 5) pd_int) pd_int)) rfl rfl (fun _ _ _ _ _ => (g_n (i := 0) nd9_gate rfl (Or.inl rfl))) (fun _ _ _ _ _ => (ifs_1 (pdt_cmp (op_notInA hu) (od_in true) (pd_ixS hu (pv 0) pd_int) (pd_tup (pa_k pd_str (pa_k pd_str pa_n)))))) (fun _ _ _ _ _ => (pd_v 0 (pv 0)))) pa_n)))
      (ss_cons (s_for (m := 99) PassesOwn.never rfl (i_v (pd_lst (pa_k pd_int (pa_k (pd_op op_plus od_add pd_int (pd_call O_law_take (hr.mono (by decide)) (by rfl) g_law_take.m g_law_take.k g_law_take.b (pa_k (pd_v 1 (pv 1)) (pa_k pd_int pa_n)))) (pa_k (pd_op op_plus od_add pd_int (pd_call O_law_take (hr.mono (by decide)) (by rfl) g_law_take.m g_law_take.k g_law_take.b (pa_k (pd_v 1 (pv 1)) (pa_k (pd_v 6 (pv 6)) pa_n)))) pa_n))))) (g_n (i := 9) sc_law.nd rfl (Or.inl rfl)) (ss_cons (s_if (pdt_w (pdw_or (pdt_not (pdt_v (pd_call O_law_whole (hr.mono (by decide)) (by rfl) g_law_whole.m g_law_whole.k g_law_whole.b (pa_k (pd_call O_latest (hr.mono (by decide)) (by rfl) g_latest.m g_latest.k g_latest.b (pa_k (pd_v 5 (pv 5)) (pa_k (pd_v 9 (pv 9)) pa_n))) (pa_k (pd_ixS hu (pv 7) (pd_opS op_sub od_sub (pv 9) pd_int)) pa_n))))) (pdw_or1 (pdt_cmp (op_neA hr.units) (od_eq true) (pd_call O_latest (hr.mono (by decide)) (by rfl) g_latest.m g_latest.k g_latest.b (pa_k (pd_v 5 (pv 5)) (pa_k (pd_v 9 (pv 9)) pa_n))) (pd_ixS hu (pv 7) (pd_opS op_sub od_sub (pv 9) pd_int)))))) (ss_one (s_ret pd_bl)) ss_nil)
      (ss_one (s_if (pdt_not (pdt_v (pd_call O_law_whole (hr.mono (by decide)) (by rfl) g_law_whole.m g_law_whole.k g_law_whole.b (pa_k (pd_call O_gate_count (hr.mono (by decide)) (by rfl) g_gate_count.m g_gate_count.k g_gate_count.b (pa_k (pd_v 5 (pv 5)) (pa_k (pd_v 9 (pv 9)) pa_n))) (pa_k (pd_opS op_times od_mul (pv 9) (pd_v 8 (pv 8))) pa_n))))) (ss_one (s_ret pd_bl)) ss_nil))))
      (ss_cons (s_set (i := 9) sc_law.nd rfl (Or.inl rfl) (pd_op op_plus od_add pd_int (pd_call O_law_take (hr.mono (by decide)) (by rfl) g_law_take.m g_law_take.k g_law_take.b (pa_k (pd_v 1 (pv 1)) (pa_k pd_int pa_n)))))
      (ss_one (s_if (pdt_not (pdt_v (pd_call O_law_whole (hr.mono (by decide)) (by rfl) g_law_whole.m g_law_whole.k g_law_whole.b (pa_k (pd_call O_gate_count (hr.mono (by decide)) (by rfl) g_gate_count.m g_gate_count.k g_gate_count.b (pa_k (pd_v 5 (pv 5)) (pa_k (pd_v 9 (pv 9)) pa_n))) (pa_k (pd_opS op_times od_mul (pv 9) (pd_v 8 (pv 8))) pa_n))))) (ss_one (s_ret pd_bl)) ss_nil))))))))
      (ss_cons (s_if (pdt_cmp (op_eqA hr.units) (od_eq false) (pd_ixS hu (pv 2) pd_int) pd_int) (ss_cons (s_set (i := 5) sc_law.nd rfl (Or.inl rfl) (pd_ixS hu (pv 3) (pd_ixS hu (pv 2) pd_int)))
      (ss_one (s_ret (pd_call O_law_whole (hr.mono (by decide)) (by rfl) g_law_whole.m g_law_whole.k g_law_whole.b (pa_k (pd_call O_latest (hr.mono (by decide)) (by rfl) g_latest.m g_latest.k g_latest.b (pa_k (pd_v 5 (pv 5)) (pa_k (pd_op op_sub od_sub pd_int (pd_ixS hu (pv 2) pd_int)) pa_n))) (pa_k (pd_ix hu (pd_call O_law_latest (hr.mono (by decide)) (by rfl) g_law_latest.m g_law_latest.k g_law_latest.b (pa_k (pd_v 5 (pv 5)) (pa_k (pd_op op_sub od_sub pd_int (pd_ixS hu (pv 2) pd_int)) pa_n))) (pd_neg pd_int)) pa_n)))))) ss_nil)
      (ss_one (s_ret pd_bl)))))), ⟨[d, c], fun _ => False, H1⟩, [.no, .val (.raw (.ref d)), .no, .no, .no, .no, .no, .no, .no, .no], [], { nx := fun _ => False, rt := fun r => r = .val (.bl true) }, rfl, ?_, ?_, ?_, ?_⟩
    · refine ⟨fun b o e _ => e, .inr ⟨d, c, rfl, D1⟩, List.nodup_nil, fun b hb => absurd hb List.not_mem_nil, fun p hp => ?_⟩
      have hp : p ∈ [((Sl.no : Sl), some (V.ref a)), (.val (.raw (.ref d)), some (V.ref d)), (.no, none), (.no, none), (.no, none), (.no, none), (.no, none), (.no, none), (.no, none), (.no, none)] := hp
      simp only [List.mem_cons, List.not_mem_nil, or_false] at hp
      rcases hp with rfl | rfl | rfl | rfl | rfl | rfl | rfl | rfl | rfl | rfl <;> first | trivial | exact ⟨_, rfl, .raw _⟩
    · refine ⟨d, c, 8, rfl, rfl, by decide, by decide, fun a0 h0 => ⟨.inl rfl, d, c, 2, rfl, rfl, by decide, by decide, fun a1 h1 => ⟨.inl rfl, d, c, 9000, rfl, rfl, by decide, by decide, fun a2 h2 => ⟨.inl rfl, by show 3 ≤ 1000; decide, ?_⟩⟩⟩⟩
      refine ⟨d, c, 6, 10, 4, rfl, rfl, by decide, by decide, by decide, fun C1 al1 g1 => ⟨.inl rfl, d, c, rfl, rfl, fun kt hkt => ⟨.inl rfl, d, c, kt, rfl, rfl, hkt, fun C2 al2 kvs g2 => ⟨.inl rfl, _, rfl, d, c, 6, 24, 4, rfl, rfl, by decide, by decide, by decide, fun C3 al3 g3 => ⟨.inl rfl, by show 3 ≤ 1000; decide, ?_⟩⟩⟩⟩⟩
      dsimp only
      obtain ⟨far, hfar⟩ : ∃ far : D, far = .lst [.int (a0 : Int), .int (a1 : Int), .int (a2 : Int)] := ⟨_, rfl⟩
      obtain ⟨rs, hrs⟩ : ∃ rs : List CA, rs = [(C1, al1), (C2, al2), (C3, al3)] := ⟨_, rfl⟩
      have good : ∀ x ∈ rs, GoodRow x.1 x.2 := fun x hx => by
        rw [hrs] at hx
        simp only [List.mem_cons, List.not_mem_nil, or_false] at hx
        rcases hx with rfl | rfl | rfl
        · exact g1
        · exact g2
        · exact g3
      have rl : rs.length = 3 := by rw [hrs]; rfl
      refine seq_cut (fun ρ => ∃ s4 s5 s6 s7 s8 s9, ρ = lw d far rs s4 s5 s6 s7 s8 s9) (fun N hN => ?_) ?_
      · refine for_at (enumD (rs.map encCA)) (lw d far rs .no .no .no .no .no .no) (fun Ψ h => by rw [hfar, hrs] at h; exact h) (fun i ρ => ∃ s4 s5 s6 s7 s8 s9, ρ = lw d far rs s4 s5 s6 s7 s8 s9) ⟨.no, .no, .no, .no, .no, .no, rfl⟩ ?_ ?_
        · rintro i x ρ hx ⟨s4, s5, s6, s7, s8, s9, rfl⟩
          obtain ⟨⟨C, al⟩, hr', rfl⟩ := enum_item hx
          have hi : i < 3 := by have := (List.getElem?_eq_some_iff.mp hr').1; omega
          have gr : GoodRow C al := good _ (List.mem_of_getElem? hr')
          obtain ⟨m, hm1, hm2, hat⟩ : ∃ m : Nat, 40 ≤ m ∧ m ≤ 400 ∧ atI [D.int 40, .int 400, .int 120] (i : Int) = some (.int (m : Int)) := by
            have : i = 0 ∨ i = 1 ∨ i = 2 := by omega
            rcases this with rfl | rfl | rfl
            · exact ⟨40, by omega, by omega, atI_nat rfl⟩
            · exact ⟨400, by omega, by omega, atI_nat rfl⟩
            · exact ⟨120, by omega, by omega, atI_nat rfl⟩
          refine ⟨rfl, rfl, by show 3 ≤ 1000; decide, _, hat, C, al, m, rfl, gr, by omega, .inl rfl, ?_⟩
          dsimp only
          refine seq_cut (fun ρ => ρ = lw d far rs (.val (.int i)) (.val (encRow C al)) (.val (.int m)) (.val (.lst ((List.range m).map fun i => D.int (MxC C al i)))) (.val (.int (realG C : Nat))) s9) (fun N hN => ?_) ?_
          · unfold sSet dC aC
            refine lc_at C.gates encG encG (fun g => !g.2.2.isEmpty) (lw d far rs (.val (.int i)) (.val (encRow C al)) (.val (.int m)) (.val (.lst ((List.range m).map fun i => D.int (MxC C al i)))) s8 s9) (fun Ψ h => ⟨rfl, _, rfl, _, rfl, h⟩) (by have := gr.good.lg; omega) (fun j g ys Nx e h1 h2 h3 => ⟨rfl, _, rfl, by show 2 ≤ 1000; decide, _, _, rfl, rfl, ?_⟩) ?_
            · have har := (gates_at gr.good.gt e).1
              show if (nb true (inV (V.str g.2.1) [V.str "one", V.str "nil"])) = true then _ else _
              rw [nofree har]
              have eq : (!decide (g.2.2.length = 0)) = !g.2.2.isEmpty := by cases g.2.2 <;> rfl
              rw [eq]
              cases q : g.2.2.isEmpty with
              | true => exact h3 (by rw [q]; rfl)
              | false => exact ⟨h1, h2 (by rw [q]; rfl)⟩
            · refine ⟨rfl, _, rfl, hN _ ?_⟩
              have : (((C.gates.filter fun g => !g.2.2.isEmpty).map encG).length : Nat) = realG C := by rw [List.length_map]; rfl
              show lw d far rs _ _ _ _ (.val (.int ((((C.gates.filter fun g => !g.2.2.isEmpty).map encG).length : Nat) : Int))) _ = _
              rw [this]
          rintro _ rfl
          refine seq_cut (fun ρ => ∃ s9, ρ = lw d far rs (.val (.int i)) (.val (encRow C al)) (.val (.int m)) (.val (.lst ((List.range m).map fun i => D.int (MxC C al i)))) (.val (.int (realG C : Nat))) s9) (fun N hN => ?_) ?_
          · unfold sFor iV
            refine ⟨d, c, 40, rfl, rfl, by decide, by decide, fun r1 q1 => ⟨.inl rfl, d, c, m, rfl, rfl, by omega, by omega, fun r2 q2 => ⟨.inl rfl, by show 3 ≤ 1000; decide, ?_⟩⟩⟩
            refine ⟨fun j ρ => ∃ s9, ρ = lw d far rs (.val (.int i)) (.val (encRow C al)) (.val (.int m)) (.val (.lst ((List.range m).map fun i => D.int (MxC C al i)))) (.val (.int (realG C : Nat))) s9, ⟨_, rfl⟩, ?_, ?_⟩
            · rintro j x ρ hx ⟨s9, rfl⟩
              obtain ⟨v, hv, rfl⟩ : ∃ v : Nat, v < m ∧ x = .int (1 + (v : Int)) := by
                have hx : [D.int 1, .int (1 + (r1 : Int)), .int (1 + (r2 : Int))][j]? = some x := hx
                match j, hx with
                | 0, hx => simp at hx; exact ⟨0, by omega, hx.symm⟩
                | 1, hx => simp at hx; exact ⟨r1, by omega, hx.symm⟩
                | 2, hx => simp at hx; exact ⟨r2, by omega, hx.symm⟩
                | j + 3, hx => simp at hx
              have hd : atI ((List.range m).map fun i => D.int (MxC C al i)) (1 + (v : Int) - 1) = some (.int (MxC C al v)) := by
                rw [show (1 + (v : Int) - 1) = ((v : Nat) : Int) by omega]
                exact atI_nat (by rw [List.getElem?_map, List.getElem?_range hv]; rfl)
              have ev : (1 + (v : Int)) = ((v + 1 : Nat) : Int) := by omega
              rw [ev] at hd ⊢
              refine ⟨C, al, v + 1, rfl, gr, by omega, .inl rfl, rfl, rfl, _, hd, _, _, rfl, .inl rfl, rfl, _, rfl, ?_⟩
              refine not_if (a := lateAt C al (v + 1)) (b := MxC C al v) rfl ?_
              refine ⟨C, al, v + 1, rfl, gr, by omega, .inl rfl, rfl, rfl, _, hd, ?_⟩
              refine ne_if (a := lateAt C al (v + 1)) (b := MxC C al v) rfl ?_
              refine ⟨C, al, v + 1, rfl, gr, by omega, .inl rfl, rfl, .inl ⟨by omega, by omega⟩, _, _, rfl, .inl rfl, rfl, _, rfl, ?_⟩
              exact not_if rfl ⟨_, rfl⟩
            · rintro ρ ⟨s9, rfl⟩
              exact hN _ ⟨s9, rfl⟩
          rintro ρ ⟨s9, rfl⟩
          refine ⟨d, c, 10000, rfl, rfl, by decide, by decide, fun r q => ⟨.inl rfl, ?_⟩⟩
          have er : (1 + (r : Int)) = ((r + 1 : Nat) : Int) := by omega
          refine ⟨C, al, r + 1, by show [encRow C al, D.int (1 + (r : Int))] = _; rw [er], gr, by omega, .inl rfl, rfl, .inl ⟨by show -(2 ^ 64) < (1 + (r : Int)); omega, by show (1 + (r : Int)) < 2 ^ 64; omega⟩, _, _, rfl, .inl rfl, rfl, _, rfl, ?_⟩
          exact not_if (by rw [← er]) ⟨_, _, _, _, _, _, rfl⟩
        · rintro ρ ⟨s4, s5, s6, s7, s8, s9, rfl⟩
          exact hN _ ⟨s4, s5, s6, s7, s8, s9, rfl⟩
      rintro ρ ⟨s4, s5, s6, s7, s8, s9, rfl⟩
      rw [hfar]
      refine ⟨rfl, _, rfl, ?_⟩
      show if (nb false (decide ((a0 : Int) = 4))) = true then _ else _
      by_cases ha : (a0 : Int) = 4
      · rw [decide_eq_true ha]
        have h1' : a1 < rs.length := by omega
        obtain ⟨⟨C, al⟩, hx⟩ : ∃ x, rs[a1]? = some x := ⟨_, List.getElem?_eq_getElem h1'⟩
        have gr : GoodRow C al := good _ (List.mem_of_getElem? hx)
        obtain ⟨v, hv⟩ : ∃ v : Nat, (10000 : Int) - (a2 : Int) = ((v + 1 : Nat) : Int) := ⟨(9999 - a2 : Nat), by omega⟩
        have hw : v + 1 ≤ 20000 := by omega
        refine ⟨rfl, rfl, _, rfl, encRow C al, atI_nat (by rw [List.getElem?_map, hx]; rfl), ?_⟩
        refine ⟨rfl, _, rfl, C, al, v + 1, by show [encRow C al, D.int ((10000 : Int) - (a2 : Int))] = _; rw [hv], gr, hw, .inl rfl, rfl, _, rfl, C, al, v + 1, by show [encRow C al, D.int ((10000 : Int) - (a2 : Int))] = _; rw [hv], gr, hw, .inl rfl, _, states_last _ v, _, _, rfl, .inl rfl, ?_⟩
        show Sl.val (.bl (decide (lateAt C al (v + 1) = MxC C al v))) = _
        rw [decide_eq_true (show lateAt C al (v + 1) = MxC C al v from rfl)]
      · rw [decide_eq_false ha]
        exact rfl
    · exact fun ρ' σ' H' _ _ _ => ⟨fun h => h.elim, fun h => h.elim, fun h => h.elim⟩
    · rintro r v ρ' σ' H' l1 d1 rfl
      have := d1.valAt.bl_inv
      subst this
      exact hQ H'
end
end Lw
namespace Lw
open PySem L2
set_option maxHeartbeats 4000000 in
theorem all_mk {l : PySem.W.OpenLaw} {w : World} {K : PySem.W.Frag} {h : Heap} {mg : Str → Option Value} {fa f1 f2 f3 f4 f5 f6 f7 f8 f9 f10 f11 f12 f13 f14 f15 f16 f17 f18 f19 f20 f21 : Addr} (X : K.In h) (G : h.Ns mainGlobals mg) (hfa : mg "law" = some (.ref fa))
    {od1 an1 od2 an2 od3 an3 od4 an4 od5 an5 od6 an6 od7 an7 od8 an8 od9 an9 od10 an10 od11 an11 od12 an12 od13 an13 od14 an14 od15 an15 od16 an16 od17 an17 od18 an18 od19 an19 od20 an20 od21 an21 : Option Addr} {sl1 sl2 sl3 sl4 sl5 sl6 sl7 sl8 sl9 sl10 sl11 sl12 sl13 sl14 sl15 sl16 sl17 sl18 sl19 sl20 sl21 : Array (Option Value)} {oc1 kV1 dc1 pm1 cd1 ct1 oc2 kV2 dc2 pm2 cd2 ct2 oc3 kV3 dc3 pm3 cd3 ct3 oc4 kV4 dc4 pm4 cd4 ct4 oc5 kV5 dc5 pm5 cd5 ct5 oc6 kV6 dc6 pm6 cd6 ct6 oc7 kV7 dc7 pm7 cd7 ct7 oc8 kV8 dc8 pm8 cd8 ct8 oc9 kV9 dc9 pm9 cd9 ct9 oc10 kV10 dc10 pm10 cd10 ct10 oc11 kV11 dc11 pm11 cd11 ct11 oc12 kV12 dc12 pm12 cd12 ct12 oc13 kV13 dc13 pm13 cd13 ct13 oc14 kV14 dc14 pm14 cd14 ct14 oc15 kV15 dc15 pm15 cd15 ct15 oc16 kV16 dc16 pm16 cd16 ct16 oc17 kV17 dc17 pm17 cd17 ct17 oc18 kV18 dc18 pm18 cd18 ct18 oc19 kV19 dc19 pm19 cd19 ct19 oc20 kV20 dc20 pm20 cd20 ct20 oc21 kV21 dc21 pm21 cd21 ct21 : Value}
    (a1 : PySem.W.nsIn K mainGlobals "carried_inputs" = some (some (.ref f1))) (l1 : K.lookup f1 = some ⟨oc1, od1, .func (PySem.W.fnOf "carried_inputs" "carried_inputs" (defArgs s_carried_inputs) (defBody s_carried_inputs) (defScope s_carried_inputs) .none kV1 dc1 pm1 an1 cd1 ct1), sl1⟩) (c1 : PySem.W.codeIn K cd1 "carried_inputs" = true) (k1 : PySem.W.keepIn K (.ref f1) = true)
    (a2 : PySem.W.nsIn K mainGlobals "latest" = some (some (.ref f2))) (l2 : K.lookup f2 = some ⟨oc2, od2, .func (PySem.W.fnOf "latest" "latest" (defArgs s_latest) (defBody s_latest) (defScope s_latest) .none kV2 dc2 pm2 an2 cd2 ct2), sl2⟩) (c2 : PySem.W.codeIn K cd2 "latest" = true) (k2 : PySem.W.keepIn K (.ref f2) = true)
    (a3 : PySem.W.nsIn K mainGlobals "gate_count" = some (some (.ref f3))) (l3 : K.lookup f3 = some ⟨oc3, od3, .func (PySem.W.fnOf "gate_count" "gate_count" (defArgs s_gate_count) (defBody s_gate_count) (defScope s_gate_count) .none kV3 dc3 pm3 an3 cd3 ct3), sl3⟩) (c3 : PySem.W.codeIn K cd3 "gate_count" = true) (k3 : PySem.W.keepIn K (.ref f3) = true)
    (a4 : PySem.W.nsIn K mainGlobals "lates_to" = some (some (.ref f4))) (l4 : K.lookup f4 = some ⟨oc4, od4, .func (PySem.W.fnOf "lates_to" "lates_to" (defArgs s_lates_to) (defBody s_lates_to) (defScope s_lates_to) .none kV4 dc4 pm4 an4 cd4 ct4), sl4⟩) (c4 : PySem.W.codeIn K cd4 "lates_to" = true) (k4 : PySem.W.keepIn K (.ref f4) = true)
    (a5 : PySem.W.nsIn K mainGlobals "at_edges" = some (some (.ref f5))) (l5 : K.lookup f5 = some ⟨oc5, od5, .func (PySem.W.fnOf "at_edges" "at_edges" (defArgs s_at_edges) (defBody s_at_edges) (defScope s_at_edges) .none kV5 dc5 pm5 an5 cd5 ct5), sl5⟩) (c5 : PySem.W.codeIn K cd5 "at_edges" = true) (k5 : PySem.W.keepIn K (.ref f5) = true)
    (a6 : PySem.W.nsIn K mainGlobals "one_cell_more" = some (some (.ref f6))) (l6 : K.lookup f6 = some ⟨oc6, od6, .func (PySem.W.fnOf "one_cell_more" "one_cell_more" (defArgs s_one_cell_more) (defBody s_one_cell_more) (defScope s_one_cell_more) .none kV6 dc6 pm6 an6 cd6 ct6), sl6⟩) (c6 : PySem.W.codeIn K cd6 "one_cell_more" = true) (k6 : PySem.W.keepIn K (.ref f6) = true)
    (a7 : PySem.W.nsIn K mainGlobals "told_lates" = some (some (.ref f7))) (l7 : K.lookup f7 = some ⟨oc7, od7, .func (PySem.W.fnOf "told_lates" "told_lates" (defArgs s_told_lates) (defBody s_told_lates) (defScope s_told_lates) .none kV7 dc7 pm7 an7 cd7 ct7), sl7⟩) (c7 : PySem.W.codeIn K cd7 "told_lates" = true) (k7 : PySem.W.keepIn K (.ref f7) = true)
    (a8 : PySem.W.nsIn K mainGlobals "_law_deck" = some (some (.ref f8))) (l8 : K.lookup f8 = some ⟨oc8, od8, .func (PySem.W.fnOf "_law_deck" "_law_deck" (defArgs sDeck) (defBody sDeck) (defScope sDeck) .none kV8 dc8 pm8 an8 cd8 ct8), sl8⟩) (c8 : PySem.W.codeIn K cd8 "_law_deck" = true) (k8 : PySem.W.keepIn K (.ref f8) = true)
    (a9 : PySem.W.nsIn K mainGlobals "_law_take" = some (some (.ref f9))) (l9 : K.lookup f9 = some ⟨oc9, od9, .func (PySem.W.fnOf "_law_take" "_law_take" (defArgs sTake) (defBody sTake) (defScope sTake) .none kV9 dc9 pm9 an9 cd9 ct9), sl9⟩) (c9 : PySem.W.codeIn K cd9 "_law_take" = true) (k9 : PySem.W.keepIn K (.ref f9) = true)
    (a10 : PySem.W.nsIn K mainGlobals "_law_kept" = some (some (.ref f10))) (l10 : K.lookup f10 = some ⟨oc10, od10, .func (PySem.W.fnOf "_law_kept" "_law_kept" (defArgs sKept) (defBody sKept) (defScope sKept) .none kV10 dc10 pm10 an10 cd10 ct10), sl10⟩) (c10 : PySem.W.codeIn K cd10 "_law_kept" = true) (k10 : PySem.W.keepIn K (.ref f10) = true)
    (a11 : PySem.W.nsIn K mainGlobals "_law_made_names" = some (some (.ref f11))) (l11 : K.lookup f11 = some ⟨oc11, od11, .func (PySem.W.fnOf "_law_made_names" "_law_made_names" (defArgs sMade) (defBody sMade) (defScope sMade) .none kV11 dc11 pm11 an11 cd11 ct11), sl11⟩) (c11 : PySem.W.codeIn K cd11 "_law_made_names" = true) (k11 : PySem.W.keepIn K (.ref f11) = true)
    (a12 : PySem.W.nsIn K mainGlobals "_law_names" = some (some (.ref f12))) (l12 : K.lookup f12 = some ⟨oc12, od12, .func (PySem.W.fnOf "_law_names" "_law_names" (defArgs sNames) (defBody sNames) (defScope sNames) .none kV12 dc12 pm12 an12 cd12 ct12), sl12⟩) (c12 : PySem.W.codeIn K cd12 "_law_names" = true) (k12 : PySem.W.keepIn K (.ref f12) = true)
    (a13 : PySem.W.nsIn K mainGlobals "_law_gate" = some (some (.ref f13))) (l13 : K.lookup f13 = some ⟨oc13, od13, .func (PySem.W.fnOf "_law_gate" "_law_gate" (defArgs sGate) (defBody sGate) (defScope sGate) .none kV13 dc13 pm13 an13 cd13 ct13), sl13⟩) (c13 : PySem.W.codeIn K cd13 "_law_gate" = true) (k13 : PySem.W.keepIn K (.ref f13) = true)
    (a14 : PySem.W.nsIn K mainGlobals "_law_row" = some (some (.ref f14))) (l14 : K.lookup f14 = some ⟨oc14, od14, .func (PySem.W.fnOf "_law_row" "_law_row" (defArgs s_law_row) (defBody s_law_row) (defScope s_law_row) .none kV14 dc14 pm14 an14 cd14 ct14), sl14⟩) (c14 : PySem.W.codeIn K cd14 "_law_row" = true) (k14 : PySem.W.keepIn K (.ref f14) = true)
    (a15 : PySem.W.nsIn K mainGlobals "_law_kit" = some (some (.ref f15))) (l15 : K.lookup f15 = some ⟨oc15, od15, .func (PySem.W.fnOf "_law_kit" "_law_kit" (defArgs s_law_kit) (defBody s_law_kit) (defScope s_law_kit) .none kV15 dc15 pm15 an15 cd15 ct15), sl15⟩) (c15 : PySem.W.codeIn K cd15 "_law_kit" = true) (k15 : PySem.W.keepIn K (.ref f15) = true)
    (a16 : PySem.W.nsIn K mainGlobals "_law_shuffled" = some (some (.ref f16))) (l16 : K.lookup f16 = some ⟨oc16, od16, .func (PySem.W.fnOf "_law_shuffled" "_law_shuffled" (defArgs s_law_shuffled) (defBody s_law_shuffled) (defScope s_law_shuffled) .none kV16 dc16 pm16 an16 cd16 ct16), sl16⟩) (c16 : PySem.W.codeIn K cd16 "_law_shuffled" = true) (k16 : PySem.W.keepIn K (.ref f16) = true)
    (a17 : PySem.W.nsIn K mainGlobals "_law_words" = some (some (.ref f17))) (l17 : K.lookup f17 = some ⟨oc17, od17, .func (PySem.W.fnOf "_law_words" "_law_words" (defArgs s_law_words) (defBody s_law_words) (defScope s_law_words) .none kV17 dc17 pm17 an17 cd17 ct17), sl17⟩) (c17 : PySem.W.codeIn K cd17 "_law_words" = true) (k17 : PySem.W.keepIn K (.ref f17) = true)
    (a18 : PySem.W.nsIn K mainGlobals "_law_made" = some (some (.ref f18))) (l18 : K.lookup f18 = some ⟨oc18, od18, .func (PySem.W.fnOf "_law_made" "_law_made" (defArgs s_law_made) (defBody s_law_made) (defScope s_law_made) .none kV18 dc18 pm18 an18 cd18 ct18), sl18⟩) (c18 : PySem.W.codeIn K cd18 "_law_made" = true) (k18 : PySem.W.keepIn K (.ref f18) = true)
    (a19 : PySem.W.nsIn K mainGlobals "_law_latest" = some (some (.ref f19))) (l19 : K.lookup f19 = some ⟨oc19, od19, .func (PySem.W.fnOf "_law_latest" "_law_latest" (defArgs s_law_latest) (defBody s_law_latest) (defScope s_law_latest) .none kV19 dc19 pm19 an19 cd19 ct19), sl19⟩) (c19 : PySem.W.codeIn K cd19 "_law_latest" = true) (k19 : PySem.W.keepIn K (.ref f19) = true)
    (a20 : PySem.W.nsIn K mainGlobals "_law_whole" = some (some (.ref f20))) (l20 : K.lookup f20 = some ⟨oc20, od20, .func (PySem.W.fnOf "_law_whole" "_law_whole" (defArgs s_law_whole) (defBody s_law_whole) (defScope s_law_whole) .none kV20 dc20 pm20 an20 cd20 ct20), sl20⟩) (c20 : PySem.W.codeIn K cd20 "_law_whole" = true) (k20 : PySem.W.keepIn K (.ref f20) = true)
    (a21 : PySem.W.nsIn K mainGlobals "law" = some (some (.ref f21))) (l21 : K.lookup f21 = some ⟨oc21, od21, .func (PySem.W.fnOf "law" "law" (defArgs sLaw) (defBody sLaw) (defScope sLaw) .none kV21 dc21 pm21 an21 cd21 ct21), sl21⟩) (c21 : PySem.W.codeIn K cd21 "law" = true) (k21 : PySem.W.keepIn K (.ref f21) = true)
    (z1 : PySem.W.nsIn K mainGlobals "len" = some none)
    (z2 : PySem.W.nsIn K mainGlobals "range" = some none)
    (z3 : PySem.W.nsIn K mainGlobals "sum" = some none)
    (z4 : PySem.W.nsIn K mainGlobals "min" = some none)
    (z5 : PySem.W.nsIn K mainGlobals "max" = some none)
    (z6 : PySem.W.nsIn K mainGlobals "tuple" = some none)
    (z7 : PySem.W.nsIn K mainGlobals "list" = some none)
    (z8 : PySem.W.nsIn K mainGlobals "set" = some none)
    (z9 : PySem.W.nsIn K mainGlobals "dict" = some none)
    (z10 : PySem.W.nsIn K mainGlobals "int" = some none)
    (z11 : PySem.W.nsIn K mainGlobals "str" = some none)
    (z12 : PySem.W.nsIn K mainGlobals "zip" = some none)
    (z13 : PySem.W.nsIn K mainGlobals "enumerate" = some none)
    (z14 : PySem.W.nsIn K mainGlobals "all" = some none)
    (z15 : PySem.W.nsIn K mainGlobals "any" = some none)
    (z16 : PySem.W.nsIn K mainGlobals "isinstance" = some none)
    (z17 : PySem.W.nsIn K mainGlobals "sorted" = some none)
    (z18 : PySem.W.nsIn K mainGlobals "abs" = some none)
    (z19 : PySem.W.nsIn K mainGlobals "reversed" = some none)
    (z20 : PySem.W.nsIn K mainGlobals "bool" = some none)
    : ∃ fd : FuncData, (∀ (s : Shared) (v : Value), BindsTo s fd ⟨[v], []⟩ [("script", v)]) ∧ ∀ base : Heap, K.In base → base.Ns mainGlobals mg → FnOk l.prog w K mg base CX0 5 fa fd ["script"] (spLaw K) := by
  have e := hfa.symm.trans (PySem.W.mg_of X G a21)
  cases e
  have n_len := PySem.W.mg_none_of X G z1
  have n_range := PySem.W.mg_none_of X G z2
  have n_sum := PySem.W.mg_none_of X G z3
  have n_min := PySem.W.mg_none_of X G z4
  have n_max := PySem.W.mg_none_of X G z5
  have n_tuple := PySem.W.mg_none_of X G z6
  have n_list := PySem.W.mg_none_of X G z7
  have n_set := PySem.W.mg_none_of X G z8
  have n_dict := PySem.W.mg_none_of X G z9
  have n_int := PySem.W.mg_none_of X G z10
  have n_str := PySem.W.mg_none_of X G z11
  have n_zip := PySem.W.mg_none_of X G z12
  have n_enumerate := PySem.W.mg_none_of X G z13
  have n_all := PySem.W.mg_none_of X G z14
  have n_any := PySem.W.mg_none_of X G z15
  have n_isinstance := PySem.W.mg_none_of X G z16
  have n_sorted := PySem.W.mg_none_of X G z17
  have n_abs := PySem.W.mg_none_of X G z18
  have n_reversed := PySem.W.mg_none_of X G z19
  have n_bool := PySem.W.mg_none_of X G z20
  have F1 := fun_mk (st := s_carried_inputs) l1 c1 k1
  have b1 := F1.binds (ps := ["row"]) fun _ _ _ _ _ _ us hl => match us, hl with | [_], _ => rfl
  have gCI : Gd K mg "carried_inputs" s_carried_inputs ["row"] f1 _ := ⟨F1, PySem.W.mg_of X G a1, k1, b1⟩
  have F2 := fun_mk (st := s_latest) l2 c2 k2
  have b2 := F2.binds (ps := ["row", "width"]) fun _ _ _ _ _ _ us hl => match us, hl with | [_, _], _ => rfl
  have gLa : Gd K mg "latest" s_latest ["row", "width"] f2 _ := ⟨F2, PySem.W.mg_of X G a2, k2, b2⟩
  have F3 := fun_mk (st := s_gate_count) l3 c3 k3
  have b3 := F3.binds (ps := ["row", "width"]) fun _ _ _ _ _ _ us hl => match us, hl with | [_, _], _ => rfl
  have gGc : Gd K mg "gate_count" s_gate_count ["row", "width"] f3 _ := ⟨F3, PySem.W.mg_of X G a3, k3, b3⟩
  have F4 := fun_mk (st := s_lates_to) l4 c4 k4
  have b4 := F4.binds (ps := ["row", "width"]) fun _ _ _ _ _ _ us hl => match us, hl with | [_, _], _ => rfl
  have gLt : Gd K mg "lates_to" s_lates_to ["row", "width"] f4 _ := ⟨F4, PySem.W.mg_of X G a4, k4, b4⟩
  have F5 := fun_mk (st := s_at_edges) l5 c5 k5
  have b5 := F5.binds (ps := ["row"]) fun _ _ _ _ _ _ us hl => match us, hl with | [_], _ => rfl
  have gE : Gd K mg "at_edges" s_at_edges ["row"] f5 _ := ⟨F5, PySem.W.mg_of X G a5, k5, b5⟩
  have F6 := fun_mk (st := s_one_cell_more) l6 c6 k6
  have b6 := F6.binds (ps := ["row", "state"]) fun _ _ _ _ _ _ us hl => match us, hl with | [_, _], _ => rfl
  have gMo : Gd K mg "one_cell_more" s_one_cell_more ["row", "state"] f6 _ := ⟨F6, PySem.W.mg_of X G a6, k6, b6⟩
  have F7 := fun_mk (st := s_told_lates) l7 c7 k7
  have b7 := F7.binds (ps := ["cell", "carried"]) fun _ _ _ _ _ _ us hl => match us, hl with | [_, _], _ => rfl
  have gTo : Gd K mg "told_lates" s_told_lates ["cell", "carried"] f7 _ := ⟨F7, PySem.W.mg_of X G a7, k7, b7⟩
  have F8 := fun_mk (st := sDeck) l8 c8 k8
  have b8 := F8.binds (ps := ["script"]) fun _ _ _ _ _ _ us hl => match us, hl with | [_], _ => rfl
  have gD : Gd K mg "_law_deck" sDeck ["script"] f8 _ := ⟨F8, PySem.W.mg_of X G a8, k8, b8⟩
  have F9 := fun_mk (st := sTake) l9 c9 k9
  have b9 := F9.binds (ps := ["deck", "many"]) fun _ _ _ _ _ _ us hl => match us, hl with | [_, _], _ => rfl
  have gT : Gd K mg "_law_take" sTake ["deck", "many"] f9 _ := ⟨F9, PySem.W.mg_of X G a9, k9, b9⟩
  have F10 := fun_mk (st := sKept) l10 c10 k10
  have b10 := F10.binds (ps := []) fun _ _ _ _ _ _ us hl => match us, hl with | [], _ => rfl
  have gK : Gd K mg "_law_kept" sKept [] f10 _ := ⟨F10, PySem.W.mg_of X G a10, k10, b10⟩
  have F11 := fun_mk (st := sMade) l11 c11 k11
  have b11 := F11.binds (ps := ["deck", "many"]) fun _ _ _ _ _ _ us hl => match us, hl with | [_, _], _ => rfl
  have gM : Gd K mg "_law_made_names" sMade ["deck", "many"] f11 _ := ⟨F11, PySem.W.mg_of X G a11, k11, b11⟩
  have F12 := fun_mk (st := sNames) l12 c12 k12
  have b12 := F12.binds (ps := ["deck", "many"]) fun _ _ _ _ _ _ us hl => match us, hl with | [_, _], _ => rfl
  have gN : Gd K mg "_law_names" sNames ["deck", "many"] f12 _ := ⟨F12, PySem.W.mg_of X G a12, k12, b12⟩
  have F13 := fun_mk (st := sGate) l13 c13 k13
  have b13 := F13.binds (ps := ["deck", "known"]) fun _ _ _ _ _ _ us hl => match us, hl with | [_, _], _ => rfl
  have gG : Gd K mg "_law_gate" sGate ["deck", "known"] f13 _ := ⟨F13, PySem.W.mg_of X G a13, k13, b13⟩
  have F14 := fun_mk (st := s_law_row) l14 c14 k14
  have b14 := F14.binds (ps := ["deck", "inputs", "gates", "most"]) fun _ _ _ _ _ _ us hl => match us, hl with | [_, _, _, _], _ => rfl
  have gRow : Gd K mg "_law_row" s_law_row ["deck", "inputs", "gates", "most"] f14 _ := ⟨F14, PySem.W.mg_of X G a14, k14, b14⟩
  have F15 := fun_mk (st := s_law_kit) l15 c15 k15
  have b15 := F15.binds (ps := ["deck"]) fun _ _ _ _ _ _ us hl => match us, hl with | [_], _ => rfl
  have gKit : Gd K mg "_law_kit" s_law_kit ["deck"] f15 _ := ⟨F15, PySem.W.mg_of X G a15, k15, b15⟩
  have F16 := fun_mk (st := s_law_shuffled) l16 c16 k16
  have b16 := F16.binds (ps := ["deck", "some"]) fun _ _ _ _ _ _ us hl => match us, hl with | [_, _], _ => rfl
  have gS : Gd K mg "_law_shuffled" s_law_shuffled ["deck", "some"] f16 _ := ⟨F16, PySem.W.mg_of X G a16, k16, b16⟩
  have F17 := fun_mk (st := s_law_words) l17 c17 k17
  have b17 := F17.binds (ps := ["text"]) fun _ _ _ _ _ _ us hl => match us, hl with | [_], _ => rfl
  have gW : Gd K mg "_law_words" s_law_words ["text"] f17 _ := ⟨F17, PySem.W.mg_of X G a17, k17, b17⟩
  have F18 := fun_mk (st := s_law_made) l18 c18 k18
  have b18 := F18.binds (ps := ["deck", "kit"]) fun _ _ _ _ _ _ us hl => match us, hl with | [_, _], _ => rfl
  have gMr : Gd K mg "_law_made" s_law_made ["deck", "kit"] f18 _ := ⟨F18, PySem.W.mg_of X G a18, k18, b18⟩
  have F19 := fun_mk (st := s_law_latest) l19 c19 k19
  have b19 := F19.binds (ps := ["row", "widths"]) fun _ _ _ _ _ _ us hl => match us, hl with | [_, _], _ => rfl
  have gLL : Gd K mg "_law_latest" s_law_latest ["row", "widths"] f19 _ := ⟨F19, PySem.W.mg_of X G a19, k19, b19⟩
  have F20 := fun_mk (st := s_law_whole) l20 c20 k20
  have b20 := F20.binds (ps := ["found", "due"]) fun _ _ _ _ _ _ us hl => match us, hl with | [_, _], _ => rfl
  have gWh : Gd K mg "_law_whole" s_law_whole ["found", "due"] f20 _ := ⟨F20, PySem.W.mg_of X G a20, k20, b20⟩
  have F21 := fun_mk (st := sLaw) l21 c21 k21
  refine ⟨PySem.W.fnOf "law" "law" (defArgs sLaw) (defBody sLaw) (defScope sLaw) .none kV21 dc21 pm21 an21 cd21 ct21, fun s v => .of_eq rfl, fun base _ _ => ?_⟩
  have T : Txt mg := ⟨n_len, n_range, n_sum, n_min, n_max, n_tuple, n_list, n_set, n_dict, n_int, n_str, n_zip, n_enumerate, n_all, n_any, n_isinstance, n_sorted, n_abs, n_reversed, n_bool⟩
  have GT := ok_take (P := l.prog) (w := w) (base := base) gT.F T
  have GN := ok_names (P := l.prog) (w := w) (base := base) gN.F T gT gK gM
  have GG := ok_gate (P := l.prog) (w := w) (base := base) gG.F T gT
  have BT := br_take GT
  have BN := br_names GN
  have BG := br_gate GG
  have OR := ok_row (P := l.prog) (w := w) (base := base) gRow.F T gT gN gG BT BN BG
  have OS := ok_shuf (P := l.prog) (w := w) (base := base) gS.F T gT BT
  have OW := ok_words (P := l.prog) (w := w) (base := base) gW.F T
  have OKt := ok_kit (P := l.prog) (w := w) (base := base) gKit.F T gT BT
  have OM := ok_mrow (P := l.prog) (w := w) (base := base) gMr.F T gT gN gS gW BT BN OS OW
  have OLL := ok_ll (P := l.prog) (w := w) (base := base) gLL.F T
  have OWh := ok_whole (P := l.prog) (w := w) (base := base) gWh.F T
  have OCI := ok_ci (P := l.prog) (w := w) (base := base) gCI.F T
  have OE := ok_edges (P := l.prog) (w := w) (base := base) gE.F T
  have OGc := ok_gc (P := l.prog) (w := w) (base := base) gGc.F T
  have OTo := ok_told (P := l.prog) (w := w) (base := base) gTo.F T
  have OMo := ok_more (P := l.prog) (w := w) (base := base) gMo.F T gCI gTo OCI OTo
  have OLt := ok_lto (P := l.prog) (w := w) (base := base) gLt.F T gE gMo OE OMo
  have OLa := ok_latest (P := l.prog) (w := w) (base := base) gLa.F T gLt OLt
  exact ok_law F21 T gD gT gRow gMr gKit gLL gWh gLa gGc (ok_deck gD.F T) BT OR OM OKt OLL OWh OLa OGc
theorem walk {l : PySem.W.OpenLaw} {q : Program} {loose : List Str} {XP : (Str → Option Value) → Heap → Prop} {YP : World → Heap → Prop} {d : DefRec} {K : Params → PySem.W.Frag} (hn : l.most = some 63) (hdf : d.params.defaults = [])
    (hY : ∀ (w : World) (h : Heap), YP w h → (K w.params).In h)
    (F : ∀ (w : World) (mg : Str → Option Value) (fa : Addr) (h : Heap), (K w.params).In h → h.Ns mainGlobals mg → mg d.name = some (.ref fa) →
      ∃ fd : FuncData, (∀ (s : Shared) (u : Value), BindsTo s fd ⟨[u], []⟩ [("script", u)]) ∧ ∀ base : Heap, (K w.params).In base → base.Ns mainGlobals mg → FnOk l.prog w (K w.params) mg base CX0 5 fa fd ["script"] (spLaw (K w.params))) :
    PySem.W.WalkO q loose XP YP l.row.toRowW d [] (fun f vs => PySem.call f vs) :=
  L2.walk_of (n := 63) (k := 5) (x := "script") (CX := fun _ => CX0) (sp := fun w => spLaw (K w.params)) hn (by decide) hdf ⟨rfl, by decide, by decide⟩ hY F (fun _ _ a ns hl _ hS => ⟨a, ns, rfl, hS, hl, fun _ => rfl⟩) fun _ _ _ _ _ z => z
end Lw
/-- stands where a second copy of the heap, which nothing reads, would be kept -/
noncomputable def PySem.W.Fast.tw8023683479692622740 : Unit := ()
open PySem PySem.W PyProof.Rows
set_option maxRecDepth 100000 in
set_option maxHeartbeats 0 in
theorem PySem.Challenge.cw_laidcells_k28_latest_holds : PySem.Challenge.rw_laidcells_k28_latest.Holds := by
  w_on; o_law; k_head; (case hw => w_witness2)
  k_fill
  refine Lw.walk (l := PySem.Challenge.rw_laidcells_k28_latest) rfl rfl (fun w h Y => PySem.W.kIn_of Y) ?F
  case F =>
    intro w mg fa h KX G hmg
    refine' Lw.all_mk KX G hmg ?a1 ?l1 ?c1 ?k1 ?a2 ?l2 ?c2 ?k2 ?a3 ?l3 ?c3 ?k3 ?a4 ?l4 ?c4 ?k4 ?a5 ?l5 ?c5 ?k5 ?a6 ?l6 ?c6 ?k6 ?a7 ?l7 ?c7 ?k7 ?a8 ?l8 ?c8 ?k8 ?a9 ?l9 ?c9 ?k9 ?a10 ?l10 ?c10 ?k10 ?a11 ?l11 ?c11 ?k11 ?a12 ?l12 ?c12 ?k12 ?a13 ?l13 ?c13 ?k13 ?a14 ?l14 ?c14 ?k14 ?a15 ?l15 ?c15 ?k15 ?a16 ?l16 ?c16 ?k16 ?a17 ?l17 ?c17 ?k17 ?a18 ?l18 ?c18 ?k18 ?a19 ?l19 ?c19 ?k19 ?a20 ?l20 ?c20 ?k20 ?a21 ?l21 ?c21 ?k21 ?z1 ?z2 ?z3 ?z4 ?z5 ?z6 ?z7 ?z8 ?z9 ?z10 ?z11 ?z12 ?z13 ?z14 ?z15 ?z16 ?z17 ?z18 ?z19 ?z20
    (case a1 => k_is)
    (case l1 => k_is)
    (case c1 => k_is)
    (case k1 => k_is)
    (case a2 => k_is)
    (case l2 => k_is)
    (case c2 => k_is)
    (case k2 => k_is)
    (case a3 => k_is)
    (case l3 => k_is)
    (case c3 => k_is)
    (case k3 => k_is)
    (case a4 => k_is)
    (case l4 => k_is)
    (case c4 => k_is)
    (case k4 => k_is)
    (case a5 => k_is)
    (case l5 => k_is)
    (case c5 => k_is)
    (case k5 => k_is)
    (case a6 => k_is)
    (case l6 => k_is)
    (case c6 => k_is)
    (case k6 => k_is)
    (case a7 => k_is)
    (case l7 => k_is)
    (case c7 => k_is)
    (case k7 => k_is)
    (case a8 => k_is)
    (case l8 => k_is)
    (case c8 => k_is)
    (case k8 => k_is)
    (case a9 => k_is)
    (case l9 => k_is)
    (case c9 => k_is)
    (case k9 => k_is)
    (case a10 => k_is)
    (case l10 => k_is)
    (case c10 => k_is)
    (case k10 => k_is)
    (case a11 => k_is)
    (case l11 => k_is)
    (case c11 => k_is)
    (case k11 => k_is)
    (case a12 => k_is)
    (case l12 => k_is)
    (case c12 => k_is)
    (case k12 => k_is)
    (case a13 => k_is)
    (case l13 => k_is)
    (case c13 => k_is)
    (case k13 => k_is)
    (case a14 => k_is)
    (case l14 => k_is)
    (case c14 => k_is)
    (case k14 => k_is)
    (case a15 => k_is)
    (case l15 => k_is)
    (case c15 => k_is)
    (case k15 => k_is)
    (case a16 => k_is)
    (case l16 => k_is)
    (case c16 => k_is)
    (case k16 => k_is)
    (case a17 => k_is)
    (case l17 => k_is)
    (case c17 => k_is)
    (case k17 => k_is)
    (case a18 => k_is)
    (case l18 => k_is)
    (case c18 => k_is)
    (case k18 => k_is)
    (case a19 => k_is)
    (case l19 => k_is)
    (case c19 => k_is)
    (case k19 => k_is)
    (case a20 => k_is)
    (case l20 => k_is)
    (case c20 => k_is)
    (case k20 => k_is)
    (case a21 => k_is)
    (case l21 => k_is)
    (case c21 => k_is)
    (case k21 => k_is)
    (case z1 => k_is)
    (case z2 => k_is)
    (case z3 => k_is)
    (case z4 => k_is)
    (case z5 => k_is)
    (case z6 => k_is)
    (case z7 => k_is)
    (case z8 => k_is)
    (case z9 => k_is)
    (case z10 => k_is)
    (case z11 => k_is)
    (case z12 => k_is)
    (case z13 => k_is)
    (case z14 => k_is)
    (case z15 => k_is)
    (case z16 => k_is)
    (case z17 => k_is)
    (case z18 => k_is)
    (case z19 => k_is)
    (case z20 => k_is)
