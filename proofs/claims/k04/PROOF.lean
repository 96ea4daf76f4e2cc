import PyProof.Rows.All
import Wide.All
import OpenK.AllK
import Wide.FinOn
import Lean
import PyProof.EqAt
import PyProof.EqKinds
import PyProof.TupleCall
import OpenK.KCall
import OpenK.KCell
import OpenK.KCls
import OpenK.KComp
import OpenK.KDescr
import OpenK.KDict
import OpenK.KEqL
import OpenK.KExp
import OpenK.KFacts
import OpenK.KFor
import OpenK.KGet
import OpenK.KInv
import OpenK.KInv2
import OpenK.KInv3
import OpenK.KInvG
import OpenK.KInvL
import OpenK.KInvM
import OpenK.KItem
import OpenK.KLaw
import OpenK.KLine
import OpenK.KList
import OpenK.KMade
import OpenK.KMake
import OpenK.KMeth
import OpenK.KMisc
import OpenK.KMore
import OpenK.KNot
import OpenK.KOps
import OpenK.KOwn
import OpenK.KPick
import OpenK.KPrune
import OpenK.KQuick
import OpenK.KRaise
import OpenK.KRaiseN
import OpenK.KToks
import OpenK.KTop
import OpenK.KUnr
import OpenK.KWalk
import OpenK.KWith
import OpenK.Lit
import OpenK.Peek
import OpenK.TopRead
import KE.BitLaws
import KE.FramesApart
import KE.HeadEqs
import KE.IntBitsLaws
import KE.IntText
import KE.IntTextLaws
import KE.IntTextText
import KE.KBools
import KE.KData
import KE.KDictAny
import KE.KDictFold
import KE.KDictIter
import KE.KDictLaws
import KE.KDictList
import KE.KDictLoop
import KE.KDictMeth
import KE.KDictOf
import KE.KDictSum
import KE.KFinally
import KE.KFind
import KE.KIsAll
import KE.KIsNot
import KE.KItem
import KE.KItemsList
import KE.KListMore
import KE.KMathG
import KE.KMathGB
import KE.KMathGC
import KE.KNest
import KE.KPairComp
import KE.KPassesOwn
import KE.KPathFold
import KE.KPop
import KE.KSlice
import KE.KSort
import KE.KSortAsk
import KE.KSorted
import KE.KSortedL
import KE.KState
import KE.KStateW
import KE.KSuperObj
import KE.KTab
import KE.KTabExpr
import KE.KTabLook
import KE.KTemps
import KE.KTempsTwo
import KE.KTree
import KE.KTreeB
import KE.KTryDeep
import KE.KTryDeepN
import KE.KTup
import KE.KTurns
import KE.KTurnsAny
import KE.KTurnsDict
import KE.KUnpack
import KE.KUnpackStar
import KE.KWords
import KE.KxBytes
import KE.KxMul
import KE.KxPercent
import KE.LcSums
import KE.LcTurns
import KE.RegFinNonlin
import KE.RegKTryDeep
import KE.RegLcTurns
import KE.RegMulBits
import KE.RegTryInHelper
import KE.RegTryLedger
import KE.TopReadKeeps
import KE.TryInHelper
import KE.TryInTurn
import KE.TryLedger
import PyProof.StationsW
import PyProof.Commute
import PyProof.ExcClass3
import PyProof.ExcInit
import PyProof.ExcArgsOwn
import PyProof.InstStoreFacts
import PySem.Challenge.RW_laidcells_k04_bits_lacking
set_option Elab.async false
set_option linter.all false
set_option maxRecDepth 100000
/-! THE HAND LAYER, for ints, bools, texts, own classes, LISTS and tuples (index, slices, in, append, pop ..), calls, loops. Paste it whole ahead of your own text; what your proof does not reach may be deleted. -/
namespace L2
open PySem PySem.Spec PyProof.Rows

/-- a key: an int or a str -/
abbrev Key := Sum Int Str
def keyIs : Key → Value → Bool
  | .inl k, v => Value.isInt k v
  | .inr x, v => Value.isStrOf x v
def keyH (w : World) : Key → Int
  | .inl k => hashInt k
  | .inr x => hashStr w x
theorem keyIs_shape : ∀ {k : Key} {v : Value}, keyIs k v = true → (∃ i t, k = Sum.inl i ∧ v = Value.int i t) ∨ (∃ x t, k = Sum.inr x ∧ v = Value.str x t)
  | .inl i, v, h => by
    obtain ⟨t, e⟩ := Value.isInt_shape (k := i) (v := v) h
    exact .inl ⟨i, t, rfl, e⟩
  | .inr x, v, h => by
    obtain ⟨t, e⟩ := Value.isStrOf_shape (x := x) (v := v) h
    exact .inr ⟨x, t, rfl, e⟩
theorem keyIs_int (i : Int) (t : Tok) : keyIs (.inl i) (.int i t) = true := by simp [keyIs, Value.isInt]
theorem keyIs_str (x : Str) (t : Tok) : keyIs (.inr x) (.str x t) = true := by simp [keyIs, Value.isStrOf]
theorem key_ll (a b : Int) : decide ((Sum.inl a : Key) = Sum.inl b) = (a == b) := by
  by_cases e : a = b
  · subst e; simp
  · have h : ¬ (Sum.inl a : Key) = Sum.inl b := fun q => e (Sum.inl.inj q)
    rw [decide_eq_false h]
    exact (beq_eq_false_iff_ne.mpr e).symm
theorem key_rr (a b : Str) : decide ((Sum.inr a : Key) = Sum.inr b) = decide (a = b) := by
  by_cases e : a = b
  · subst e; simp
  · have h : ¬ (Sum.inr a : Key) = Sum.inr b := fun q => e (Sum.inr.inj q)
    rw [decide_eq_false h, decide_eq_false e]
theorem key_lr (a : Int) (b : Str) : decide ((Sum.inl a : Key) = Sum.inr b) = false := decide_eq_false (fun q => nomatch q)
theorem key_rl (a : Str) (b : Int) : decide ((Sum.inr a : Key) = Sum.inl b) = false := decide_eq_false (fun q => nomatch q)

def mixKind (prog : Program) (w : World) : PySem.KeyKind prog w Key where
  is := keyIs
  hash := keyH w
  inj := fun v a b ha hb => by
    rcases keyIs_shape ha with ⟨i, t, rfl, rfl⟩ | ⟨x, t, rfl, rfl⟩
    · rcases keyIs_shape hb with ⟨j, u, rfl, e⟩ | ⟨y, u, rfl, e⟩
      · injection e with e1 _; rw [e1]
      · exact nomatch e
    · rcases keyIs_shape hb with ⟨j, u, rfl, e⟩ | ⟨y, u, rfl, e⟩
      · exact nomatch e
      · injection e with e1 _; rw [e1]
  byValue := fun k v h => by
    rcases keyIs_shape h with ⟨i, t, rfl, rfl⟩ | ⟨x, t, rfl, rfl⟩ <;> rfl
  pyHash := fun hv h => by
    rcases keyIs_shape hv with ⟨i, t, rfl, rfl⟩ | ⟨x, t, rfl, rfl⟩
    · exact wpAny_pyHash_int h
    · exact wpAny_pyHash_str h
  eqBool := fun hu hv h => by
    rcases keyIs_shape hu with ⟨i, t, rfl, rfl⟩ | ⟨x, t, rfl, rfl⟩
    · rcases keyIs_shape hv with ⟨j, u, rfl, rfl⟩ | ⟨y, u, rfl, rfl⟩
      · rw [key_ll] at h; exact wpAny_eqBool_int h
      · rw [key_lr] at h; exact SeqAt.EqAt.int_str i t y u _ _ _ _ h
    · rcases keyIs_shape hv with ⟨j, u, rfl, rfl⟩ | ⟨y, u, rfl, rfl⟩
      · rw [key_rl] at h; exact SeqAt.EqAt.str_int x t j u _ _ _ _ h
      · rw [key_rr] at h; exact wpAny_eqBool_str h
  «strs» := fun k x t v h => by
    rcases keyIs_shape h with ⟨i, u, rfl, e⟩ | ⟨y, u, rfl, e⟩
    · exact nomatch e
    · injection e with e1 _
      subst e1
      cases v <;> rfl

theorem mixKind_is (prog : Program) (w : World) (k : Key) (v : Value) : (mixKind prog w).is k v = keyIs k v := rfl
theorem mixKind_int (prog : Program) (w : World) (i : Int) (t : Tok) : (mixKind prog w).is (.inl i) (.int i t) = true := keyIs_int i t
theorem mixKind_str (prog : Program) (w : World) (x : Str) (t : Tok) : (mixKind prog w).is (.inr x) (.str x t) = true := keyIs_str x t
end L2

namespace L2
open PySem PySem.Spec PyProof.Rows

/-- a value, without the heap -/
inductive V where
  | non | bl (b : Bool) | int (i : Int) | str (x : Str) | byt (b : Array UInt8) | flt (b : UInt64) | ref (a : Addr) | ty (n : String)
  deriving DecidableEq

def RelV : V → Value → Prop
  | .non, u => u = Value.none
  | .bl b, u => u = Value.bool b
  | .int i, u => ∃ t, u = Value.int i t
  | .str x, u => ∃ t, u = Value.str x t
  | .byt b, u => ∃ t, u = Value.bytes b t
  | .flt b, u => ∃ t, u = Value.float b t
  | .ref a, u => u = Value.ref a
  | .ty n, u => u = Value.type n

abbrev Vals : List V → List Value → Prop := Paired RelV
theorem Vals.length {xs : List V} {us : List Value} (r : Vals xs us) : xs.length = us.length := Paired.length r
theorem Vals.get : ∀ {xs : List V} {us : List Value} {i : Nat} {x : V}, Vals xs us → xs[i]? = some x → ∃ u, us[i]? = some u ∧ RelV x u
  | _, _, _, _, .nil, e => by simp at e
  | _, _, 0, _, .cons r _, e => by simp at e; subst e; exact ⟨_, rfl, r⟩
  | _, _, i + 1, x, .cons _ t, e => by
    obtain ⟨u, h1, h2⟩ := Vals.get (i := i) (x := x) t (by simpa using e)
    exact ⟨u, by simpa using h1, h2⟩
theorem Vals.set {x : V} {u : Value} (r : RelV x u) : ∀ {xs : List V} {us : List Value} (i : Nat), Vals xs us → Vals (xs.set i x) (us.set i u)
  | _, _, _, .nil => .nil
  | _, _, 0, .cons _ t => .cons r t
  | _, _, i + 1, .cons q t => .cons q (Vals.set r i t)
theorem Vals.append : ∀ {xs ys : List V} {us ws : List Value}, Vals xs us → Vals ys ws → Vals (xs ++ ys) (us ++ ws)
  | _, _, _, _, .nil, s => s
  | _, _, _, _, .cons r t, s => .cons r (Vals.append t s)
theorem Vals.take : ∀ {xs : List V} {us : List Value} (n : Nat), Vals xs us → Vals (xs.take n) (us.take n)
  | _, _, 0, _ => .nil
  | _, _, _ + 1, .nil => .nil
  | _, _, n + 1, .cons r t => .cons r (Vals.take n t)
theorem Vals.drop : ∀ {xs : List V} {us : List Value} (n : Nat), Vals xs us → Vals (xs.drop n) (us.drop n)
  | _, _, 0, r => r
  | _, _, _ + 1, .nil => .nil
  | _, _, n + 1, .cons _ t => Vals.drop n t
theorem Vals.none_of : ∀ {xs : List V} {us : List Value} {i : Nat}, Vals xs us → xs[i]? = none → us[i]? = none := fun {xs us i} r e => by
  have h1 := r.length
  have h2 : xs.length ≤ i := List.getElem?_eq_none_iff.mp e
  exact List.getElem?_eq_none_iff.mpr (by omega)

def RelO : Option V → Option Value → Prop
  | some v, some u => RelV v u
  | none, none => True
  | _, _ => False
def KV {κ : Type} : List (κ × V) → List (κ × Value) → Prop := Paired fun (p : κ × V) (q : κ × Value) => p.1 = q.1 ∧ RelV p.2 q.2

/-- a key of a dict (00_mix): an int or a text -/
def kV : Key → V
  | .inl i => .int i
  | .inr x => .str x

/-- what stands at a tracked address -/
inductive HO where
  /-- a list -/
  | lst (xs : List V)
  /-- a tuple (never changes) -/
  | tup (xs : List V)
  /-- a dict whose keys are ints and texts; one whose keys are tuples of ints and texts (the empty one is both) -/
  | dK (kvs : List (Key × V)) | dT (kvs : List (List Key × V))
  /-- a set of ints: its members, its size -/
  | set (S : Int → Bool) (n : Nat)
  /-- an instance of the class at C, its dict at dx, its attributes -/
  | ins (C dx : Addr) (fs : List (Str × V))
  /-- the dict of the instance at x -/
  | own (x : Addr)
  /-- the dict of an exception -/
  | xd (fs : List (Str × V))
  /-- a bound method, f of x -/
  | met (f x : Addr)
  /-- a range object lo, lo + 1, .. below hi -/
  | rng (lo hi : Int)
  /-- a thing that is known to the object (the script; a dict while a loop walks it): read, never written while it is so -/
  | frz (o : Obj) (u : HO)
  /-- a code object's table -/
  | tbl (ps : Array Value)
  /-- any other thing, by what is true of its one object (a def of one's own: SetO a S n := HO.ext fun h => ..) -/
  | ext (φ : Heap → Prop)

abbrev Hp := Addr → Option HO
def upd (H : Hp) (a : Addr) (o : HO) : Hp := fun b => if b = a then some o else H b
theorem upd_same {H : Hp} {a : Addr} {o : HO} : upd H a o a = some o := by unfold upd; rw [if_pos rfl]
theorem upd_ne {H : Hp} {a b : Addr} {o : HO} (h : b ≠ a) : upd H a o b = H b := by unfold upd; rw [if_neg h]
theorem upd_upd {H : Hp} {a : Addr} {o u : HO} : upd (upd H a o) a u = upd H a u := by
  funext b; unfold upd; split <;> rfl
/-- two objects of different content stand apart -/
theorem ne_of {H : Hp} {a b : Addr} {o u : HO} (h : H a = some o) (h' : H b = some u) (d : o ≠ u) : a ≠ b := by
  intro e; subst e; rw [h] at h'; exact d (Option.some.inj h')
theorem ne_of_none {H : Hp} {a b : Addr} {o : HO} (h : H a = some o) (h' : H b = none) : a ≠ b := by
  intro e; subst e; rw [h] at h'; cases h'

section
variable (P : Program) (w : World)
def ObjOk (H : Hp) (h : Heap) (a : Addr) : HO → Prop
  | .lst xs => xs.length ≤ sizeLine ∧ ∃ (its : List Value) (n : Nat), Vals xs its ∧ h.get? a = some { cls := .type "list", data := .seq its.toArray n }
  | .tup xs => xs.length ≤ sizeLine ∧ ∃ its : List Value, Vals xs its ∧ IsTup h a its.toArray
  | .dK kvs => kvs.length ≤ sizeLine ∧ (a == sysModules) = false ∧ ∃ vs, KV kvs vs ∧ h.DictOf (mixKind P w) a vs
  | .dT kvs => kvs.length ≤ sizeLine ∧ (a == sysModules) = false ∧ ∃ xs : List (List Key × Addr × Value),
      Paired (fun (p : List Key × V) (q : List Key × Addr × Value) => p.1 = q.1 ∧ H q.2.1 = some (.tup (p.1.map kV)) ∧ RelV p.2 q.2.2) kvs xs ∧
      ∃ o es ep, h.get? a = some o ∧ o.ExactDict ∧ o.data = .dict es ep ∧ es.toList = xs.map (entryOfKey (tupleKind (mixKind P w))) ∧ (xs.map (·.1)).Nodup
  | .set S n => h.SetOf (intKind P w) a S n
  | .ins C dx fs => H dx = some (.own a) ∧ fs.length ≤ 1000 ∧ dx ≠ a ∧ h.get? a = some (PySem.W.instObj C dx) ∧
      ∃ mA, h.Ns1 dx mA ∧ (∀ f, RelO (fs.lookup f) (mA f)) ∧ PySem.Within mA (fs.map (·.1))
  | .own _ => ∃ o, h.get? a = some o
  | .xd fs => ∃ mA, h.Ns1 a mA ∧ ∀ f, RelO (fs.lookup f) (mA f)
  | .rng lo hi => ∃ t u v, h.get? a = some { cls := .type "range", data := .fields #[.int lo t, .int hi u, .int 1 v] }
  | .frz o u => h.get? a = some o ∧ ObjOk H h a u
  | .tbl ps => h.get? a = some { cls := .none, data := .fields ps }
  | .met f x => h.get? a = some (PySem.W.methodObj (.ref f) (.ref x))
  | .ext φ => φ h ∧ (∃ o, h.get? a = some o) ∧ ∀ h1 h2 : Heap, φ h1 → (∀ o, h1.get? a = some o → h2.get? a = some o) → φ h2
/-- the abstract heap is held -/
def HOk (H : Hp) (h : Heap) : Prop := ∀ a o, H a = some o → ObjOk P w H h a o
end

section
variable {P : Program} {w : World} {H H' : Hp} {h h' : Heap} {a : Addr} {o : HO}
theorem ObjOk.lt (x : ObjOk P w H h a o) : a < h.objs.size := by
  cases o with
  | lst xs => obtain ⟨_, _, _, _, e⟩ := x; exact Heap.lt_size e
  | tup xs => obtain ⟨_, _, _, p⟩ := x; exact p.lt
  | dK kvs => obtain ⟨_, _, _, _, o, _, _, e, _⟩ := x; exact Heap.lt_size e
  | dT kvs => obtain ⟨_, _, _, _, o, _, _, e, _⟩ := x; exact Heap.lt_size e
  | set S n => obtain ⟨o, _, _, _, e, _⟩ := x; exact Heap.lt_size e
  | ins C dx fs => obtain ⟨_, _, _, e, _⟩ := x; exact Heap.lt_size e
  | own y => obtain ⟨_, e⟩ := x; exact Heap.lt_size e
  | xd fs => obtain ⟨_, ⟨_, _, _, e, _⟩, _⟩ := x; exact Heap.lt_size e
  | rng lo hi => obtain ⟨_, _, _, e⟩ := x; exact Heap.lt_size e
  | frz ob u => obtain ⟨e, _⟩ := x; exact Heap.lt_size e
  | tbl ps => exact Heap.lt_size (show h.get? a = some _ from x)
  | met f y => exact Heap.lt_size (show h.get? a = some _ from x)
  | ext φ => obtain ⟨_, ⟨_, e⟩, _⟩ := x; exact Heap.lt_size e
theorem Paired.mapP {α β : Type} {F G : α → β → Prop} : ∀ {l₁ : List α} {l₂ : List β}, Paired F l₁ l₂ → (∀ a b, F a b → G a b) → Paired G l₁ l₂
  | _, _, .nil, _ => .nil
  | _, _, .cons r t, f => .cons (f _ _ r) (Paired.mapP t f)
theorem Paired.imp' {α β : Type} {F G : α → β → Prop} (f : ∀ a b, F a b → G a b) {l₁ : List α} {l₂ : List β} (r : Paired F l₁ l₂) : Paired G l₁ l₂ := Paired.mapP r f
/-- what an object's description leans on: its own object, its own dict, the tuples -/
theorem ObjOk.stay (x : ObjOk P w H h a o) (k : ∀ b u, (b = a ∨ H b = some (.own a)) → h.get? b = some u → h'.get? b = some u)
    (ho : ∀ b, H b = some (.own a) → H' b = some (.own a)) (ht : ∀ b xs, H b = some (.tup xs) → H' b = some (.tup xs)) : ObjOk P w H' h' a o := by
  induction o with
  | lst xs => obtain ⟨z, its, n, r, e⟩ := x; exact ⟨z, its, n, r, k _ _ (.inl rfl) e⟩
  | tup xs => obtain ⟨z, its, r, ob, e, c⟩ := x; exact ⟨z, its, r, ob, k _ _ (.inl rfl) e, c⟩
  | dK kvs => obtain ⟨z, y, vs, r, ob, es, ep, e, c⟩ := x; exact ⟨z, y, vs, r, ob, es, ep, k _ _ (.inl rfl) e, c⟩
  | dT kvs =>
    obtain ⟨z, y, xs, r, ob, es, ep, e, c⟩ := x
    exact ⟨z, y, xs, Paired.mapP r fun p q z => ⟨z.1, ht _ _ z.2.1, z.2.2⟩, ob, es, ep, k _ _ (.inl rfl) e, c⟩
  | set S n => obtain ⟨ob, es, ep, t, e, c⟩ := x; exact ⟨ob, es, ep, t, k _ _ (.inl rfl) e, c⟩
  | ins C dx fs =>
    obtain ⟨d, z, ne, e, mA, ⟨od, es, ep, e2, c⟩, r⟩ := x
    exact ⟨ho _ d, z, ne, k _ _ (.inl rfl) e, mA, ⟨od, es, ep, k _ _ (.inr d) e2, c⟩, r⟩
  | own y => obtain ⟨ob, e⟩ := x; exact ⟨ob, k _ _ (.inl rfl) e⟩
  | xd fs => obtain ⟨mA, ⟨od, es, ep, e, c⟩, r⟩ := x; exact ⟨mA, ⟨od, es, ep, k _ _ (.inl rfl) e, c⟩, r⟩
  | rng lo hi => obtain ⟨t, u, v, e⟩ := x; exact ⟨t, u, v, k _ _ (.inl rfl) e⟩
  | frz ob u ih => obtain ⟨e, q⟩ := x; exact ⟨k _ _ (.inl rfl) e, ih q⟩
  | tbl ps =>
    have e : h.get? a = some { cls := .none, data := .fields ps } := x
    show h'.get? a = some { cls := .none, data := .fields ps }
    exact k a _ (.inl rfl) e
  | met f y =>
    have e : h.get? a = some (PySem.W.methodObj (.ref f) (.ref y)) := x
    show h'.get? a = some (PySem.W.methodObj (.ref f) (.ref y))
    exact k a _ (.inl rfl) e
  | ext φ => obtain ⟨p, ⟨o, e⟩, st⟩ := x; exact ⟨st _ _ p fun o q => k _ _ (.inl rfl) q, ⟨o, k _ _ (.inl rfl) e⟩, st⟩
theorem HOk.lt (x : HOk P w H h) (e : H a = some o) : a < h.objs.size := (x a o e).lt
theorem HOk.fresh (x : HOk P w H h) (e : h.objs.size ≤ a) : H a = none := by
  cases q : H a with
  | none => rfl
  | some u => exact absurd (Nat.lt_of_lt_of_le (x.lt q) e) (Nat.lt_irrefl _)
/-- every object of the heap is kept -/
theorem HOk.kept (x : HOk P w H h) (k : ∀ b u, h.get? b = some u → h'.get? b = some u) : HOk P w H h' := fun a o e =>
  (x a o e).stay (fun b u _ q => k b u q) (fun _ q => q) fun _ _ q => q
/-- a new object is laid and tracked -/
theorem HOk.laid (x : HOk P w H h) (k : ∀ b u, h.get? b = some u → h'.get? b = some u) (hp : h.objs.size ≤ a) (new : ObjOk P w (upd H a o) h' a o) : HOk P w (upd H a o) h' := fun b u e => by
  have hn := x.fresh hp
  by_cases hb : b = a
  · subst hb; rw [upd_same] at e; cases e; exact new
  · rw [upd_ne hb] at e
    exact (x b u e).stay (fun c v _ q => k c v q) (fun c q => by rw [upd_ne (ne_of_none q hn)]; exact q) fun c xs q => by rw [upd_ne (ne_of_none q hn)]; exact q
end

/-- what may be read as u: it is u, or a known u -/
def Rd (H : Hp) (a : Addr) (u : HO) : Prop := H a = some u ∨ ∃ o, H a = some (.frz o u)
theorem Rd.of {H : Hp} {a : Addr} {u : HO} (h : H a = some u) : Rd H a u := .inl h
theorem Rd.ok {P : Program} {w : World} {H : Hp} {h : Heap} {a : Addr} {u : HO} (r : Rd H a u) (x : HOk P w H h) : ObjOk P w H h a u := by
  rcases r with r | ⟨o, r⟩
  · exact x a u r
  · obtain ⟨_, q⟩ := x a _ r
    exact q
/-- what may be written -/
def Mut : Option HO → Prop
  | some (.lst _) => True
  | some (.dK _) => True
  | some (.dT _) => True
  | some (.set _ _) => True
  | some (.ins _ _ _) => True
  | some (.ext _) => True
  | _ => False
section
variable {P : Program} {w : World} {H : Hp} {h h' : Heap} {x e : Addr} {o' : HO}
/-- the object at e is changed: x itself, or the dict of the instance x -/
theorem HOk.write (ok : HOk P w H h) (mu : Mut (H x)) (he : e = x ∨ H e = some (.own x)) (k : ∀ b u, b ≠ e → h.get? b = some u → h'.get? b = some u) (heo : ∃ u, h'.get? e = some u)
    (new : ObjOk P w (upd H x o') h' x o') : HOk P w (upd H x o') h' := fun b u q => by
  have nown : ∀ c y, H c = some (.own y) → c ≠ x := fun c y r z => by subst z; rw [r] at mu; exact mu
  have ntup : ∀ c xs, H c = some (.tup xs) → c ≠ x := fun c xs r z => by subst z; rw [r] at mu; exact mu
  by_cases hb : b = x
  · subst hb; rw [upd_same] at q; cases q; exact new
  · rw [upd_ne hb] at q
    by_cases hbe : b = e
    · have q' : H b = some (.own x) := by
        rcases he with z | z
        · exact absurd (hbe.trans z) hb
        · rw [hbe]; exact z
      rw [q] at q'; cases q'
      obtain ⟨v, hv⟩ := heo
      exact ⟨v, by rw [hbe]; exact hv⟩
    · refine (ok b u q).stay (fun c v hc r => k c v ?_ r) (fun c r => by rw [upd_ne (nown c b r)]; exact r) fun c xs r => by rw [upd_ne (ntup c xs r)]; exact r
      rcases hc with rfl | hc
      · exact hbe
      · rintro rfl
        rcases he with z | z
        · exact nown c b hc z
        · rw [hc] at z; cases z; exact hb rfl
end

/-! ### kept unless tracked; of the frames at fs (the callers') the slots may change (an exception that passes writes there); of the records at ex (iterators) nothing is said -/
structure Un (fs ex : List Addr) (H H' : Hp) (h h' : Heap) : Prop where
  keep : ∀ b o, h.get? b = some o → H b = none → b ∉ fs → b ∉ ex → h'.get? b = some o
  slot : ∀ b o, h.get? b = some o → H b = none → b ∈ fs → b ∉ ex → ∃ sl, h'.get? b = some { o with slots := sl }
  free : ∀ b o, h.get? b = some o → H b = none → b ∉ ex → H' b = none
  there : ∀ b o, h.get? b = some o → b ∉ ex → ∃ o', h'.get? b = some o'
  tups : ∀ b xs, H b = some (.tup xs) → H' b = some (.tup xs)
  frzs : ∀ b o u, H b = some (.frz o u) → H' b = some (.frz o u)
  tbls : ∀ b ps, H b = some (.tbl ps) → ∃ more, H' b = some (.tbl (ps ++ more))
section
variable {fs fs' ex ex' : List Addr} {H H1 H2 : Hp} {h h1 h2 h' : Heap} {a x e : Addr} {o : HO}
theorem Un.any (u : Un fs ex H H1 h h1) {b : Addr} {ob : Obj} (q : h.get? b = some ob) (n : H b = none) (hx : b ∉ ex) : ∃ sl, h1.get? b = some { ob with slots := sl } := by
  by_cases hb : b ∈ fs
  · exact u.slot b ob q n hb hx
  · exact ⟨ob.slots, u.keep b ob q n hb hx⟩
theorem Un.trans (a : Un fs ex H H1 h h1) (b : Un fs ex H1 H2 h1 h2) : Un fs ex H H2 h h2 where
  keep := fun c ob q n hc hx => b.keep c ob (a.keep c ob q n hc hx) (a.free c ob q n hx) hc hx
  slot := fun c ob q n hc hx => by
    obtain ⟨sl, e1⟩ := a.slot c ob q n hc hx
    obtain ⟨sl', e2⟩ := b.slot c _ e1 (a.free c ob q n hx) hc hx
    exact ⟨sl', e2⟩
  free := fun c ob q n hx => by
    obtain ⟨o', e1⟩ := a.there c ob q hx
    exact b.free c o' e1 (a.free c ob q n hx) hx
  there := fun c ob q hx => by
    obtain ⟨o', e1⟩ := a.there c ob q hx
    exact b.there c o' e1 hx
  tups := fun c xs q => b.tups c xs (a.tups c xs q)
  frzs := fun c ob xs q => b.frzs c ob xs (a.frzs c ob xs q)
  tbls := fun c ps q => by
    obtain ⟨m1, e1⟩ := a.tbls c ps q
    obtain ⟨m2, e2⟩ := b.tbls c _ e1
    exact ⟨m1 ++ m2, by rw [e2, Array.append_assoc]⟩
theorem Un.kept (k : ∀ b u, h.get? b = some u → h'.get? b = some u) : Un fs ex H H h h' :=
  ⟨fun b ob q _ _ _ => k b ob q, fun b ob q _ _ _ => ⟨ob.slots, k b ob q⟩, fun _ _ _ n _ => n, fun b ob q _ => ⟨ob, k b ob q⟩, fun _ _ q => q, fun _ _ _ q => q, fun _ ps q => ⟨#[], by rw [q]; simp⟩⟩
theorem Un.refl : Un fs ex H H h h := Un.kept fun _ _ q => q
theorem Un.laid (k : ∀ b u, h.get? b = some u → h'.get? b = some u) (hp : h.objs.size ≤ a) (hn : H a = none) : Un fs ex H (upd H a o) h h' where
  keep := fun b u q _ _ _ => k b u q
  slot := fun b u q _ _ _ => ⟨u.slots, k b u q⟩
  free := fun b u q n _ => by rw [upd_ne (Nat.ne_of_lt (Nat.lt_of_lt_of_le (Heap.lt_size q) hp))]; exact n
  there := fun b u q _ => ⟨u, k b u q⟩
  tups := fun b xs q => by rw [upd_ne (ne_of_none q hn)]; exact q
  frzs := fun b u xs q => by rw [upd_ne (ne_of_none q hn)]; exact q
  tbls := fun b ps q => ⟨#[], by rw [upd_ne (ne_of_none q hn), q]; simp⟩
theorem Un.write (mu : Mut (H x)) (he : e = x ∨ H e = some (.own x)) (k : ∀ b u, b ≠ e → h.get? b = some u → h'.get? b = some u) (heo : ∃ u, h'.get? e = some u) : Un fs ex H (upd H x o) h h' := by
  have hx : ∀ b, H b = none → b ≠ x := fun b n z => by subst z; rw [n] at mu; exact mu
  have hb : ∀ b, H b = none → b ≠ e := fun b n z => by
    subst z
    rcases he with r | r
    · exact hx b n r
    · rw [n] at r; cases r
  have hm : ∀ b u, H b = some u → ¬ Mut (some u) → b ≠ x := fun b u q nm z => by subst z; rw [q] at mu; exact nm mu
  refine ⟨fun b u q n _ _ => k b u (hb b n) q, fun b u q n _ _ => ⟨u.slots, k b u (hb b n) q⟩, fun b u q n _ => by rw [upd_ne (hx b n)]; exact n, fun b u q _ => ?_,
    fun b xs q => by rw [upd_ne (hm b _ q fun z => z)]; exact q, fun b u xs q => by rw [upd_ne (hm b _ q fun z => z)]; exact q, fun b ps q => ⟨#[], by rw [upd_ne (hm b _ q fun z => z), q]; simp⟩⟩
  by_cases hbe : b = e
  · subst hbe; exact heo
  · exact ⟨u, k b u hbe q⟩
theorem Un.mono (u : Un fs ex H H1 h h1) (hs : ∀ b ∈ fs, b ∈ fs') (hx : ∀ b ∈ ex, b ∈ ex') : Un fs' ex' H H1 h h1 :=
  ⟨fun b ob q n hb he => u.keep b ob q n (fun z => hb (hs b z)) fun z => he (hx b z), fun _ _ q n _ he => u.any q n fun z => he (hx _ z), fun b ob q n he => u.free b ob q n fun z => he (hx b z), fun b ob q he => u.there b ob q fun z => he (hx b z), u.tups, u.frzs, u.tbls⟩
end

/-! ### the heap without what is tracked -/
def trk (h : Heap) (H : Hp) : List Addr := (List.range h.objs.size).filter fun a => (H a).isSome
def hidT (h : Heap) (H : Hp) : Heap := PySem.W.hideAll h (trk h H)
theorem hidT_size (h : Heap) (H : Hp) : (hidT h H).objs.size = h.objs.size := PySem.W.hideAll_size _ _
theorem hidT_get {h : Heap} {H : Hp} {b : Addr} {o : Obj} (e : h.get? b = some o) (n : H b = none) : (hidT h H).get? b = some o :=
  PySem.W.hideAll_get _ e fun hm => by
    have q : (H b).isSome = true := (List.mem_filter.mp hm).2
    rw [n] at q; simp at q
theorem of_hidT {h : Heap} {H : Hp} {b : Addr} {o : Obj} (e : (hidT h H).get? b = some o) : h.get? b = some o ∧ H b = none := by
  have e' : h.get? b = some o := PySem.W.of_hideAll (trk h H) e
  refine ⟨e', ?_⟩
  cases q : H b with
  | none => rfl
  | some x =>
    have hm : b ∈ trk h H := List.mem_filter.mpr ⟨List.mem_range.mpr (Heap.lt_size e'), by simp [q]⟩
    have z : (hidT h H).get? b = none := PySem.W.hideAll_none (trk h H) hm
    rw [z] at e; cases e

/-! ### OpenK's ledger, filled with every new object but one -/
def allNews (g h : Heap) (L : Addr) : List (Addr × Obj) := (List.range h.objs.size).filterMap fun a => if a = L ∨ (g.get? a).isSome = true then none else (h.get? a).map fun o => (a, o)
theorem mem_allNews {g h : Heap} {L a : Addr} {o : Obj} (h1 : a ≠ L) (h2 : g.get? a = none) (h3 : h.get? a = some o) : (a, o) ∈ allNews g h L :=
  List.mem_filterMap.mpr ⟨a, List.mem_range.mpr (Heap.lt_size h3), by simp [h1, h2, h3]⟩
theorem of_mem_allNews {g h : Heap} {L : Addr} {p : Addr × Obj} (hp : p ∈ allNews g h L) : p.1 ≠ L ∧ g.get? p.1 = none ∧ h.get? p.1 = some p.2 := by
  obtain ⟨b, _, e⟩ := List.mem_filterMap.mp hp
  split at e
  · cases e
  · rename_i hn
    cases q : h.get? b with
    | none => rw [q] at e; simp at e
    | some u =>
      rw [q] at e
      simp only [Option.map_some, Option.some.injEq] at e
      subst e
      refine ⟨fun z => hn (.inl z), ?_, q⟩
      show g.get? b = none
      cases r : g.get? b with
      | none => rfl
      | some v => exact (hn (.inr (by simp [r]))).elim
def rest (g h : Heap) (L d : Addr) : List (Addr × Obj) := (allNews g h L).filter fun p => decide (p.1 ≠ d)
theorem rest_ne {g h : Heap} {L d : Addr} : ∀ p ∈ rest g h L d, p.1 ≠ d := fun p hp => of_decide_eq_true (List.mem_filter.mp hp).2
theorem mem_rest {g h : Heap} {L d a : Addr} {o : Obj} (h1 : a ≠ L) (h2 : g.get? a = none) (h3 : h.get? a = some o) (h4 : a ≠ d) : (a, o) ∈ rest g h L d :=
  List.mem_filter.mpr ⟨mem_allNews h1 h2 h3, decide_eq_true h4⟩
theorem news_all {g h : Heap} {L : Addr} : News g L h (allNews g h L) := fun p hp => let ⟨a, b, c⟩ := of_mem_allNews hp; ⟨c, a, b⟩
theorem news_at {g h : Heap} {L d : Addr} {o : Obj} (h1 : d ≠ L) (h2 : g.get? d = none) (h3 : h.get? d = some o) : News g L h ((d, o) :: rest g h L d) := fun p hp => by
  rcases List.mem_cons.mp hp with rfl | hp
  · exact ⟨h3, h1, h2⟩
  · exact news_all p (List.mem_filter.mp hp).1
/-- behind a rule that changed d alone: all else but the frame is kept -/
theorem kept_of_news {g h h' : Heap} {L d : Addr} {m : Str → Option Value} (k : ∀ b o, g.get? b = some o → h.get? b = some o) (F : Fr g L h' m) (N : News g L h' (rest g h L d)) :
    ∀ b o, b ≠ L → b ≠ d → h.get? b = some o → h'.get? b = some o := fun b o h1 h2 e => by
  cases q : g.get? b with
  | some u =>
    have := k b u q
    rw [e] at this; cases this
    exact F.keep b _ q
  | none => exact (N (b, o) (mem_rest h1 q e h2)).1
end L2

namespace L2
open PySem PySem.Spec PyProof.Rows

/-- the module's facts, over the base: the heap at the law's entry without what is tracked there -/
structure Mod (K : PySem.W.Frag) (mg : Str → Option Value) (base : Heap) : Prop where
  kin : K.In base
  glob : base.Ns mainGlobals mg
  blt : ∃ mb, base.Ns builtinsNs mb ∧ ∀ x : Str, x ≠ "__name__" → mb x = bootBuiltins x
  nolimit : base.NoLimit

/-- the context: a def's body (or a comprehension's block) running. base: fixed through the whole law; s₀, H₀: the entry; outer: the frames whose slots others may change (a def's callers); stack: all frames that run;
   ex: iterators that were made ahead of the entry and are walked here (a comprehension's); fn: the names whose cells were made at the entry (a def: all; a comprehension's block: its own); calm: not within an except suite; pn: pins that every state bears; xe: what is wanted of an exception that leaves the code -/
structure Cx where
  prog : Program
  w : World
  K : PySem.W.Frag
  mg : Str → Option Value
  base : Heap
  A : Around
  N : List Str
  s₀ : Shared
  H₀ : Hp
  env : Env
  outer : List Env
  stack : List Env
  ex : List Addr
  fn : Str → Bool
  calm : Bool
  pn : List (Addr × Obj)
  xe : Value → Shared → Prop
/-- the callers' frames -/
def frs (l : List Env) : List Addr := l.filterMap (·.frame)
abbrev Cx.fs (X : Cx) : List Addr := frs X.outer

def Vis (sc : Scope) (x : Str) : Prop := sc.names.lookup x = some .local ∨ sc.names.lookup x = some .cell ∨ sc.names.lookup x = some .free
def Loc (sc : Scope) (x : Str) : Prop := sc.names.lookup x = some .local ∨ sc.names.lookup x = some .cell
def Look (env : Env) (h : Heap) (m : Str → Option Value) (x : Str) (u : Value) : Prop :=
  (env.kindOf x = some .local ∧ m x = some u) ∨ ((env.kindOf x = some .cell ∨ env.kindOf x = some .free) ∧ ∃ c, env.cells.lookup x = some c ∧ h.IsCell c (some u))

structure Cx.Ok (X : Cx) : Prop where
  mod : Mod X.K X.mg X.base
  kind : X.env.scope.kind = .function
  glob : X.env.globals = mainGlobals
  blt : X.env.builtins = builtinsNs
  above : X.s₀.heap.objs.size ≤ X.env.locals
  inj : ∀ x y c, X.env.cells.lookup x = some c → X.env.cells.lookup y = some c → x = y
  has : ∀ x, (X.env.kindOf x = some .cell ∨ X.env.kindOf x = some .free) → ∃ c, X.env.cells.lookup x = some c
  cab : ∀ x c, X.fn x = true → X.env.cells.lookup x = some c → X.s₀.heap.objs.size ≤ c
  hd : X.calm = true → X.A.handled = none
  frames : X.A.frames = some X.stack
  stk : X.stack = X.outer ∨ (X.stack = X.env :: X.outer ∧ X.env.frame = some X.env.locals)
  exf : ∀ b ∈ X.ex, b ≠ X.env.locals ∧ ∀ x c, X.env.cells.lookup x = some c → c ≠ b
  bs : ∀ b o, X.base.get? b = some o → X.s₀.heap.get? b = some o ∧ X.H₀ b = none
  bsz : X.base.objs.size ≤ X.s₀.heap.objs.size
  noex : ∀ b o, X.base.get? b = some o → b ∉ X.ex
  exfs : ∀ b ∈ X.ex, b ∉ X.fs
  funs : X.s₀.heap.FunFrames X.base X.outer
  frf : ∀ b ∈ X.fs, X.H₀ b = none

structure Inv (X : Cx) (pins : List (Addr × Obj)) (σ : List (Option V)) (H : Hp) (s : Shared) : Prop where
  ok : X.Ok
  os : s.os = X.s₀.os
  bare : AllBare s.gens
  base : Un X.fs X.ex X.H₀ H X.s₀.heap s.heap
  loc : ∃ m, s.heap.Ns X.env.locals m ∧ ∀ (i : Nat) (x : Str) (v : V), X.N[i]? = some x → σ[i]? = some (some v) → Vis X.env.scope x → ∃ u, RelV v u ∧ Look X.env s.heap m x u
  cell : ∀ x c, X.env.cells.lookup x = some c → ∃ v, s.heap.IsCell c v
  free : H X.env.locals = none
  freeC : ∀ x c, X.env.cells.lookup x = some c → H c = none
  pin : ∀ p ∈ X.pn ++ pins, s.heap.get? p.1 = some p.2 ∧ H p.1 = none ∧ p.1 ≠ X.env.locals ∧ p.1 ∉ X.fs ∧ ∀ v, p.2.data ≠ .cell v
  hok : HOk X.prog X.w H s.heap
  len : σ.length = X.N.length

section
variable {X : Cx} {pins : List (Addr × Obj)} {σ : List (Option V)} {H H' : Hp} {s : Shared} {h' : Heap}

theorem Cx.Ok.nofr (ok : X.Ok) {b : Addr} {o : Obj} (e : X.base.get? b = some o) : b ∉ X.fs := fun hb => by
  have := (ok.funs.mem hb).1
  rw [e] at this; cases this
theorem Inv.bs (I : Inv X pins σ H s) : ∀ b o, X.base.get? b = some o → s.heap.get? b = some o ∧ H b = none := fun b o e =>
  ⟨I.base.keep b o (I.ok.bs b o e).1 (I.ok.bs b o e).2 (I.ok.nofr e) (I.ok.noex b o e), I.base.free b o (I.ok.bs b o e).1 (I.ok.bs b o e).2 (I.ok.noex b o e)⟩
theorem Inv.bk (I : Inv X pins σ H s) : ∀ b o, X.base.get? b = some o → s.heap.get? b = some o := fun b o e => (I.bs b o e).1
theorem Inv.mod (I : Inv X pins σ H s) : Mod X.K X.mg X.base := I.ok.mod
theorem Inv.kIn (I : Inv X pins σ H s) : X.K.In s.heap := I.ok.mod.kin.keeps I.bk
theorem Inv.nolimit (I : Inv X pins σ H s) : s.heap.NoLimit := I.ok.mod.nolimit.keeps I.bk
/-- the frame over the base: for OpenK's rules (K.In X.base is I.mod.kin) -/
theorem Inv.fr (I : Inv X pins σ H s) : ∃ m, Fr X.base X.env.locals s.heap m :=
  let ⟨m, hn, _⟩ := I.loc
  ⟨m, hn, I.bk, Nat.le_trans I.ok.bsz I.ok.above⟩
theorem Inv.lt (I : Inv X pins σ H s) : X.env.locals < s.heap.objs.size := let ⟨_, hn, _⟩ := I.loc; hn.lt
theorem Inv.sz (I : Inv X pins σ H s) : X.s₀.heap.objs.size ≤ s.heap.objs.size := Nat.le_trans I.ok.above (Nat.le_of_lt I.lt)
theorem Inv.nofs (I : Inv X pins σ H s) {a : Addr} (h : s.heap.objs.size ≤ a) : a ∉ X.fs := fun hb => by
  obtain ⟨_, o, ho, _⟩ := I.ok.funs.mem hb
  exact absurd (Nat.lt_of_lt_of_le (Heap.lt_size ho) (Nat.le_trans I.sz h)) (Nat.lt_irrefl _)
theorem Inv.cne (I : Inv X pins σ H s) : ∀ x c, X.env.cells.lookup x = some c → c ≠ X.env.locals := fun x c e z => by
  obtain ⟨v, o, ho, hd⟩ := I.cell x c e
  obtain ⟨m, ⟨o', es, ep, ho', hd', _⟩, _⟩ := I.loc
  rw [z, ho'] at ho; cases ho; rw [hd'] at hd; cases hd
theorem Inv.funs (I : Inv X pins σ H s) : s.heap.FunFrames X.base X.outer := by
  have all : ∀ (l : List Env), (∀ b ∈ frs l, b ∈ X.fs) → X.s₀.heap.FunFrames X.base l → s.heap.FunFrames X.base l := by
    intro l
    induction l with
    | nil => intro _ _; trivial
    | cons env r ih =>
      intro hs hl
      obtain ⟨hk, ⟨L, o, hf, hn, ho, hd⟩, hr⟩ := hl
      have hL : L ∈ X.fs := hs L (by unfold frs; rw [List.filterMap_cons, hf]; exact List.mem_cons_self)
      obtain ⟨sl, e⟩ := I.base.slot L o ho (I.ok.frf L hL) hL fun z => I.ok.exfs L z hL
      exact ⟨hk, ⟨L, _, hf, hn, e, hd⟩, ih (fun b hb => hs b (by unfold frs; rw [List.filterMap_cons, hf]; exact List.mem_cons_of_mem _ hb)) hr⟩
  exact all X.outer (fun _ hb => hb) I.ok.funs

/-- the frames that run, for a call -/
theorem Inv.stack (I : Inv X pins σ H s) : s.heap.FunFrames X.base X.stack := by
  rcases I.ok.stk with e | ⟨e, hf⟩
  · rw [e]; exact I.funs
  · rw [e]
    obtain ⟨m, hn, _⟩ := I.loc
    refine .cons (by rw [I.ok.kind]; decide) hf hn ?_ I.funs
    exact Heap.get?_none_of_le (Nat.le_trans I.ok.bsz I.ok.above)
theorem Inv.stkSub (I : Inv X pins σ H s) : ∀ b ∈ frs X.stack, b ∈ X.env.locals :: X.fs := fun b hb => by
  rcases I.ok.stk with e | ⟨e, hf⟩
  · rw [e] at hb; exact List.mem_cons_of_mem _ hb
  · rw [e] at hb
    unfold frs at hb
    rw [List.filterMap_cons, hf] at hb
    exact hb
theorem Inv.stkFree (I : Inv X pins σ H s) : ∀ b ∈ frs X.stack, H b = none := fun b hb => by
  rcases List.mem_cons.mp (I.stkSub b hb) with e | hb
  · rw [e]; exact I.free
  · obtain ⟨_, o, ho, _⟩ := I.ok.funs.mem hb
    exact I.base.free b o ho (I.ok.frf b hb) fun z => I.ok.exfs b z hb

/-- THE STEP: the untracked objects but the frame and the records at ch are kept (the callers' frames up to slots), the frame's map is kept, the new abstract heap is held -/
theorem Inv.step {g' : Array GenState} {t' : Nat} {d' : Drawn} {ch : List Addr} (I : Inv X pins σ H s)
    (hch : ∀ b ∈ ch, (b ∈ X.ex ∨ X.s₀.heap.objs.size ≤ b) ∧ b ≠ X.env.locals ∧ (∀ x c, X.env.cells.lookup x = some c → c ≠ b) ∧ ∀ p ∈ X.pn ++ pins, p.1 ≠ b)
    (keep : ∀ b o, b ≠ X.env.locals → b ∉ X.fs → b ∉ ch → s.heap.get? b = some o → H b = none → h'.get? b = some o)
    (slot : ∀ b o, b ≠ X.env.locals → b ∈ X.fs → b ∉ ch → s.heap.get? b = some o → H b = none → ∃ sl, h'.get? b = some { o with slots := sl }) (free : ∀ b o, b ∉ ch → s.heap.get? b = some o → H b = none → H' b = none)
    (there : ∀ b o, b ∉ ch → s.heap.get? b = some o → ∃ o', h'.get? b = some o')
    (tups : ∀ b xs, H b = some (.tup xs) → H' b = some (.tup xs)) (frzs : ∀ b o u, H b = some (.frz o u) → H' b = some (.frz o u)) (tbls : ∀ b ps, H b = some (.tbl ps) → ∃ more, H' b = some (.tbl (ps ++ more)))
    (ns : ∀ m, s.heap.Ns X.env.locals m → h'.Ns X.env.locals m) (hok : HOk X.prog X.w H' h') (hg : AllBare g') :
    Inv X pins σ H' { s with heap := h', gens := g', drawn := d', toks := t' } := by
  have neL : ∀ b o, X.s₀.heap.get? b = some o → b ≠ X.env.locals := fun b o e => Nat.ne_of_lt (Nat.lt_of_lt_of_le (Heap.lt_size e) I.ok.above)
  have neC : ∀ b o, X.s₀.heap.get? b = some o → b ∉ X.ex → b ∉ ch := fun b o e hx hb => by
    rcases (hch b hb).1 with z | z
    · exact hx z
    · exact absurd (Nat.lt_of_lt_of_le (Heap.lt_size e) z) (Nat.lt_irrefl _)
  have cellK : ∀ x c, X.env.cells.lookup x = some c → ∀ v, s.heap.IsCell c v → h'.IsCell c v := fun x c e v ⟨o, ho, hd⟩ => by
    have nch : c ∉ ch := fun z => (hch c z).2.2.1 x c e rfl
    by_cases hc : c ∈ X.fs
    · obtain ⟨sl, q⟩ := slot c o (I.cne x c e) hc nch ho (I.freeC x c e)
      exact ⟨_, q, hd⟩
    · exact ⟨o, keep c o (I.cne x c e) hc nch ho (I.freeC x c e), hd⟩
  refine ⟨I.ok, I.os, hg, ⟨fun b o e n hb hx => ?_, fun b o e n hb hx => ?_, fun b o e n hx => ?_, fun b o e hx => ?_, fun b xs e => tups b xs (I.base.tups b xs e), fun b o xs e => frzs b o xs (I.base.frzs b o xs e), fun b ps e => ?_⟩, ?_, fun x c e => ?_, ?_, fun x c e => ?_, fun p hp => ?_, hok, I.len⟩
  · exact keep b o (neL b o e) hb (neC b o e hx) (I.base.keep b o e n hb hx) (I.base.free b o e n hx)
  · obtain ⟨sl, e1⟩ := I.base.slot b o e n hb hx
    obtain ⟨sl', e2⟩ := slot b _ (neL b o e) hb (neC b o e hx) e1 (I.base.free b o e n hx)
    exact ⟨sl', e2⟩
  · obtain ⟨o', e1⟩ := I.base.there b o e hx
    exact free b o' (neC b o e hx) e1 (I.base.free b o e n hx)
  · obtain ⟨o', e1⟩ := I.base.there b o e hx
    exact there b o' (neC b o e hx) e1
  · obtain ⟨m1, e1⟩ := I.base.tbls b ps e
    obtain ⟨m2, e2⟩ := tbls b _ e1
    exact ⟨m1 ++ m2, by rw [e2, Array.append_assoc]⟩
  · obtain ⟨m, hn, hl⟩ := I.loc
    refine ⟨m, ns m hn, fun i x v e1 e2 e3 => ?_⟩
    obtain ⟨u, r, l⟩ := hl i x v e1 e2 e3
    refine ⟨u, r, ?_⟩
    rcases l with l | ⟨k, c, e, z⟩
    · exact .inl l
    · exact .inr ⟨k, c, e, cellK x c e _ z⟩
  · obtain ⟨v, z⟩ := I.cell x c e
    exact ⟨v, cellK x c e v z⟩
  · obtain ⟨m, ⟨o, _, _, ho, _⟩, _⟩ := I.loc
    exact free _ o (fun z => (hch _ z).2.1 rfl) ho I.free
  · obtain ⟨v, o, ho, hd⟩ := I.cell x c e
    exact free c o (fun z => (hch c z).2.2.1 x c e rfl) ho (I.freeC x c e)
  · obtain ⟨e, n, ne, nf, d⟩ := I.pin p hp
    have nch : p.1 ∉ ch := fun z => (hch p.1 z).2.2.2 p hp rfl
    exact ⟨keep p.1 p.2 ne nf nch e n, free p.1 p.2 nch e n, ne, nf, d⟩
/-- .. where the frame's own object is kept too -/
theorem Inv.un {t' : Nat} (I : Inv X pins σ H s) (u : Un X.fs [] H H' s.heap h') (hok : HOk X.prog X.w H' h') : Inv X pins σ H' { s with heap := h', toks := t' } := by
  obtain ⟨m, ⟨o, es, ep, ho, r⟩, _⟩ := id I.loc
  obtain ⟨sl, hL⟩ := u.any ho I.free (by simp)
  exact I.step (g' := s.gens) (d' := s.drawn) (ch := []) (fun _ z => nomatch z) (fun b o _ hb _ e n => u.keep b o e n hb (by simp)) (fun b o _ hb _ e n => u.slot b o e n hb (by simp)) (fun b o _ e n => u.free b o e n (by simp)) (fun b o _ e => u.there b o e (by simp)) u.tups u.frzs u.tbls (fun m' hm => by
    obtain ⟨o', es', ep', ho', r'⟩ := hm
    rw [ho] at ho'; cases ho'
    exact ⟨_, es', ep', hL, r'⟩) hok I.bare
/-- behind a call (or a comprehension's block): the slots of this frame may have changed too, the records at ch may have turned -/
theorem Inv.call {g' : Array GenState} {t' : Nat} {d' : Drawn} {ch : List Addr} (I : Inv X pins σ H s) (u : Un (frs X.stack) ch H H' s.heap h') (hok : HOk X.prog X.w H' h') (hg : AllBare g')
    (hch : ∀ b ∈ ch, (b ∈ X.ex ∨ X.s₀.heap.objs.size ≤ b) ∧ b ≠ X.env.locals ∧ (∀ x c, X.env.cells.lookup x = some c → c ≠ b) ∧ ∀ p ∈ X.pn ++ pins, p.1 ≠ b) :
    Inv X pins σ H' { s with heap := h', gens := g', drawn := d', toks := t' } := by
  obtain ⟨m, ⟨o, es, ep, ho, r⟩, _⟩ := id I.loc
  obtain ⟨sl, hL⟩ := u.any ho I.free fun z => (hch _ z).2.1 rfl
  exact I.step (ch := ch) hch (fun b o hL hb hc e n => u.keep b o e n (fun z => (List.mem_cons.mp (I.stkSub b z)).elim hL hb) hc) (fun b o _ _ hc e n => u.any e n hc) (fun b o hc e n => u.free b o e n hc) (fun b o hc e => u.there b o e hc) u.tups u.frzs u.tbls (fun m' hm => by
    obtain ⟨o', es', ep', ho', r'⟩ := hm
    rw [ho] at ho'; cases ho'
    exact ⟨_, es', ep', hL, r'⟩) hok hg
/-- an untracked record of ours (an iterator) has turned -/
theorem Inv.turned {t' : Nat} {it : Addr} (I : Inv X pins σ H s) (k : ∀ b o, b ≠ it → s.heap.get? b = some o → h'.get? b = some o) (hn : H it = none) (hL : it ≠ X.env.locals)
    (h1 : it ∈ X.ex ∨ X.s₀.heap.objs.size ≤ it) (h2 : ∀ x c, X.env.cells.lookup x = some c → c ≠ it) (h3 : ∀ p ∈ X.pn ++ pins, p.1 ≠ it) : Inv X pins σ H { s with heap := h', toks := t' } := by
  have nit : ∀ b u, H b = some u → b ≠ it := fun b u e z => by rw [z, hn] at e; cases e
  refine I.step (g' := s.gens) (d' := s.drawn) (ch := [it]) (fun b hb => ?_) (fun b o _ _ hc e _ => k b o (fun z => hc (by simp [z])) e) (fun b o _ _ hc e _ => ⟨o.slots, k b o (fun z => hc (by simp [z])) e⟩) (fun _ _ _ _ n => n)
    (fun b o hc e => ⟨o, k b o (fun z => hc (by simp [z])) e⟩) (fun _ _ e => e) (fun _ _ _ e => e) (fun b ps e => ⟨#[], by rw [e]; simp⟩) (fun m hm => ?_) (fun b u e => ?_) I.bare
  · have e : b = it := by simpa using hb
    subst e
    exact ⟨h1, hL, h2, h3⟩
  · obtain ⟨o, es, ep, ho, r⟩ := hm
    exact ⟨o, es, ep, k _ o (Ne.symm hL) ho, r⟩
  · refine (I.hok b u e).stay (fun c v hc q => k c v ?_ q) (fun _ q => q) fun _ _ q => q
    rcases hc with z | z
    · rw [z]; exact nit b u e
    · exact nit c _ z
theorem Inv.tok (I : Inv X pins σ H s) (t : Nat) : Inv X pins σ H { s with toks := t } := I.un (h' := s.heap) (t' := t) Un.refl I.hok
/-- all objects kept -/
theorem Inv.kept {t' : Nat} (I : Inv X pins σ H s) (k : ∀ b u, s.heap.get? b = some u → h'.get? b = some u) : Inv X pins σ H { s with heap := h', toks := t' } := I.un (Un.kept k) (I.hok.kept k)
/-- a new object laid and tracked -/
theorem Inv.laid {a : Addr} {o : HO} {t' : Nat} (I : Inv X pins σ H s) (k : ∀ b u, s.heap.get? b = some u → h'.get? b = some u) (hp : s.heap.objs.size ≤ a) (new : ObjOk X.prog X.w (upd H a o) h' a o) :
    Inv X pins σ (upd H a o) { s with heap := h', toks := t' } := I.un (Un.laid k hp (I.hok.fresh hp)) (I.hok.laid k hp new)
/-- an object written -/
theorem Inv.write {x e : Addr} {o : HO} {t' : Nat} (I : Inv X pins σ H s) (mu : Mut (H x)) (he : e = x ∨ H e = some (.own x)) (k : ∀ b u, b ≠ e → s.heap.get? b = some u → h'.get? b = some u) (heo : ∃ u, h'.get? e = some u)
    (new : ObjOk X.prog X.w (upd H x o) h' x o) : Inv X pins σ (upd H x o) { s with heap := h', toks := t' } := I.un (Un.write mu he k heo) (I.hok.write mu he k heo new)
/-- forgetting slots, pins -/
theorem Inv.weak {σ' : List (Option V)} (I : Inv X pins σ H s) (hl : σ'.length = σ.length) (w : ∀ (i : Nat) v, σ'[i]? = some (some v) → σ[i]? = some (some v)) : Inv X pins σ' H s :=
  ⟨I.ok, I.os, I.bare, I.base, let ⟨m, hn, hl'⟩ := I.loc; ⟨m, hn, fun i x v e1 e2 e3 => hl' i x v e1 (w i v e2) e3⟩, I.cell, I.free, I.freeC, I.pin, I.hok, hl.trans I.len⟩
theorem Inv.pins_of {pins' : List (Addr × Obj)} (I : Inv X pins σ H s) (h : ∀ p ∈ pins', s.heap.get? p.1 = some p.2 ∧ H p.1 = none ∧ p.1 ≠ X.env.locals ∧ p.1 ∉ X.fs ∧ ∀ v, p.2.data ≠ .cell v) : Inv X pins' σ H s :=
  ⟨I.ok, I.os, I.bare, I.base, I.loc, I.cell, I.free, I.freeC, fun p hp => (List.mem_append.mp hp).elim (fun z => I.pin p (List.mem_append_left _ z)) (h p), I.hok, I.len⟩

theorem nodup_ix {N : List Str} (hN : N.Nodup) {i j : Nat} {x : Str} (a : N[i]? = some x) (b : N[j]? = some x) : i = j := by
  obtain ⟨h1, e1⟩ := List.getElem?_eq_some_iff.mp a
  obtain ⟨h2, e2⟩ := List.getElem?_eq_some_iff.mp b
  exact (List.getElem_inj hN).mp (e1.trans e2.symm)

/-- a name is stored; what changed -/
theorem store_ok2 {M : Model} {A : Around} {E : Value → Shared → Prop} {i : Nat} {x : Str} {v : V} {u : Value} {Q : Unit → Shared → Prop} (I : Inv X pins σ H s) (hN : X.N.Nodup) (hi : X.N[i]? = some x) (hx : Loc X.env.scope x) (r : RelV v u)
    (h : ∀ s', Inv X pins (σ.set i (some v)) H s' → (∃ a, Heap.SameBut a s.heap s'.heap ∧ (a = X.env.locals ∨ X.env.cells.lookup x = some a)) → Q () s') (hf : X.fn x = true ∨ X.env.scope.names.lookup x = some .local := by first | exact .inl rfl | exact .inr rfl | assumption) : wpAny M A (storeName X.env x u) Q E s := by
  obtain ⟨m, hn, hl⟩ := id I.loc
  have hcls : (X.env.scope.kind == .class || (X.env.scope.kind == .module && X.env.locals != X.env.globals)) = false := by rw [I.ok.kind]; rfl
  have hiσ : i < σ.length := by rw [I.len]; exact (List.getElem?_eq_some_iff.mp hi).1
  have cne := I.cne
  have tracked : ∀ {a : Addr} {h' : Heap}, (∃ o, s.heap.get? a = some o ∧ H a = none) → Heap.SameBut a s.heap h' → HOk X.prog X.w H h' := fun {a h'} ha hs b ob e => by
    obtain ⟨_, _, hfree⟩ := ha
    refine (I.hok b ob e).stay (fun c w' hc q => (hs.2 c ?_).trans q) (fun _ q => q) fun _ _ q => q
    rintro rfl
    rcases hc with rfl | hc
    · rw [hfree] at e; cases e
    · rw [hfree] at hc; cases hc
  rcases hx with hk | hk
  · refine wpAny_storeName_local hk hn (fun h' hn' hs => ?_) hcls
    obtain ⟨oL, _, _, hoL, _⟩ := id hn
    refine h _ ⟨I.ok, I.os, I.bare, ⟨fun b o e n hb hx => ?_, fun b o e n hb hx => ?_, I.base.free, fun b o e hx => ?_, I.base.tups, I.base.frzs, I.base.tbls⟩, ⟨_, hn', fun j y v' e1 e2 e3 => ?_⟩, fun y c e => ?_, I.free, I.freeC, fun p hp => ?_, tracked ⟨oL, hoL, I.free⟩ hs, by simpa using I.len⟩ ⟨_, hs, .inl rfl⟩
    · exact (hs.2 b (Nat.ne_of_lt (Nat.lt_of_lt_of_le (Heap.lt_size e) I.ok.above))).trans (I.base.keep b o e n hb hx)
    · obtain ⟨sl, e1⟩ := I.base.slot b o e n hb hx
      exact ⟨sl, (hs.2 b (Nat.ne_of_lt (Nat.lt_of_lt_of_le (Heap.lt_size e) I.ok.above))).trans e1⟩
    · obtain ⟨o', e1⟩ := I.base.there b o e hx
      exact ⟨o', (hs.2 b (Nat.ne_of_lt (Nat.lt_of_lt_of_le (Heap.lt_size e) I.ok.above))).trans e1⟩
    · by_cases hj : j = i
      · subst hj
        rw [hi] at e1; cases e1
        rw [List.getElem?_set_self hiσ] at e2
        cases e2
        exact ⟨u, r, .inl ⟨hk, by simp⟩⟩
      · rw [List.getElem?_set_ne (Ne.symm hj)] at e2
        obtain ⟨u', r', q⟩ := hl j y v' e1 e2 e3
        refine ⟨u', r', ?_⟩
        rcases q with ⟨k, e⟩ | ⟨k, c, e, z⟩
        · refine .inl ⟨k, ?_⟩
          have : y ≠ x := fun e => hj (nodup_ix hN e1 (e ▸ hi))
          simp [this, e]
        · exact .inr ⟨k, c, e, z.sameBut hs (cne y c e)⟩
    · obtain ⟨w', z⟩ := I.cell y c e
      exact ⟨w', z.sameBut hs (cne y c e)⟩
    · obtain ⟨e, n, ne, nf, d⟩ := I.pin p hp
      exact ⟨(hs.2 p.1 ne).trans e, n, ne, nf, d⟩
  · have hfn : X.fn x = true := by
      rcases hf with z | z
      · exact z
      · rw [z] at hk; cases hk
    obtain ⟨c, hc⟩ := I.ok.has x (.inl hk)
    obtain ⟨w', z⟩ := I.cell x c hc
    refine wpAny_storeName_cell I.ok.kind hk hc z (fun h' hc' hs => ?_)
    obtain ⟨oc, hoc, hocd⟩ := id z
    refine h { s with heap := h' } ⟨I.ok, I.os, I.bare, ⟨fun b o e n hb hx => ?_, fun b o e n hb hx => ?_, I.base.free, fun b o e hx => ?_, I.base.tups, I.base.frzs, I.base.tbls⟩, ⟨m, hn.sameBut hs (Ne.symm (cne x c hc)), fun j y v' e1 e2 e3 => ?_⟩, fun y c' e => ?_, I.free, I.freeC, fun p hp => ?_, tracked ⟨oc, hoc, I.freeC x c hc⟩ hs, by simpa using I.len⟩ ⟨c, hs, .inr hc⟩
    · exact (hs.2 b (Nat.ne_of_lt (Nat.lt_of_lt_of_le (Heap.lt_size e) (I.ok.cab x c hfn hc)))).trans (I.base.keep b o e n hb hx)
    · obtain ⟨sl, e1⟩ := I.base.slot b o e n hb hx
      exact ⟨sl, (hs.2 b (Nat.ne_of_lt (Nat.lt_of_lt_of_le (Heap.lt_size e) (I.ok.cab x c hfn hc)))).trans e1⟩
    · obtain ⟨o', e1⟩ := I.base.there b o e hx
      exact ⟨o', (hs.2 b (Nat.ne_of_lt (Nat.lt_of_lt_of_le (Heap.lt_size e) (I.ok.cab x c hfn hc)))).trans e1⟩
    · by_cases hj : j = i
      · subst hj
        rw [hi] at e1; cases e1
        rw [List.getElem?_set_self hiσ] at e2
        cases e2
        exact ⟨u, r, .inr ⟨.inl hk, c, hc, hc'⟩⟩
      · rw [List.getElem?_set_ne (Ne.symm hj)] at e2
        obtain ⟨u', r', q⟩ := hl j y v' e1 e2 e3
        refine ⟨u', r', ?_⟩
        rcases q with q | ⟨k, c', e, z'⟩
        · exact .inl q
        · refine .inr ⟨k, c', e, z'.sameBut hs ?_⟩
          rintro rfl
          exact hj (nodup_ix hN e1 (I.ok.inj _ _ _ e hc ▸ hi))
    · by_cases hcc : c' = c
      · subst hcc; exact ⟨_, hc'⟩
      · obtain ⟨w2, z2⟩ := I.cell y c' e
        exact ⟨w2, z2.sameBut hs hcc⟩
    · obtain ⟨e, n, ne, nf, d⟩ := I.pin p hp
      refine ⟨(hs.2 p.1 ?_).trans e, n, ne, nf, d⟩
      intro q
      rw [q, hoc] at e
      have q' : oc = p.2 := Option.some.inj e
      exact d w' (by rw [← q']; exact hocd)
theorem store_ok {M : Model} {A : Around} {E : Value → Shared → Prop} {i : Nat} {x : Str} {v : V} {u : Value} {Q : Unit → Shared → Prop} (I : Inv X pins σ H s) (hN : X.N.Nodup) (hi : X.N[i]? = some x) (hx : Loc X.env.scope x) (r : RelV v u)
    (h : ∀ s', Inv X pins (σ.set i (some v)) H s' → Q () s') (hf : X.fn x = true ∨ X.env.scope.names.lookup x = some .local := by first | exact .inl rfl | exact .inr rfl | assumption) : wpAny M A (storeName X.env x u) Q E s :=
  store_ok2 I hN hi hx r (fun s' I' _ => h s' I') hf
/-- behind a call or a block, the state as it is -/
theorem Inv.call' {s' : Shared} {ch : List Addr} (I : Inv X pins σ H s) (ho : s'.os = s.os) (u : Un (frs X.stack) ch H H' s.heap s'.heap) (hok : HOk X.prog X.w H' s'.heap) (hg : AllBare s'.gens)
    (hch : ∀ b ∈ ch, (b ∈ X.ex ∨ X.s₀.heap.objs.size ≤ b) ∧ b ≠ X.env.locals ∧ (∀ x c, X.env.cells.lookup x = some c → c ≠ b) ∧ ∀ p ∈ X.pn ++ pins, p.1 ≠ b) : Inv X pins σ H' s' := by
  obtain ⟨h', g', d', t', o'⟩ := s'
  have e : o' = s.os := ho
  subst e
  exact I.call (g' := g') (t' := t') (d' := d') u hok hg hch
end

/-! ### the judgements -/
/-- an exception: its class, its own dict's address (where it has one), the abstract heap behind it -/
abbrev XK := Value → Option Addr → Hp → Prop
abbrev St := List (Option V)
abbrev VK := V → Hp → Prop
/-- an expression's reading; a test's; an argument list's -/
abbrev TE := St → Hp → VK → Prop
abbrev TT := St → Hp → (Bool → Hp → Prop) → Prop
abbrev TA := St → Hp → (List V → Hp → Prop) → Prop
/-- what is wanted behind a statement -/
structure Ends where
  nx : St → Hp → Prop
  rt : VK
  bk : St → Hp → Prop := fun _ _ => False
  ct : St → Hp → Prop := fun _ _ => False
abbrev TS := Ends → St → Hp → Prop

def EP (X : Cx) (pins : List (Addr × Obj)) (σ : St) (Q : VK) (u : Value) (s' : Shared) : Prop := ∃ v H', Inv X pins σ H' s' ∧ RelV v u ∧ Q v H'
def TP (X : Cx) (pins : List (Addr × Obj)) (σ : St) (Q : Bool → Hp → Prop) (b : Bool) (s' : Shared) : Prop := ∃ H', Inv X pins σ H' s' ∧ Q b H'
def AP (X : Cx) (pins : List (Addr × Obj)) (σ : St) (Q : List V → Hp → Prop) (us : List Value) (s' : Shared) : Prop := ∃ vs H', Inv X pins σ H' s' ∧ Vals vs us ∧ Q vs H'
def SP (X : Cx) (pins : List (Addr × Obj)) (D : Ends) (f : Flow) (s' : Shared) : Prop :=
  match f with
  | .next => ∃ σ' H', Inv X pins σ' H' s' ∧ D.nx σ' H'
  | .brk => ∃ σ' H', Inv X pins σ' H' s' ∧ D.bk σ' H'
  | .cont => ∃ σ' H', Inv X pins σ' H' s' ∧ D.ct σ' H'
  | .ret u => ∃ v σ' H', Inv X pins σ' H' s' ∧ RelV v u ∧ D.rt v H'

def PE (X : Cx) (e : Expr) (t : TE) : Prop :=
  ∀ (pins : List (Addr × Obj)) (s : Shared) (σ : St) (H : Hp) (Q : VK), Inv X pins σ H s → t σ H Q → wpAny (model X.prog X.w) X.A (eval e X.env) (EP X pins σ Q) X.xe s
def PT (X : Cx) (e : Expr) (t : TT) : Prop :=
  ∀ (pins : List (Addr × Obj)) (s : Shared) (σ : St) (H : Hp) (Q : Bool → Hp → Prop), Inv X pins σ H s → t σ H Q → wpAny (model X.prog X.w) X.A (isTrue e X.env (eval e X.env)) (TP X pins σ Q) X.xe s
/-- a test whatever its 'whole' is (and, or) -/
def PW (X : Cx) (e : Expr) (t : TT) : Prop :=
  ∀ (whole : Sem Value) (pins : List (Addr × Obj)) (s : Shared) (σ : St) (H : Hp) (Q : Bool → Hp → Prop), Inv X pins σ H s → t σ H Q → wpAny (model X.prog X.w) X.A (isTrue e X.env whole) (TP X pins σ Q) X.xe s
theorem PW.pt {X : Cx} {e : Expr} {t : TT} (h : PW X e t) : PT X e t := h _
/-- an argument list (no star), from the left -/
def PA (X : Cx) (es : List Expr) (t : TA) : Prop :=
  ∀ (pos : Pos) (pins : List (Addr × Obj)) (s : Shared) (σ : St) (H : Hp) (Q : List V → Hp → Prop), Inv X pins σ H s → t σ H Q → wpAny (model X.prog X.w) X.A (spliced (backTo pos (starEach es X.env))) (AP X pins σ Q) X.xe s
def PS (X : Cx) (st : Stmt) (t : TS) : Prop :=
  ∀ (pins : List (Addr × Obj)) (s : Shared) (σ : St) (H : Hp) (D : Ends), Inv X pins σ H s → t D σ H → wpAny (model X.prog X.w) X.A (exec st X.env) (SP X pins D) X.xe s
def PSs (X : Cx) (st : List Stmt) (t : TS) : Prop :=
  ∀ (pins : List (Addr × Obj)) (s : Shared) (σ : St) (H : Hp) (D : Ends), Inv X pins σ H s → t D σ H → wpAny (model X.prog X.w) X.A (execs st X.env) (SP X pins D) X.xe s
/-- weaken the end -/
theorem thn {α : Type} {t : Sem α} {Q Q' : α → Shared → Prop} {M : Model} {A : Around} {E : Value → Shared → Prop} {s : Shared} (h : wpAny M A t Q E s) (hQ : ∀ a s, Q a s → Q' a s) : wpAny M A t Q' E s := wpAny_mono h hQ fun _ _ x => x
end L2

namespace L2
open PySem PySem.Spec PyProof.Rows
section
variable {X : Cx}

/-- two expressions in a row -/
theorem bin {a b : Expr} {ta tb : TE} (ha : PE X a ta) (hb : PE X b tb) {pins : List (Addr × Obj)} {s : Shared} {σ : St} {H : Hp} {R : V → V → Hp → Prop} (I : Inv X pins σ H s) (h : ta σ H fun x H1 => tb σ H1 fun y H2 => R x y H2)
    {α : Type} {Q : α → Shared → Prop} {f : Value → Value → Sem α}
    (hf : ∀ v u s2 x y H2, Inv X pins σ H2 s2 → RelV x v → RelV y u → R x y H2 → wpAny (model X.prog X.w) X.A (f v u) Q X.xe s2) :
    wpAny (model X.prog X.w) X.A (eval a X.env) (fun v s₁ => wpAny (model X.prog X.w) X.A (eval b X.env) (fun u s₂ => wpAny (model X.prog X.w) X.A (f v u) Q X.xe s₂) X.xe s₁) X.xe s := by
  refine thn (ha pins s σ H _ I h) fun v s1 ⟨x, H1, I1, r1, q1⟩ => ?_
  refine thn (hb pins s1 σ H1 _ I1 q1) fun u s2 ⟨y, H2, I2, r2, q2⟩ => ?_
  exact hf v u s2 x y H2 I2 r1 r2 q2

/-! ### names and constants -/
def tVar (i : Nat) : TE := fun σ H Q => ∃ v, σ[i]? = some (some v) ∧ Q v H
def tC (v : V) : TE := fun _ H Q => Q v H
theorem pe_var {i : Nat} {x : Str} {pos : Pos} (hN : X.N[i]? = some x) (hv : Vis X.env.scope x) (hd : (x == ("__debug__" : Str)) = false := by decide) (hcd : (x == ("__classdict__" : Str)) = false := by decide) : PE X (.Name x pos) (tVar i) := by
  intro pins s σ H Q I h
  obtain ⟨v, e, h⟩ := h
  obtain ⟨m, hn, hl⟩ := I.loc
  obtain ⟨u, r, l⟩ := hl i x v hN e hv
  have fin : EP X pins σ Q u s := ⟨v, H, I, r, h⟩
  rcases l with ⟨hk, hm⟩ | ⟨hk, c, hc, hcell⟩
  · exact wpAny_Name (wpAny_loadName_local I.ok.kind hk hn hm fin) hd
  · rcases hk with hk | hk
    · exact wpAny_Name (wpAny_loadName_cell I.ok.kind hk hc hcell fin) hd
    · exact wpAny_Name (wpAny_loadName_free I.ok.kind hk hc hcell fin hcd) hd
theorem pe_int {i j pos} : PE X (.Constant (.int i) j pos) (tC (.int i)) := fun _ _ _ H _ I h => wpAny_Constant_int ⟨.int i, H, I.tok _, ⟨_, rfl⟩, h⟩
theorem pe_bl {b j pos} : PE X (.Constant (.bool b) j pos) (tC (.bl b)) := fun _ _ _ H _ I h => Constant_bool ⟨.bl b, H, I, rfl, h⟩
theorem pe_non {j pos} : PE X (.Constant .none j pos) (tC .non) := fun _ _ _ H _ I h => Constant_none ⟨.non, H, I, rfl, h⟩
theorem pe_str {x j pos} : PE X (.Constant (.str x) j pos) (tC (.str x)) := fun _ _ _ H _ I h => Calls.Constant_str ⟨.str x, H, I.tok _, ⟨_, rfl⟩, h⟩

/-- a global name of the def -/
def Gl (X : Cx) (x : Str) : Prop := X.env.kindOf x = some .globalImplicit
theorem ld_glob {E : Value → Shared → Prop} {pins : List (Addr × Obj)} {s : Shared} {σ : St} {H : Hp} {x : Str} {u : Value} {pos : Pos} {Q : Value → Shared → Prop} (I : Inv X pins σ H s) (hg : Gl X x) (hm : X.mg x = some u) (h : Q u s)
    (hd : (x == ("__debug__" : Str)) = false := by decide) : wpAny (model X.prog X.w) X.A (eval (.Name x pos) X.env) Q E s :=
  Calls.Name_function_global I.ok.kind hg (Calls.loadGlobal_global (by rw [I.ok.glob]; exact I.mod.glob.keeps I.bk) hm h) hd
theorem ld_blt {E : Value → Shared → Prop} {pins : List (Addr × Obj)} {s : Shared} {σ : St} {H : Hp} {x : Str} {u : Value} {pos : Pos} {Q : Value → Shared → Prop} (I : Inv X pins σ H s) (hg : Gl X x) (hm : X.mg x = none) (hv : bootBuiltins x = some u) (h : Q u s)
    (hn : x ≠ "__name__" := by decide) (hd : (x == ("__debug__" : Str)) = false := by decide) : wpAny (model X.prog X.w) X.A (eval (.Name x pos) X.env) Q E s := by
  obtain ⟨mb, h1, h2⟩ := I.mod.blt
  exact Calls.Name_function_global I.ok.kind hg (Calls.loadGlobal_builtin (by rw [I.ok.glob]; exact I.mod.glob.keeps I.bk) hm (by rw [I.ok.blt]; exact h1.keeps I.bk) ((h2 x hn).trans hv) h) hd
/-- a module's constant, a class, a function, as a value -/
theorem pe_glob {x : Str} {v : V} {u : Value} {pos : Pos} (hg : Gl X x) (hm : X.mg x = some u) (r : RelV v u) (hd : (x == ("__debug__" : Str)) = false := by decide) : PE X (.Name x pos) (tC v) :=
  fun _ _ _ H _ I h => ld_glob I hg hm ⟨v, H, I, r, h⟩ hd
theorem pe_bltn {x : Str} {v : V} {u : Value} {pos : Pos} (hg : Gl X x) (hm : X.mg x = none) (hv : bootBuiltins x = some u) (r : RelV v u) (hn : x ≠ "__name__" := by decide) (hd : (x == ("__debug__" : Str)) = false := by decide) : PE X (.Name x pos) (tC v) :=
  fun _ _ _ H _ I h => ld_blt I hg hm hv ⟨v, H, I, r, h⟩ hn hd

/-! ### arithmetic -/
/-- two ints -/
def t2I (ta tb : TE) (k : Int → Int → Hp → Prop) : St → Hp → Prop := fun σ H => ta σ H fun x H1 => tb σ H1 fun y H2 => ∃ i j, x = .int i ∧ y = .int j ∧ k i j H2
def tAdd (ta tb : TE) : TE := fun σ H Q => t2I ta tb (fun i j H2 => Q (.int (i + j)) H2) σ H
def tSub (ta tb : TE) : TE := fun σ H Q => t2I ta tb (fun i j H2 => Q (.int (i - j)) H2) σ H
/-- the left factor below 2^64 -/
def tMul (ta tb : TE) : TE := fun σ H Q => t2I ta tb (fun i j H2 => (-(2 ^ 64) < i ∧ i < 2 ^ 64) ∧ Q (.int (i * j)) H2) σ H
variable {a b : Expr} {ta tb : TE} {pos : Pos}
theorem pe_add (ha : PE X a ta) (hb : PE X b tb) : PE X (.BinOp a .Add b pos) (tAdd ta tb) := by
  intro pins s σ H Q I h
  refine wpAny_BinOp (bin ha hb I h fun v u s2 x y H2 I2 rx ry q => ?_)
  obtain ⟨i, j, rfl, rfl, q⟩ := q
  obtain ⟨t, rfl⟩ := rx
  obtain ⟨t', rfl⟩ := ry
  exact add_int ⟨.int _, H2, I2.tok _, ⟨_, rfl⟩, q⟩
theorem pe_sub (ha : PE X a ta) (hb : PE X b tb) : PE X (.BinOp a .Sub b pos) (tSub ta tb) := by
  intro pins s σ H Q I h
  refine wpAny_BinOp (bin ha hb I h fun v u s2 x y H2 I2 rx ry q => ?_)
  obtain ⟨i, j, rfl, rfl, q⟩ := q
  obtain ⟨t, rfl⟩ := rx
  obtain ⟨t', rfl⟩ := ry
  exact sub_int ⟨.int _, H2, I2.tok _, ⟨_, rfl⟩, q⟩
theorem pe_mul (ha : PE X a ta) (hb : PE X b tb) : PE X (.BinOp a .Mult b pos) (tMul ta tb) := by
  intro pins s σ H Q I h
  refine wpAny_BinOp (bin ha hb I h fun v u s2 x y H2 I2 rx ry q => ?_)
  obtain ⟨i, j, rfl, rfl, ⟨q1, q2⟩, q⟩ := q
  obtain ⟨t, rfl⟩ := rx
  obtain ⟨t', rfl⟩ := ry
  exact mul_int ⟨.int _, H2, I2.tok _, ⟨_, rfl⟩, q⟩ (.of_left (intBits_le_64 q1 q2))

/-! ### comparisons -/
def PC (X : Cx) (op : CmpOp) (a b : Expr) (t : TE) : Prop :=
  ∀ (pins : List (Addr × Obj)) (s : Shared) (σ : St) (H : Hp) (Q : VK), Inv X pins σ H s → t σ H Q →
    wpAny (model X.prog X.w) X.A (eval a X.env) (fun v s₁ => wpAny (model X.prog X.w) X.A (eval b X.env) (fun u s₂ => wpAny (model X.prog X.w) X.A (compareOp op v u) (EP X pins σ Q) X.xe s₂) X.xe s₁) X.xe s
theorem nobehind (b : Expr) {op : CmpOp} (h : op ≠ .In) (h2 : op ≠ .NotIn) : behindInMarks op b = false := by
  have e1 : (op == CmpOp.In) = false := by cases op <;> first | rfl | exact absurd rfl h
  have e2 : (op == CmpOp.NotIn) = false := by cases op <;> first | rfl | exact absurd rfl h2
  cases b <;> simp [behindInMarks, e1, e2]
def tCmp (p : Int → Int → Bool) (ta tb : TE) : TE := fun σ H Q => t2I ta tb (fun i j H2 => Q (.bl (p i j)) H2) σ H
abbrev tLt : TE → TE → TE := tCmp fun i j => decide (i < j)
abbrev tLe : TE → TE → TE := tCmp fun i j => decide (i ≤ j)
abbrev tGt : TE → TE → TE := tCmp fun i j => decide (j < i)
abbrev tGe : TE → TE → TE := tCmp fun i j => decide (j ≤ i)
abbrev tEqI : TE → TE → TE := tCmp fun i j => decide (i = j)
abbrev tNeI : TE → TE → TE := tCmp fun i j => !decide (i = j)
/-- a comparison of two ints, by its rule -/
theorem pc_int {op : CmpOp} {p : Int → Int → Bool} (ha : PE X a ta) (hb : PE X b tb)
    (rule : ∀ (i j : Int) (t u : Tok) (Q : Value → Shared → Prop) (s : Shared), Q (.bool (p i j)) s → wpAny (model X.prog X.w) X.A (compareOp op (.int i t) (.int j u)) Q X.xe s) : PC X op a b (tCmp p ta tb) := by
  intro pins s σ H Q I h
  refine bin ha hb I h fun v u s2 x y H2 I2 rx ry q => ?_
  obtain ⟨i, j, rfl, rfl, q⟩ := q
  obtain ⟨t, rfl⟩ := rx
  obtain ⟨t', rfl⟩ := ry
  exact rule i j t t' _ s2 ⟨.bl _, H2, I2, rfl, q⟩
theorem pc_lt (ha : PE X a ta) (hb : PE X b tb) : PC X .Lt a b (tLt ta tb) := pc_int ha hb fun _ _ _ _ _ _ h => lt_int h
theorem pc_le (ha : PE X a ta) (hb : PE X b tb) : PC X .LtE a b (tLe ta tb) := pc_int ha hb fun _ _ _ _ _ _ h => le_int h
theorem pc_gt (ha : PE X a ta) (hb : PE X b tb) : PC X .Gt a b (tGt ta tb) := pc_int ha hb fun _ _ _ _ _ _ h => gt_int h
theorem pc_ge (ha : PE X a ta) (hb : PE X b tb) : PC X .GtE a b (tGe ta tb) := pc_int ha hb fun _ _ _ _ _ _ h => ge_int h
theorem pc_eqI (ha : PE X a ta) (hb : PE X b tb) : PC X .Eq a b (tEqI ta tb) := pc_int ha hb fun _ _ _ _ _ _ h => eq_int (by rw [Bool.beq_eq_decide_eq]; exact h)
theorem pc_neI (ha : PE X a ta) (hb : PE X b tb) : PC X .NotEq a b (tNeI ta tb) := pc_int ha hb fun _ _ _ _ _ _ h => ne_int (by rw [bne, Bool.beq_eq_decide_eq]; exact h)
/-- is None -/
def tIsN (ta : TE) : TE := fun σ H Q => ta σ H fun x H1 => Q (.bl (decide (x = .non))) H1
def tNotN (ta : TE) : TE := fun σ H Q => ta σ H fun x H1 => Q (.bl (!decide (x = .non))) H1
theorem RelV.none_iff {x : V} {v : Value} (r : RelV x v) : (v == Value.none) = decide (x = .non) := by
  cases x with
  | non => cases r; rfl
  | bl _ => cases r; rfl
  | int _ => obtain ⟨t, rfl⟩ := r; rfl
  | str _ => obtain ⟨t, rfl⟩ := r; rfl
  | byt _ => obtain ⟨t, rfl⟩ := r; rfl
  | flt _ => obtain ⟨t, rfl⟩ := r; rfl
  | ref _ => cases r; rfl
  | ty _ => cases r; rfl
theorem pc_isN {j pos'} (ha : PE X a ta) : PC X .Is a (.Constant .none j pos') (tIsN ta) := by
  intro pins s σ H Q I h
  refine thn (ha pins s σ H _ I h) fun v s1 ⟨x, H1, I1, r1, q1⟩ => ?_
  exact Constant_none (is_none_gen ⟨.bl _, H1, I1, by rw [r1.none_iff]; rfl, q1⟩)
theorem pc_notN {j pos'} (ha : PE X a ta) : PC X .IsNot a (.Constant .none j pos') (tNotN ta) := by
  intro pins s σ H Q I h
  refine thn (ha pins s σ H _ I h) fun v s1 ⟨x, H1, I1, r1, q1⟩ => ?_
  exact Constant_none (isnot_none_gen ⟨.bl _, H1, I1, by rw [r1.none_iff]; rfl, q1⟩)
/-- a comparison as a value, as a test -/
def tB (t : TE) : TT := fun σ H Q => t σ H fun x H1 => ∃ c, x = .bl c ∧ Q c H1
theorem pe_cmp {op : CmpOp} {t : TE} (h : PC X op a b t) (h1 : behindInMarks op b = false := by first | exact nobehind _ (by decide) (by decide) | rfl) : PE X (.Compare a [op] [b] pos) t := fun pins s σ H Q I hw => wpAny_Compare1 (h pins s σ H Q I hw) h1
theorem pt_cmp {op : CmpOp} {t : TE} (h : PC X op a b t) (h1 : behindInMarks op b = false := by first | exact nobehind _ (by decide) (by decide) | rfl) : PT X (.Compare a [op] [b] pos) (tB t) := by
  intro pins s σ H Q I hw
  refine wpAny_isTrue_Compare1 (thn (h pins s σ H _ I hw) fun v s1 h1 => thn h1 fun u s2 h2 => thn h2 fun c s3 ⟨x, H1, I1, r1, q1⟩ => ?_) h1
  obtain ⟨d, rfl, q⟩ := q1
  cases r1
  exact wpAny_truthy_bool ⟨H1, I1, q⟩
/-- an expression whose value is a bool, as a test -/
theorem pt_val {e : Expr} {t : TE} (h : PE X e t) (he : ∀ whole, isTrue e X.env whole = (do let v ← whole; standAt e.pos; holding [v] (truthy v)) := by intro _; rfl) : PT X e (tB t) := by
  intro pins s σ H Q I hw
  refine isTrue_plain (thn (h pins s σ H _ I hw) fun v s1 ⟨x, H1, I1, r1, q1⟩ => ?_) (he _)
  obtain ⟨d, rfl, q⟩ := q1
  cases r1
  exact wpAny_truthy_bool ⟨H1, I1, q⟩

/-! ### and, or, not -/
variable {tA tB' : TT} {rest : List Expr}
def tAnd (t u : TT) : TT := fun σ H Q => t σ H fun c H1 => if c = true then u σ H1 Q else Q false H1
def tOr (t u : TT) : TT := fun σ H Q => t σ H fun c H1 => if c = true then Q true H1 else u σ H1 Q
def tNot (t : TT) : TT := fun σ H Q => t σ H fun c H1 => Q (!c) H1
theorem pw_and1 (ha : PT X a tA) : PW X (.BoolOp .And [a] pos) tA := by
  intro wh pins s σ H Q I h
  refine isTrue_and (thn (ha pins s σ H Q I h) fun c s1 e => ?_)
  cases c with
  | true => exact isTrue_and_nil e
  | false => exact e
theorem pw_or1 (ha : PT X a tA) : PW X (.BoolOp .Or [a] pos) tA := by
  intro wh pins s σ H Q I h
  refine isTrue_or (thn (ha pins s σ H Q I h) fun c s1 e => ?_)
  cases c with
  | false => exact isTrue_or_nil e
  | true => exact e
theorem pw_and (ha : PT X a tA) (hb : PW X (.BoolOp .And (b :: rest) pos) tB') : PW X (.BoolOp .And (a :: b :: rest) pos) (tAnd tA tB') := by
  intro wh pins s σ H Q I h
  refine isTrue_and (thn (ha pins s σ H _ I h) fun c s1 ⟨H1, I1, q1⟩ => ?_)
  cases c with
  | true => exact hb wh pins s1 σ H1 Q I1 q1
  | false => exact ⟨H1, I1, q1⟩
theorem pw_or (ha : PT X a tA) (hb : PW X (.BoolOp .Or (b :: rest) pos) tB') : PW X (.BoolOp .Or (a :: b :: rest) pos) (tOr tA tB') := by
  intro wh pins s σ H Q I h
  refine isTrue_or (thn (ha pins s σ H _ I h) fun c s1 ⟨H1, I1, q1⟩ => ?_)
  cases c with
  | true => exact ⟨H1, I1, q1⟩
  | false => exact hb wh pins s1 σ H1 Q I1 q1
theorem pt_not (ha : PT X a tA) : PT X (.UnaryOp .Not a pos) (tNot tA) := by
  intro pins s σ H Q I h
  exact isTrue_not (ha pins s σ H (fun c H1 => Q (!c) H1) I h)
/-- .. as values (bools) -/
def tAndV (ta tb : TE) : TE := fun σ H Q => ta σ H fun x H1 => ∃ c, x = .bl c ∧ if c = true then tb σ H1 Q else Q (.bl false) H1
def tOrV (ta tb : TE) : TE := fun σ H Q => ta σ H fun x H1 => ∃ c, x = .bl c ∧ if c = true then Q (.bl true) H1 else tb σ H1 Q
def tNotV (ta : TE) : TE := fun σ H Q => ta σ H fun x H1 => ∃ c, x = .bl c ∧ Q (.bl (!c)) H1
theorem pe_one {op} {t : TE} (h : PE X a t) : PE X (.BoolOp op [a] pos) t := fun pins s σ H Q I hw => BoolOp_one (h pins s σ H Q I hw)
theorem pe_and (ha : PE X a ta) (hb : PE X (.BoolOp .And (b :: rest) pos) tb) : PE X (.BoolOp .And (a :: b :: rest) pos) (tAndV ta tb) := by
  intro pins s σ H Q I h
  refine BoolOp_and (thn (ha pins s σ H _ I h) fun v s1 ⟨x, H1, I1, r1, q1⟩ => ?_)
  obtain ⟨c, rfl, q1⟩ := q1
  cases r1
  refine wpAny_truthy_bool ?_
  cases c with
  | true => exact hb pins s1 σ H1 Q I1 q1
  | false => exact ⟨.bl false, H1, I1, rfl, q1⟩
theorem pe_or (ha : PE X a ta) (hb : PE X (.BoolOp .Or (b :: rest) pos) tb) : PE X (.BoolOp .Or (a :: b :: rest) pos) (tOrV ta tb) := by
  intro pins s σ H Q I h
  refine BoolOp_or (thn (ha pins s σ H _ I h) fun v s1 ⟨x, H1, I1, r1, q1⟩ => ?_)
  obtain ⟨c, rfl, q1⟩ := q1
  cases r1
  refine wpAny_truthy_bool ?_
  cases c with
  | false => exact hb pins s1 σ H1 Q I1 q1
  | true => exact ⟨.bl true, H1, I1, rfl, q1⟩
theorem pe_not (ha : PE X a ta) : PE X (.UnaryOp .Not a pos) (tNotV ta) := by
  intro pins s σ H Q I h
  refine UnaryOp_ (thn (ha pins s σ H _ I h) fun v s1 ⟨x, H1, I1, r1, q1⟩ => ?_)
  obtain ⟨c, rfl, q1⟩ := q1
  cases r1
  exact not_of (wpAny_truthy_bool ⟨.bl (!c), H1, I1, rfl, q1⟩)
/-- a if t else b -/
def tIf (t : TT) (ta tb : TE) : TE := fun σ H Q => t σ H fun c H1 => if c = true then ta σ H1 Q else tb σ H1 Q
theorem pe_ifExp {c : Expr} (hc : PT X c tA) (ha : PE X a ta) (hb : PE X b tb) : PE X (.IfExp c a b pos) (tIf tA ta tb) := by
  intro pins s σ H Q I h
  refine wpAny_IfExp (thn (hc pins s σ H _ I h) fun d s1 ⟨H1, I1, q1⟩ => ?_)
  cases d with
  | true => exact ha pins s1 σ H1 Q I1 q1
  | false => exact hb pins s1 σ H1 Q I1 q1
end
end L2

namespace L2
open PySem PySem.Spec PyProof.Rows

/-! ### a list, a tuple that is read: tracked, frozen, or an object of the module -/
def SqL (K : PySem.W.Frag) (H : Hp) (a : Addr) (xs : List V) : Prop :=
  Rd H a (.lst xs) ∨
    ∃ (o : Obj) (its : Array Value) (n : Nat), K.lookup a = some o ∧ o.cls = .type "list" ∧ o.dict = none ∧ o.data = .seq its n ∧ its.size ≤ sizeLine ∧ Vals xs its.toList
def SqT (K : PySem.W.Frag) (H : Hp) (a : Addr) (xs : List V) : Prop :=
  Rd H a (.tup xs) ∨
    ∃ (o : Obj) (its : Array Value) (n : Nat), K.lookup a = some o ∧ o.cls = .type "tuple" ∧ o.data = .seq its n ∧ its.size ≤ sizeLine ∧ Vals xs its.toList
def absV : Value → Option V
  | .none => some .non
  | .bool b => some (.bl b)
  | .int i _ => some (.int i)
  | .str x _ => some (.str x)
  | .bytes b _ => some (.byt b)
  | .float b _ => some (.flt b)
  | .ref a => some (.ref a)
  | .type n => some (.ty n)
  | _ => none
theorem RelV.abs {x : V} {u : Value} (r : RelV x u) : absV u = some x := by
  cases x with
  | non => cases r; rfl
  | bl _ => cases r; rfl
  | int _ => obtain ⟨t, rfl⟩ := r; rfl
  | str _ => obtain ⟨t, rfl⟩ := r; rfl
  | byt _ => obtain ⟨t, rfl⟩ := r; rfl
  | flt _ => obtain ⟨t, rfl⟩ := r; rfl
  | ref _ => cases r; rfl
  | ty _ => cases r; rfl
theorem RelV.inj {x y : V} {u : Value} (r : RelV x u) (q : RelV y u) : x = y := Option.some.inj (r.abs.symm.trans q.abs)
theorem Vals.inj : ∀ {xs ys : List V} {us : List Value}, Vals xs us → Vals ys us → xs = ys
  | _, _, _, .nil, .nil => rfl
  | _, _, _, .cons r t, .cons r' t' => by rw [r.inj r', Vals.inj t t']
section
variable {X : Cx} {pins : List (Addr × Obj)} {σ : St} {H : Hp} {s : Shared} {a : Addr} {xs ys : List V}
theorem SqL.of {K : PySem.W.Frag} (h : H a = some (.lst xs)) : SqL K H a xs := .inl (.inl h)
theorem SqT.of {K : PySem.W.Frag} (h : H a = some (.tup xs)) : SqT K H a xs := .inl (.inl h)
theorem Inv.list (I : Inv X pins σ H s) (h : SqL X.K H a xs) : ∃ its : List Value, Vals xs its ∧ PlainL s.heap a its.toArray ∧ xs.length ≤ sizeLine := by
  rcases h with h | ⟨o, its, n, hk, hc, hd, hs, hz, r⟩
  · obtain ⟨z, its, n, r, e⟩ := h.ok I.hok
    exact ⟨its, r, ⟨_, n, e, rfl, rfl, rfl⟩, z⟩
  · refine ⟨its.toList, r, ⟨o, n, I.kIn a o hk, hc, hd, by simpa using hs⟩, ?_⟩
    have e := r.length
    simp only [Array.length_toList] at e
    omega
theorem Inv.tuple (I : Inv X pins σ H s) (h : SqT X.K H a xs) : ∃ its : List Value, Vals xs its ∧ IsTup s.heap a its.toArray ∧ xs.length ≤ sizeLine := by
  rcases h with h | ⟨o, its, n, hk, hc, hs, hz, r⟩
  · obtain ⟨z, its, r, p⟩ := h.ok I.hok
    exact ⟨its, r, p, z⟩
  · refine ⟨its.toList, r, ⟨o, I.kIn a o hk, hc, n, by simpa using hs⟩, ?_⟩
    have e := r.length
    simp only [Array.length_toList] at e
    omega
theorem Inv.list_inj (I : Inv X pins σ H s) (h : SqL X.K H a xs) (h' : SqL X.K H a ys) : xs = ys := by
  obtain ⟨its, r, ⟨o, n, e, _, _, d⟩, _⟩ := I.list h
  obtain ⟨its', r', ⟨o', n', e', _, _, d'⟩, _⟩ := I.list h'
  rw [e] at e'; cases e'
  rw [d] at d'
  injection d' with d1 _
  have : its = its' := by simpa using congrArg Array.toList d1
  subst this
  exact r.inj r'
theorem Inv.tuple_inj (I : Inv X pins σ H s) (h : SqT X.K H a xs) (h' : SqT X.K H a ys) : xs = ys := by
  obtain ⟨its, r, ⟨o, e, _, n, d⟩, _⟩ := I.tuple h
  obtain ⟨its', r', ⟨o', e', _, n', d'⟩, _⟩ := I.tuple h'
  rw [e] at e'; cases e'
  rw [d] at d'
  injection d' with d1 _
  have : its = its' := by simpa using congrArg Array.toList d1
  subst this
  exact r.inj r'
end

/-! ### another wish about exceptions -/
abbrev Cx.wish (X : Cx) (E : Value → Shared → Prop) : Cx := { X with xe := E }
/-- no exception leaves -/
abbrev Cx.nox (X : Cx) : Cx := X.wish fun _ _ => False
theorem Cx.Ok.wish {X : Cx} (ok : X.Ok) (E : Value → Shared → Prop) : (X.wish E).Ok :=
  ⟨ok.mod, ok.kind, ok.glob, ok.blt, ok.above, ok.inj, ok.has, ok.cab, ok.hd, ok.frames, ok.stk, ok.exf, ok.bs, ok.bsz, ok.noex, ok.exfs, ok.funs, ok.frf⟩
theorem Cx.Ok.unwish {X : Cx} {E : Value → Shared → Prop} (ok : (X.wish E).Ok) : X.Ok :=
  ⟨ok.mod, ok.kind, ok.glob, ok.blt, ok.above, ok.inj, ok.has, ok.cab, ok.hd, ok.frames, ok.stk, ok.exf, ok.bs, ok.bsz, ok.noex, ok.exfs, ok.funs, ok.frf⟩
section
variable {X : Cx} {pins : List (Addr × Obj)} {σ : St} {H : Hp} {s : Shared} {E : Value → Shared → Prop}
theorem Inv.wish (I : Inv X pins σ H s) (E : Value → Shared → Prop) : Inv (X.wish E) pins σ H s := ⟨I.ok.wish E, I.os, I.bare, I.base, I.loc, I.cell, I.free, I.freeC, I.pin, I.hok, I.len⟩
theorem Inv.unwish (I : Inv (X.wish E) pins σ H s) : Inv X pins σ H s := ⟨I.ok.unwish, I.os, I.bare, I.base, I.loc, I.cell, I.free, I.freeC, I.pin, I.hok, I.len⟩
theorem SP.unwish {D : Ends} {f : Flow} {s' : Shared} (h : SP (X.wish E) pins D f s') : SP X pins D f s' := by
  cases f with
  | next => obtain ⟨σ', H', I, q⟩ := h; exact ⟨σ', H', I.unwish, q⟩
  | brk => obtain ⟨σ', H', I, q⟩ := h; exact ⟨σ', H', I.unwish, q⟩
  | cont => obtain ⟨σ', H', I, q⟩ := h; exact ⟨σ', H', I.unwish, q⟩
  | ret u => obtain ⟨v, σ', H', I, r, q⟩ := h; exact ⟨v, σ', H', I.unwish, r, q⟩
theorem PE.nox {e : Expr} {t : TE} (h : PE X.nox e t) : PE X e t := fun pins s σ H Q I hw =>
  wpAny_mono (h pins s σ H Q (I.wish _) hw) (fun _ _ ⟨v, H', I', r, q⟩ => ⟨v, H', I'.unwish, r, q⟩) fun _ _ z => False.elim z
theorem PT.nox {e : Expr} {t : TT} (h : PT X.nox e t) : PT X e t := fun pins s σ H Q I hw =>
  wpAny_mono (h pins s σ H Q (I.wish _) hw) (fun _ _ ⟨H', I', q⟩ => ⟨H', I'.unwish, q⟩) fun _ _ z => False.elim z
theorem PSs.nox {st : List Stmt} {t : TS} (h : PSs X.nox st t) : PSs X st t := fun pins s σ H D I hw =>
  wpAny_mono (h pins s σ H D (I.wish _) hw) (fun _ _ q => q.unwish) fun _ _ z => False.elim z
end

/-! ### blocks and small statements -/
section
variable {X : Cx} {st : Stmt} {rest : List Stmt} {t u : TS} {e : Expr} {te : TE} {pos : Pos}
def tNext : TS := fun D σ H => D.nx σ H
def tSeq (t u : TS) : TS := fun D σ H => t { D with nx := u D } σ H
theorem pss_nil : PSs X [] tNext := fun _ _ σ H _ I h => wpAny_execs_nil ⟨σ, H, I, h⟩
theorem pss_cons (h1 : PS X st t) (h2 : PSs X rest u) : PSs X (st :: rest) (tSeq t u) := by
  intro pins s σ H D I h
  refine wpAny_execs_cons (thn (h1 pins s σ H { D with nx := u D } I h) fun f s1 q => ?_)
  cases f with
  | next =>
    obtain ⟨σ', H', I', q⟩ := q
    exact h2 pins s1 σ' H' D I' q
  | ret v => exact q
  | brk => exact q
  | cont => exact q
theorem pss_one (h1 : PS X st t) : PSs X [st] t := by
  intro pins s σ H D I h
  refine wpAny_execs_cons (thn (h1 pins s σ H D I h) fun f s1 q => ?_)
  cases f with
  | next => exact wpAny_execs_nil q
  | ret v => exact q
  | brk => exact q
  | cont => exact q
def tBreak : TS := fun D σ H => D.bk σ H
def tCont : TS := fun D σ H => D.ct σ H
theorem ps_pass : PS X (.Pass pos) tNext := fun _ _ σ H _ I h => wpAny_Pass ⟨σ, H, I, h⟩
theorem ps_break : PS X (.Break pos) tBreak := fun _ _ σ H _ I h => wpAny_Break ⟨σ, H, I, h⟩
theorem ps_continue : PS X (.Continue pos) tCont := fun _ _ σ H _ I h => wpAny_Continue ⟨σ, H, I, h⟩
/-- in a def's body nothing is shown -/
theorem Inv.quiet {pins : List (Addr × Obj)} {σ : St} {H : Hp} {s : Shared} (I : Inv X pins σ H s) : interactive X.env = false := by simp [interactive, I.ok.kind]
/-- a docstring -/
theorem ps_doc {x j pos pos'} : PS X (.Expr (.Constant (.str x) j pos) pos') tNext := fun _ s σ H _ I h => wpAny_Expr (Calls.Constant_str (show SP X _ _ .next { s with toks := s.toks + 1 } from ⟨σ, H, I.tok _, h⟩)) I.quiet
/-- an expression whose value is dropped -/
def tDrop (te : TE) : TS := fun D σ H => te σ H fun _ H1 => D.nx σ H1
theorem ps_expr (he : PE X e te) (hs : swapsWith e none pos.line X.env = pure false := by rfl) : PS X (.Expr e pos) (tDrop te) := by
  intro pins s σ H D I h
  exact wpAny_Expr_any (thn (he pins s σ H _ I h) fun v s1 ⟨x, H1, I1, r1, q1⟩ => ⟨σ, H1, I1, q1⟩) I.quiet hs
def tRet (te : TE) : TS := fun D σ H => te σ H D.rt
theorem ps_ret (he : PE X e te) : PS X (.Return (some e) pos) (tRet te) := by
  intro pins s σ H D I h
  exact wpAny_Return_some (thn (he pins s σ H _ I h) fun v s1 ⟨x, H1, I1, r1, q1⟩ => ⟨x, σ, H1, I1, r1, q1⟩)
def tRetN : TS := fun D _ H => D.rt .non H
theorem ps_retN : PS X (.Return none pos) tRetN := fun _ _ σ H _ I h => wpAny_Return_none ⟨.non, σ, H, I, rfl, h⟩
def tIfS (c : TT) (t u : TS) : TS := fun D σ H => c σ H fun b H1 => if b = true then t D σ H1 else u D σ H1
theorem ps_if {c : Expr} {a b : List Stmt} {tc : TT} (hc : PT X c tc) (ha : PSs X a t) (hb : PSs X b u) : PS X (.If c a b pos) (tIfS tc t u) := by
  intro pins s σ H D I h
  refine wpAny_If (thn (hc pins s σ H _ I h) fun d s1 ⟨H1, I1, q1⟩ => ?_)
  cases d with
  | true => exact ha pins s1 σ H1 D I1 q1
  | false => exact hb pins s1 σ H1 D I1 q1
/-- code that the proof never comes to -/
def tNever : TS := fun _ _ _ => False
theorem ps_never : PS X st tNever := fun _ _ _ _ _ _ h => h.elim
theorem pss_never {sts : List Stmt} : PSs X sts tNever := fun _ _ _ _ _ _ h => h.elim
end

/-! ### targets -/
abbrev TG := V → St → Hp → (St → Hp → Prop) → Prop
abbrev TGs := List V → St → Hp → (St → Hp → Prop) → Prop
def PG (X : Cx) (target : Expr) (t : TG) : Prop :=
  ∀ (pins : List (Addr × Obj)) (s : Shared) (σ : St) (H : Hp) (v : V) (u : Value) (Q : St → Hp → Prop), Inv X pins σ H s → RelV v u → t v σ H Q →
    wpAny (model X.prog X.w) X.A (assign target X.env u) (fun _ s' => ∃ σ' H', Inv X pins σ' H' s' ∧ Q σ' H') X.xe s
/-- several targets, one after another -/
def PGs (X : Cx) (ts : List Expr) (t : TGs) : Prop :=
  ∀ (pins : List (Addr × Obj)) (s : Shared) (σ : St) (H : Hp) (vs : List V) (us : List Value) (Q : St → Hp → Prop), Inv X pins σ H s → Vals vs us → t vs σ H Q →
    wpAny (model X.prog X.w) X.A (assignInOrder ((assignEach ts X.env).map (·.2)) us) (fun _ s' => ∃ σ' H', Inv X pins σ' H' s' ∧ Q σ' H') X.xe s
/-- o[i] = v, by values -/
abbrev TSet := V → V → V → Hp → (Hp → Prop) → Prop
def PSet (X : Cx) (t : TSet) : Prop :=
  ∀ (pins : List (Addr × Obj)) (s : Shared) (σ : St) (H : Hp) (o i v : V) (ov iv u : Value) (Q : Hp → Prop), Inv X pins σ H s → RelV o ov → RelV i iv → RelV v u → t o i v H Q →
    wpAny (model X.prog X.w) X.A (setItem ov iv u) (fun _ s' => ∃ H', Inv X pins σ H' s' ∧ Q H') X.xe s
/-- a op= b, by values -/
abbrev TIp := V → V → Hp → VK → Prop
def PIp (X : Cx) (op : Operator) (t : TIp) : Prop :=
  ∀ (pins : List (Addr × Obj)) (s : Shared) (σ : St) (H : Hp) (x y : V) (v u : Value) (Q : VK), Inv X pins σ H s → RelV x v → RelV y u → t x y H Q →
    wpAny (model X.prog X.w) X.A (inplaceOp op v u) (EP X pins σ Q) X.xe s
section
variable {X : Cx} {pos : Pos}
def gName (i : Nat) : TG := fun v σ H Q => Q (σ.set i (some v)) H
theorem pg_name {i : Nat} {x : Str} (hN : X.N.Nodup) (hi : X.N[i]? = some x) (hx : Loc X.env.scope x) (hf : X.fn x = true ∨ X.env.scope.names.lookup x = some .local := by first | exact .inl rfl | exact .inr rfl | assumption) : PG X (.Name x pos) (gName i) := by
  intro pins s σ H v u Q I r h
  exact wpAny_assign_Name (store_ok I hN hi hx r (fun s' I' => ⟨_, H, I', h⟩) hf)
def gNil : TGs := fun vs σ H Q => vs = [] ∧ Q σ H
def gCons (t : TG) (u : TGs) : TGs := fun vs σ H Q => ∃ v r, vs = v :: r ∧ t v σ H fun σ' H' => u r σ' H' Q
theorem pgs_nil : PGs X [] gNil := by
  intro pins s σ H vs us Q I r h
  obtain ⟨e, h⟩ := h
  subst e
  cases r
  exact assignInOrder_nil ⟨σ, H, I, h⟩
theorem pgs_cons {e : Expr} {es : List Expr} {t : TG} {u : TGs} (h1 : PG X e t) (h2 : PGs X es u)
    (hs : (assignEach (e :: es) X.env).map (·.2) = assign e X.env :: (assignEach es X.env).map (·.2) := by rfl) : PGs X (e :: es) (gCons t u) := by
  intro pins s σ H vs us Q I r h
  obtain ⟨v, vr, e1, h⟩ := h
  subst e1
  cases r with
  | cons r rr =>
    rw [hs]
    refine assignInOrder_cons (thn (h1 pins s σ H _ _ _ I r h) fun _ s1 ⟨σ1, H1, I1, q1⟩ => ?_)
    exact h2 pins s1 σ1 H1 _ _ Q I1 rr q1
/-- (a, b, ..) = a tuple of that length -/
def gTup (K : PySem.W.Frag) (n : Nat) (t : TGs) : TG := fun v σ H Q => ∃ a xs, v = .ref a ∧ SqT K H a xs ∧ xs.length = n ∧ t xs σ H Q
theorem pg_tup {es : List Expr} {k : Nat} {t : TGs} {n : Nat} (hc : X.calm = true) (h : PGs X es t)
    (hn : (assignEach es X.env).length = n := by rfl) (hst : (assignEach es X.env).findIdx? (·.1) = none := by rfl) : PG X (.Tuple es k pos) (gTup X.K n t) := by
  intro pins s σ H v u Q I r hw
  obtain ⟨a, xs, e1, hq, hl, hw⟩ := hw
  subst e1
  cases r
  obtain ⟨its, rv, ht, hz⟩ := I.tuple hq
  refine assign_Tuple_tuple (I.ok.hd hc) ht (by simp [hn, ← hl, rv.length]) hst fun h' hx => ?_
  have I1 : Inv X pins σ H { s with heap := h' } := I.kept (t' := s.toks) fun b o e => hx b o (Nat.ne_of_lt (Heap.lt_size e)) e
  exact h pins _ σ H xs _ Q I1 (by simpa using rv) hw
/-- o[i] = .. -/
def gSub (to ti : TE) (t : TSet) : TG := fun v σ H Q => to σ H fun o H1 => ti σ H1 fun i H2 => t o i v H2 fun H3 => Q σ H3
theorem pg_sub {o i : Expr} {to ti : TE} {t : TSet} (ho : PE X o to) (hi : PE X i ti) (hs : PSet X t)
    (ha : ∀ v, assign (.Subscript o i pos) X.env v = (do
      let ov ← holding [v] (eval o X.env)
      let iv ← holding [v, ov] (eval i X.env)
      standAt pos
      holding [v, ov, iv] (setItem ov iv v)
      release [v, ov, iv] []) := by intro _; rfl) : PG X (.Subscript o i pos) (gSub to ti t) := by
  intro pins s σ H v u Q I r h
  rw [ha]
  refine wpAny_bind (wpAny_holding (thn (ho pins s σ H _ I h) fun ov s1 ⟨x, H1, I1, r1, q1⟩ => ?_))
  refine wpAny_bind (wpAny_holding (thn (hi pins s1 σ H1 _ I1 q1) fun iv s2 ⟨y, H2, I2, r2, q2⟩ => ?_))
  refine wpAny_bind (wpAny_standAt (wpAny_bind (wpAny_holding (thn (hs pins s2 σ H2 x y v ov iv u _ I2 r1 r2 r q2) fun _ s3 ⟨H3, I3, q3⟩ => ?_))))
  exact wpAny_release ⟨σ, H3, I3, q3⟩
/-- target = value -/
def tAsg (te : TE) (g : TG) : TS := fun D σ H => te σ H fun x H1 => g x σ H1 D.nx
theorem ps_asg {tg e : Expr} {te : TE} {g : TG} (he : PE X e te) (hg : PG X tg g) (hs : swapsWithSole [tg] e pos.line X.env = pure false := by rfl) (hw : swappedStores [tg] e X.env = pure none := by rfl)
    (h1 : (assignEach [tg] X.env).map (·.2) = [assign tg X.env] := by rfl) : PS X (.Assign [tg] e pos) (tAsg te g) := by
  intro pins s σ H D I h
  refine wpAny_Assign_stores (thn (he pins s σ H _ I h) fun v s1 ⟨x, H1, I1, r1, q1⟩ => ?_) hs hw
  rw [h1]
  exact thn (hg pins s1 σ H1 x v _ I1 r1 q1) fun _ s2 q => q
/-- name = value -/
theorem ps_set {i : Nat} {x : Str} {e : Expr} {te : TE} {pos' : Pos} (hN : X.N.Nodup) (hi : X.N[i]? = some x) (hx : Loc X.env.scope x) (he : PE X e te) (hs : swapsWith e (some (.Name x pos')) pos.line X.env = pure false := by rfl) (hf : X.fn x = true ∨ X.env.scope.names.lookup x = some .local := by first | exact .inl rfl | exact .inr rfl | assumption) :
    PS X (.Assign [.Name x pos'] e pos) (tAsg te (gName i)) := by
  intro pins s σ H D I h
  refine wpAny_Assign_Name (thn (he pins s σ H _ I h) fun v s1 ⟨y, H1, I1, r1, q1⟩ => ?_) hs
  exact store_ok I1 hN hi hx r1 (fun s2 I2 => ⟨_, H1, I2, q1⟩) hf
/-- a, b = x, y with plain local names: stored from the right; the pair itself is not tracked (the opening rows as in PyProof/Rows/TupAssign.lean:23) -/
def tPar (i j : Nat) (ta : TA) : TS := fun D σ H => ta σ H fun vs H1 => ∃ v w, vs = [v, w] ∧ D.nx ((σ.set i (some v)).set j (some w)) H1
theorem ps_par {i j : Nat} {x y : Str} {a b : Expr} {ta : TA} {px py pt : Pos} {kt k2 pt2} (hc : X.calm = true) (hN : X.N.Nodup) (hi : X.N[i]? = some x) (hj : X.N[j]? = some y) (hij : i ≠ j)
    (hx : X.env.scope.names.lookup x = some .local) (hy : X.env.scope.names.lookup y = some .local) (ha : PA X [a, b] ta)
    (hw : swappedStores [.Tuple [.Name x px, .Name y py] kt pt] (.Tuple [a, b] k2 pt2) X.env = pure (some [x, y]))
    (hs : swapsWithSole [.Tuple [.Name x px, .Name y py] kt pt] (.Tuple [a, b] k2 pt2) pos.line X.env = pure false := by rfl) :
    PS X (.Assign [.Tuple [.Name x px, .Name y py] kt pt] (.Tuple [a, b] k2 pt2) pos) (tPar i j ta) := by
  intro pins s σ H D I h
  rw [exec_Assign_arm]
  refine wpAny_bind (wpAny_standAt ?_)
  rw [hs]
  refine wpAny_bind (wpAny_pure ?_)
  rw [if_neg (by decide)]
  refine wpAny_bind (Tuple_ (thn (ha _ pins s σ H _ I h) fun us s1 ⟨vs, H1, I1, r1, q1⟩ => ?_))
  obtain ⟨v, w, e1, q1⟩ := q1
  subst e1
  obtain ⟨u1, u2, rfl, rv, rw'⟩ : ∃ u1 u2, us = [u1, u2] ∧ RelV v u1 ∧ RelV w u2 := by
    cases r1 with
    | cons p q =>
      cases q with
      | cons p' q' =>
        cases q'
        exact ⟨_, _, rfl, p, p'⟩
  refine wpAny_newObj_type ?_ (by show 2 ≤ sizeLine; decide)
  have I2 : Inv X pins σ H1 { s1 with heap := s1.heap.push { cls := .type "tuple", data := .seq [u1, u2].toArray } } := I1.kept (t' := s1.toks) fun b o e => Heap.get?_push_of_some _ e
  rw [hw]
  refine wpAny_bind (wpAny_pure ?_)
  show wpAny (model X.prog X.w) X.A (do rule "assign.swapped-stores"; let items ← unpackItems (.ref s1.heap.objs.size) 2 none; assignInOrder [fun v => bindName X.env y v, fun v => bindName X.env x v] items.reverse; pure Flow.next) _ _ _
  refine wpAny_bind (wpAny_rule (wpAny_bind (unpackItems_tuple (items := #[u1, u2]) (I.ok.hd hc) (IsTup.new s1.heap _) fun h' hx' => ?_)))
  have I3 := I2.kept (h' := h') (t' := s1.toks) fun b o e => hx' b o (Nat.ne_of_lt (Heap.lt_size e)) e
  show wpAny _ _ (assignInOrder [fun v => bindName X.env y v, fun v => bindName X.env x v] [u2, u1] >>= fun _ => pure Flow.next) _ _ _
  refine wpAny_bind (assignInOrder_cons (wpAny_bindName (store_ok I3 hN hj (.inl hy) rw' (fun s2 I4 => ?_) (.inr hy))))
  refine assignInOrder_cons (wpAny_bindName (store_ok I4 hN hi (.inl hx) rv (fun s3 I5 => assignInOrder_nil (wpAny_pure ?_)) (.inr hx)))
  rw [List.set_comm _ _ (Ne.symm hij)] at I5
  exact ⟨_, H1, I5, q1⟩
/-- name op= e -/
def tAug (i : Nat) (te : TE) (ti : TIp) : TS := fun D σ H => ∃ x, σ[i]? = some (some x) ∧ te σ H fun y H1 => ti x y H1 fun z H2 => D.nx (σ.set i (some z)) H2
theorem ps_aug {i : Nat} {x : Str} {e : Expr} {te : TE} {op : Operator} {ti : TIp} {pos' : Pos} (hN : X.N.Nodup) (hi : X.N[i]? = some x) (hx : Loc X.env.scope x) (he : PE X e te) (ho : PIp X op ti) (hf : X.fn x = true ∨ X.env.scope.names.lookup x = some .local := by first | exact .inl rfl | exact .inr rfl | assumption) :
    PS X (.AugAssign (.Name x pos') op e pos) (tAug i te ti) := by
  intro pins s σ H D I h
  obtain ⟨v, e1, h⟩ := h
  obtain ⟨m, hn, hl⟩ := I.loc
  have vis : Vis X.env.scope x := by rcases hx with k | k; exact .inl k; exact .inr (.inl k)
  obtain ⟨u, r, l⟩ := hl i x v hi e1 vis
  refine wpAny_AugAssign_Name ?_
  have go : wpAny (model X.prog X.w) X.A (eval e X.env) (fun w s₂ => wpAny (model X.prog X.w) X.A (inplaceOp op u w) (fun r s₃ => wpAny (model X.prog X.w) X.A (storeName X.env x r) (fun _ => SP X pins D .next) X.xe s₃) X.xe s₂) X.xe s := by
    refine thn (he pins s σ H _ I h) fun w s1 ⟨y, H1, I1, r1, q1⟩ => ?_
    refine thn (ho pins s1 σ H1 v y u w _ I1 r r1 q1) fun z s2 ⟨zv, H2, I2, r2, q2⟩ => ?_
    exact store_ok I2 hN hi hx r2 (fun s3 I3 => ⟨_, H2, I3, q2⟩) hf
  rcases l with ⟨hk, hm⟩ | ⟨hk, c, hc, hcell⟩
  · exact wpAny_loadName_local I.ok.kind hk hn hm go
  · rcases hk with hk | hk
    · exact wpAny_loadName_cell I.ok.kind hk hc hcell go
    · rcases hx with k | k
      · have : X.env.scope.names.lookup x = some .free := hk
        rw [k] at this; cases this
      · have : X.env.scope.names.lookup x = some .free := hk
        rw [k] at this; cases this
/-- o[i] op= e -/
def tAugS (to ti te : TE) (tget : V → V → Hp → VK → Prop) (tip : TIp) (tset : TSet) : TS := fun D σ H => to σ H fun o H1 => ti σ H1 fun i H2 => tget o i H2 fun x H3 => te σ H3 fun y H4 => tip x y H4 fun z H5 => tset o i z H5 fun H6 => D.nx σ H6
/-- o[i], by values -/
def PGet (X : Cx) (t : V → V → Hp → VK → Prop) : Prop :=
  ∀ (pins : List (Addr × Obj)) (s : Shared) (σ : St) (H : Hp) (o i : V) (ov iv : Value) (Q : VK), Inv X pins σ H s → RelV o ov → RelV i iv → t o i H Q →
    wpAny (model X.prog X.w) X.A (getItem ov iv) (EP X pins σ Q) X.xe s
theorem ps_augS {o i e : Expr} {to ti te : TE} {tget : V → V → Hp → VK → Prop} {tip : TIp} {tset : TSet} {op : Operator} {tpos : Pos} (ho : PE X o to) (hi : PE X i ti) (hg : PGet X tget) (he : PE X e te) (hp : PIp X op tip) (hs : PSet X tset)
    (ha : ∀ ov iv new, augStore i ov iv new = (do holding [new, ov, iv] (setItem ov iv new); release [new, ov, iv] []; pure .next) := by intros; rfl) : PS X (.AugAssign (.Subscript o i tpos) op e pos) (tAugS to ti te tget tip tset) := by
  intro pins s σ H D I h
  refine wpAny_AugAssign_SubscriptAny (thn (ho pins s σ H _ I h) fun ov s1 ⟨x1, H1, I1, r1, q1⟩ => ?_) ha
  refine thn (hi pins s1 σ H1 _ I1 q1) fun iv s2 ⟨x2, H2, I2, r2, q2⟩ => ?_
  refine thn (hg pins s2 σ H2 x1 x2 ov iv _ I2 r1 r2 q2) fun old s3 ⟨x3, H3, I3, r3, q3⟩ => ?_
  refine thn (he pins s3 σ H3 _ I3 q3) fun v s4 ⟨x4, H4, I4, r4, q4⟩ => ?_
  refine thn (hp pins s4 σ H4 x3 x4 old v _ I4 r3 r4 q4) fun new s5 ⟨x5, H5, I5, r5, q5⟩ => ?_
  exact thn (hs pins s5 σ H5 x1 x2 x5 ov iv new _ I5 r1 r2 r5 q5) fun _ s6 ⟨H6, I6, q6⟩ => ⟨σ, H6, I6, q6⟩
/-- ints -/
def ipI (f : Int → Int → Int) : TIp := fun x y H Q => ∃ i j, x = .int i ∧ y = .int j ∧ Q (.int (f i j)) H
theorem ip_add : PIp X .Add (ipI fun i j => i + j) := by
  intro pins s σ H x y v u Q I r1 r2 h
  obtain ⟨i, j, e1, e2, q⟩ := h
  subst e1; subst e2
  obtain ⟨t, rfl⟩ := r1
  obtain ⟨t', rfl⟩ := r2
  exact iadd_int ⟨.int _, H, I.tok _, ⟨_, rfl⟩, q⟩
theorem ip_sub : PIp X .Sub (ipI fun i j => i - j) := by
  intro pins s σ H x y v u Q I r1 r2 h
  obtain ⟨i, j, e1, e2, q⟩ := h
  subst e1; subst e2
  obtain ⟨t, rfl⟩ := r1
  obtain ⟨t', rfl⟩ := r2
  exact isub_int ⟨.int _, H, I.tok _, ⟨_, rfl⟩, q⟩
end

/-! ### while -/
section
variable {X : Cx} {pos : Pos}
/-- the invariant W with its measure -/
def tWhile (c : TT) (tb : TS) : TS := fun D σ H => ∃ W : Nat → St → Hp → Prop, (∃ m, W m σ H) ∧ ∀ m σ H, W m σ H →
  c σ H fun b H1 => if b = true then ∃ N : St → Hp → Prop, (∀ σ' H', N σ' H' → ∃ m', m' < m ∧ W m' σ' H') ∧ tb { D with nx := N, ct := N, bk := D.nx } σ H1 else D.nx σ H1
theorem ps_while {c : Expr} {body : List Stmt} {tc : TT} {tb : TS} (hp : PassesOwn (model X.prog X.w) X.A X.env X.xe) (hc : PT X c tc) (hb : PSs X body tb) : PS X (.While c body [] pos) (tWhile tc tb) := by
  intro pins s σ H D I h
  obtain ⟨W, ⟨m0, w0⟩, turn⟩ := h
  refine wpAny_While (codeAny_whileLoop (fun n s' => ∃ σ' H', Inv X pins σ' H' s' ∧ W n σ' H') ?_ m0 ⟨σ, H, I, w0⟩)
  rintro n s1 ⟨σ1, H1, I1, w1⟩
  refine wpAny_passesOwn hp (thn (hc pins s1 σ1 H1 _ I1 (turn n σ1 H1 w1)) fun b s2 ⟨H2, I2, q2⟩ => ?_)
  cases b with
  | true =>
    obtain ⟨N, hN, q2⟩ := q2
    rw [if_pos rfl]
    refine wpAny_passesOwn hp (thn (hb pins s2 σ1 H2 _ I2 q2) fun f s3 q3 => ?_)
    cases f with
    | next =>
      obtain ⟨σ3, H3, I3, n3⟩ := q3
      obtain ⟨m', hm, w3⟩ := hN σ3 H3 n3
      exact ⟨m', hm, σ3, H3, I3, w3⟩
    | cont =>
      obtain ⟨σ3, H3, I3, n3⟩ := q3
      obtain ⟨m', hm, w3⟩ := hN σ3 H3 n3
      exact ⟨m', hm, σ3, H3, I3, w3⟩
    | brk => exact q3
    | ret v => exact q3
  | false =>
    rw [if_neg Bool.false_ne_true]
    exact wpAny_execs_nil ⟨σ1, H2, I2, q2⟩
end

/-! ### what a loop or a comprehension walks -/
/-- at turn i: it yields x (the heap may grow), or it stops -/
structure It where
  go : Nat → Hp → Prop
  yld : Nat → Hp → V → Hp → Prop
  stop : Nat → Hp → Prop
/-- the iterator's own objects may turn: they are not the frame's, not pinned, younger than the entry (or a comprehension's own) -/
def FpOk (X : Cx) (pins : List (Addr × Obj)) (H : Hp) (b : Addr) : Prop :=
  H b = none ∧ b ≠ X.env.locals ∧ b ∉ X.fs ∧ (b ∈ X.ex ∨ X.s₀.heap.objs.size ≤ b) ∧ (∀ x c, X.env.cells.lookup x = some c → c ≠ b) ∧ ∀ p ∈ X.pn ++ pins, p.1 ≠ b
theorem Inv.fpOk {X : Cx} {pins : List (Addr × Obj)} {σ : St} {H H' : Hp} {s : Shared} {b : Addr} (I : Inv X pins σ H s) (hb : s.heap.objs.size ≤ b) (hn : H' b = none) : FpOk X pins H' b := by
  refine ⟨hn, Nat.ne_of_gt (Nat.lt_of_lt_of_le I.lt hb), I.nofs hb, .inr (Nat.le_trans I.sz hb), fun x c e z => ?_, fun p hp z => ?_⟩
  · obtain ⟨v, q⟩ := I.cell x c e
    exact absurd (Nat.lt_of_lt_of_le q.lt (by rw [z]; exact hb)) (Nat.lt_irrefl _)
  · exact absurd (Nat.lt_of_lt_of_le (Heap.lt_size (I.pin p hp).1) (by rw [z]; exact hb)) (Nat.lt_irrefl _)
structure Turn (P : Program) (w : World) (K : PySem.W.Frag) (tg : Expr) (J : It) (fp : List Addr) (it : Addr) (tn : Nat → Heap → Prop) : Prop where
  mem : it ∈ fp
  obj : ∀ i h, tn i h → ∀ b ∈ fp, ∃ o, h.get? b = some o ∧ ∀ v, o.data ≠ .cell v
  keep : ∀ i h h', tn i h → (∀ b ∈ fp, ∀ o, h.get? b = some o → h'.get? b = some o) → tn i h'
  item : ∀ (X : Cx), X.prog = P → X.w = w → X.K = K → X.calm = true → ∀ (i : Nat) (pins : List (Addr × Obj)) (s : Shared) (σ : St) (H : Hp) (E : Value → Shared → Prop), Inv X pins σ H s → (∀ b ∈ fp, FpOk X pins H b) → tn i s.heap → J.go i H →
    wpAny (model P w) X.A (pyNext (.ref it)) (fun r s1 => ∃ u, r = some u ∧
      wpAny (model P w) X.A (letOwnedTupleGo tg (.ref it) u) (fun _ s2 => ∃ x H', Inv X pins σ H' s2 ∧ RelV x u ∧ J.yld i H x H' ∧ tn (i + 1) s2.heap ∧ ∀ b ∈ fp, H' b = none) E s1) E s
  done : ∀ (X : Cx), X.prog = P → X.w = w → X.K = K → X.calm = true → ∀ (i : Nat) (pins : List (Addr × Obj)) (s : Shared) (σ : St) (H : Hp) (E : Value → Shared → Prop), Inv X pins σ H s → (∀ b ∈ fp, FpOk X pins H b) → tn i s.heap → J.stop i H →
    wpAny (model P w) X.A (pyNext (.ref it)) (fun r s1 => r = none ∧ Inv X pins σ H s1) E s
  self : ∀ (A : Around) (i : Nat) (s : Shared) (Q : Value → Shared → Prop) (E : Value → Shared → Prop), tn i s.heap → Q (.ref it) s → wpAny (model P w) A (pyIter (.ref it)) Q E s
abbrev TI := St → Hp → (It → Hp → Prop) → Prop
/-- an iterator has come -/
def PIE (X : Cx) (pins : List (Addr × Obj)) (σ : St) (tg : Expr) (R : It → Hp → Prop) (itv : Value) (s2 : Shared) : Prop :=
  ∃ (it : Addr) (fp : List Addr) (tn : Nat → Heap → Prop) (J : It) (H' : Hp), itv = .ref it ∧ Inv X pins σ H' s2 ∧ Turn X.prog X.w X.K tg J fp it tn ∧ tn 0 s2.heap ∧ (∀ b ∈ fp, FpOk X pins H' b) ∧ R J H'
def PI (X : Cx) (tg iter : Expr) (wi : TI) : Prop :=
  ∀ (pins : List (Addr × Obj)) (s : Shared) (σ : St) (H : Hp) (R : It → Hp → Prop), Inv X pins σ H s → wi σ H R →
    wpAny (model X.prog X.w) X.A (eval iter X.env) (fun v s1 => wpAny (model X.prog X.w) X.A (pyIter v) (PIE X pins σ tg R) X.xe s1) X.xe s

/-- the step ahead of the store is nothing for an iterator that keeps no tuple -/
theorem go_of {M : Model} {A : Around} {E : Value → Shared → Prop} {s : Shared} {tg : Expr} {it : Addr} {u : Value} {o : Obj} {n : String} {vs : Array Value} {Q : Unit → Shared → Prop} (ho : s.heap.get? it = some o) (hc : o.cls = .type n) (hd : o.data = .fields vs)
    (hn : ["enumerate", "zip", "dict_itemiterator", "dict_reverseitemiterator", "odict_iterator", "itertools.zip_longest", "itertools.pairwise"].contains n = false) (hQ : Q () s) : wpAny M A (letOwnedTupleGo tg (.ref it) u) Q E s := by
  unfold letOwnedTupleGo
  cases tg <;> first
    | exact wpAny_pure hQ
    | (cases u <;> first
        | exact wpAny_pure hQ
        | (refine wpAny_bind (wpAny_load ho ?_)
           rw [hc, hd]
           show wpAny M A (if (["enumerate", "zip", "dict_itemiterator", "dict_reverseitemiterator", "odict_iterator", "itertools.zip_longest", "itertools.pairwise"].contains n && vs[0]? == some (rawInt _)) = true then _ else _) Q E s
           rw [if_neg (by intro h; rw [hn, Bool.false_and] at h; cases h)]
           exact wpAny_pure hQ))

/-- the list at a, as it stands at each turn (a loop may append to it) -/
def Itl (K : PySem.W.Frag) (a : Addr) : It :=
  ⟨fun i H => ∃ xs x, SqL K H a xs ∧ xs[i]? = some x, fun i H x H' => H' = H ∧ ∀ xs, SqL K H a xs → xs[i]? = some x, fun i H => ∃ xs, SqL K H a xs ∧ xs.length ≤ i⟩
def Itt (K : PySem.W.Frag) (a : Addr) : It :=
  ⟨fun i H => ∃ xs x, SqT K H a xs ∧ xs[i]? = some x, fun i H x H' => H' = H ∧ ∀ xs, SqT K H a xs → xs[i]? = some x, fun i H => ∃ xs, SqT K H a xs ∧ xs.length ≤ i⟩
/-- lo, lo + 1, .. (n of them) -/
def Itr (lo : Int) (n : Nat) : It := ⟨fun i _ => i < n, fun i H x H' => H' = H ∧ x = .int (lo + i), fun i _ => n ≤ i⟩
theorem turn_list {P : Program} {w : World} {K : PySem.W.Frag} {tg : Expr} (a it : Addr) : Turn P w K tg (Itl K a) [it] it (fun i h => h.IsListIter it a i) where
  mem := by simp
  obj := fun i h st b hb => by
    have e : b = it := by simpa using hb
    subst e
    obtain ⟨o, e, c, d⟩ := st
    exact ⟨o, e, fun v z => by rw [d] at z; cases z⟩
  keep := fun i h h' st k => st.at fun o e => k it (by simp) o e
  item := by
    intro X hP hw hK hc i pins s σ H E I hf st hg
    subst hP hw hK
    obtain ⟨xs, x, hq, hx⟩ := hg
    obtain ⟨its, rv, p, hz⟩ := I.list hq
    obtain ⟨u, hu, ru⟩ := rv.get hx
    obtain ⟨f0, f1, f2, f3, f4, f5⟩ := hf it (by simp)
    refine wpAny_pyNext_list_item st p.isList (x := u) (by simpa using hu) fun h' st' sb => ?_
    have I1 : Inv X pins σ H { s with heap := h' } := I.turned (t' := s.toks) (fun b o hb e => (sb.2 b hb).trans e) f0 f1 f3 f4 f5
    obtain ⟨o, e, c, d⟩ := id st'
    exact ⟨u, rfl, go_of (s := { s with heap := h' }) e c d (by decide) ⟨x, H, I1, ru, ⟨rfl, fun ys hy => by rw [I.list_inj hy hq]; exact hx⟩, st', fun b hb => (hf b hb).1⟩⟩
  done := by
    intro X hP hw hK hc i pins s σ H E I hf st hg
    subst hP hw hK
    obtain ⟨xs, hq, hx⟩ := hg
    obtain ⟨its, rv, p, hz⟩ := I.list hq
    obtain ⟨f0, f1, f2, f3, f4, f5⟩ := hf it (by simp)
    have hl := rv.length
    exact wpAny_pyNext_list_end (I.ok.hd hc) st p.isList (by simp; omega) fun h' eb => ⟨rfl, I.turned (t' := s.toks) (fun b o hb e => eb b o hb e) f0 f1 f3 f4 f5⟩
  self := fun _ _ _ _ _ st h => wpAny_pyIter_listiter st h
theorem turn_tuple {P : Program} {w : World} {K : PySem.W.Frag} {tg : Expr} (a it : Addr) : Turn P w K tg (Itt K a) [it] it (fun i h => h.IsTupleIter it a i) where
  mem := by simp
  obj := fun i h st b hb => by
    have e : b = it := by simpa using hb
    subst e
    obtain ⟨o, e, c, d⟩ := st
    exact ⟨o, e, fun v z => by rw [d] at z; cases z⟩
  keep := fun i h h' st k => st.at fun o e => k it (by simp) o e
  item := by
    intro X hP hw hK hc i pins s σ H E I hf st hg
    subst hP hw hK
    obtain ⟨xs, x, hq, hx⟩ := hg
    obtain ⟨its, rv, p, hz⟩ := I.tuple hq
    obtain ⟨u, hu, ru⟩ := rv.get hx
    obtain ⟨f0, f1, f2, f3, f4, f5⟩ := hf it (by simp)
    refine wpAny_pyNext_tuple_item st (show s.heap.IsTuple a its.toArray from p) (x := u) (by simpa using hu) fun h' st' sb => ?_
    have I1 : Inv X pins σ H { s with heap := h' } := I.turned (t' := s.toks) (fun b o hb e => (sb.2 b hb).trans e) f0 f1 f3 f4 f5
    obtain ⟨o, e, c, d⟩ := id st'
    exact ⟨u, rfl, go_of (s := { s with heap := h' }) e c d (by decide) ⟨x, H, I1, ru, ⟨rfl, fun ys hy => by rw [I.tuple_inj hy hq]; exact hx⟩, st', fun b hb => (hf b hb).1⟩⟩
  done := by
    intro X hP hw hK hc i pins s σ H E I hf st hg
    subst hP hw hK
    obtain ⟨xs, hq, hx⟩ := hg
    obtain ⟨its, rv, p, hz⟩ := I.tuple hq
    obtain ⟨f0, f1, f2, f3, f4, f5⟩ := hf it (by simp)
    have hl := rv.length
    exact wpAny_pyNext_tuple_end (I.ok.hd hc) st (show s.heap.IsTuple a its.toArray from p) (by simp; omega) fun h' eb => ⟨rfl, I.turned (t' := s.toks) (fun b o hb e => eb b o hb e) f0 f1 f3 f4 f5⟩
  self := fun _ _ _ _ _ st h => wpAny_pyIter_tupleiter st h
theorem turn_range {P : Program} {w : World} {K : PySem.W.Frag} {tg : Expr} (it : Addr) (lo : Int) (n : Nat) : Turn P w K tg (Itr lo n) [it] it (fun i h => IsRangeIter h it (lo + (i : Nat) * 1) ((n : Int) - (i : Nat)) 1) where
  mem := by simp
  obj := fun i h st b hb => by
    have e : b = it := by simpa using hb
    subst e
    exact ⟨_, st, fun v z => by
      have z' : Data.fields _ = Data.cell v := z
      cases z'⟩
  keep := fun i h h' st k => k it (by simp) _ st
  item := by
    intro X hP hw hK hc i pins s σ H E I hf st hg
    subst hP hw hK
    obtain ⟨f0, f1, f2, f3, f4, f5⟩ := hf it (by simp)
    have W := Walks.range (prog := X.prog) (w := X.w) (I.ok.hd hc) it lo 1 n
    refine W.item i s _ _ hg st fun v h' tk hv st' kk => ?_
    obtain ⟨t, rfl⟩ := hv
    have I1 : Inv X pins σ H { s with heap := h', toks := tk } := I.turned (fun b o hb e => kk b o (by simpa using hb) e) f0 f1 f3 f4 f5
    refine ⟨_, rfl, go_of (s := { s with heap := h', toks := tk }) (n := "range_iterator") st' rfl rfl (by decide) ⟨.int (lo + i), H, I1, ⟨t, ?_⟩, ⟨rfl, rfl⟩, st', fun b hb => (hf b hb).1⟩⟩
    rw [Int.mul_one]
  done := by
    intro X hP hw hK hc i pins s σ H E I hf st hg
    subst hP hw hK
    obtain ⟨f0, f1, f2, f3, f4, f5⟩ := hf it (by simp)
    exact wpAny_pyNext_range_end (I.ok.hd hc) st (by have : n ≤ i := hg; omega) fun h' eb => ⟨rfl, I.turned (t' := s.toks) (fun b o hb e => eb b o hb e) f0 f1 f3 f4 f5⟩
  self := fun _ _ _ _ _ st h => wpAny_pyIter_rangeiter st h
end L2

namespace L2
open PySem PySem.Spec PyProof.Rows
section
variable {X : Cx} {tg : Expr}
def iList (K : PySem.W.Frag) (tl : TE) : TI := fun σ H R => tl σ H fun x H1 => ∃ a, x = .ref a ∧ (∃ xs, SqL K H1 a xs) ∧ R (Itl K a) H1
def iTup (K : PySem.W.Frag) (tl : TE) : TI := fun σ H R => tl σ H fun x H1 => ∃ a, x = .ref a ∧ (∃ xs, SqT K H1 a xs) ∧ R (Itt K a) H1
theorem pi_list {l : Expr} {tl : TE} (hl : PE X l tl) : PI X tg l (iList X.K tl) := by
  intro pins s σ H R I h
  refine thn (hl pins s σ H _ I h) fun v s1 ⟨x, H1, I1, r1, q1⟩ => ?_
  obtain ⟨a, e, ⟨xs, hq⟩, q⟩ := q1
  subst e
  cases r1
  obtain ⟨its, rv, p, hz⟩ := I1.list hq
  refine wpAny_pyIter_list p.isList ?_
  refine ⟨s1.heap.objs.size, [s1.heap.objs.size], _, _, H1, rfl, I1.kept (t' := s1.toks) fun b o e => Heap.get?_push_of_some _ e, turn_list a _, ⟨_, Heap.get?_push_size _ rfl, rfl, rfl⟩, fun b hb => ?_, q⟩
  have e : b = s1.heap.objs.size := by simpa using hb
  subst e
  exact I1.fpOk (Nat.le_refl _) (I1.hok.fresh (Nat.le_refl _))
theorem pi_tup {l : Expr} {tl : TE} (hl : PE X l tl) : PI X tg l (iTup X.K tl) := by
  intro pins s σ H R I h
  refine thn (hl pins s σ H _ I h) fun v s1 ⟨x, H1, I1, r1, q1⟩ => ?_
  obtain ⟨a, e, ⟨xs, hq⟩, q⟩ := q1
  subst e
  cases r1
  obtain ⟨its, rv, p, hz⟩ := I1.tuple hq
  refine wpAny_pyIter_tuple (show s1.heap.IsTuple a its.toArray from p) ?_
  refine ⟨s1.heap.objs.size, [s1.heap.objs.size], _, _, H1, rfl, I1.kept (t' := s1.toks) fun b o e => Heap.get?_push_of_some _ e, turn_tuple a _, ⟨_, Heap.get?_push_size _ rfl, rfl, rfl⟩, fun b hb => ?_, q⟩
  have e : b = s1.heap.objs.size := by simpa using hb
  subst e
  exact I1.fpOk (Nat.le_refl _) (I1.hok.fresh (Nat.le_refl _))
/-- a range object just made, walked -/
theorem range_it {pins : List (Addr × Obj)} {σ : St} {H : Hp} {s : Shared} {R : It → Hp → Prop} {E : Value → Shared → Prop} {lo hi : Int} {t u v : Tok} {tk : Nat} (I : Inv X pins σ H s) (h1 : -(2 ^ 62) ≤ lo) (h2 : lo < 2 ^ 62) (h3 : -(2 ^ 62) ≤ hi) (h4 : hi < 2 ^ 62)
    (q : R (Itr lo (hi - lo).toNat) H) : wpAny (model X.prog X.w) X.A (pyIter (.ref s.heap.objs.size)) (PIE X pins σ tg R) E { s with heap := s.heap.push { cls := .type "range", data := .fields #[.int lo t, .int hi u, .int 1 v] }, toks := tk } := by
  refine wpAny_pyIter_range (IsRange.new ..) (small_one h1 h2 h3 h4) ?_
  have I1 : Inv X pins σ H { s with heap := s.heap.push { cls := .type "range", data := .fields #[.int lo t, .int hi u, .int 1 v] }, toks := tk } := I.kept fun b o e => Heap.get?_push_of_some _ e
  refine ⟨(s.heap.push { cls := .type "range", data := .fields #[.int lo t, .int hi u, .int 1 v] }).objs.size, [(s.heap.push { cls := .type "range", data := .fields #[.int lo t, .int hi u, .int 1 v] }).objs.size], _, _, H, rfl,
    I1.kept (t' := tk) fun b o e => Heap.get?_push_of_some _ e, turn_range _ lo (hi - lo).toNat, ?_, fun b hb => ?_, q⟩
  · have e1 : lo + ((0 : Nat) : Int) * 1 = lo := by simp
    have e2 : (((hi - lo).toNat : Nat) : Int) - ((0 : Nat) : Int) = Builtin.Range.rangeSize lo hi 1 := by rw [rangeSize_one]; split <;> omega
    show IsRangeIter _ _ (lo + ((0 : Nat) : Int) * 1) ((((hi - lo).toNat : Nat) : Int) - ((0 : Nat) : Int)) 1
    rw [e1, e2]
    exact Heap.get?_push_size _ rfl
  · have e : b = (s.heap.push { cls := .type "range", data := .fields #[.int lo t, .int hi u, .int 1 v] }).objs.size := by simpa using hb
    subst e
    exact I1.fpOk (Nat.le_refl _) (I1.hok.fresh (Nat.le_refl _))
def iRng1 (ta : TA) : TI := fun σ H R => ta σ H fun vs H1 => ∃ j : Int, vs = [.int j] ∧ -(2 ^ 62) ≤ j ∧ j < 2 ^ 62 ∧ R (Itr 0 j.toNat) H1
def iRng2 (ta : TA) : TI := fun σ H R => ta σ H fun vs H1 => ∃ i j : Int, vs = [.int i, .int j] ∧ (-(2 ^ 62) ≤ i ∧ i < 2 ^ 62 ∧ -(2 ^ 62) ≤ j ∧ j < 2 ^ 62) ∧ R (Itr i (j - i).toNat) H1
theorem pi_range1 {a : Expr} {ta : TA} {p pos : Pos} (hg : Gl X "range") (hm : X.mg "range" = none) (ha : PA X [a] ta) (hs : starEach [a] X.env = [(false, eval a X.env)] := by rfl) : PI X tg (.Call (.Name "range" p) [a] [] pos) (iRng1 ta) := by
  intro pins s σ H R I h
  refine Call_ (ld_blt I hg hm boot_range (PyProof.Rows.callWith_type1 (thn (ha pos pins s σ H _ I h) fun us s1 ⟨vs, H1, I1, r1, q1⟩ => ?_) hs rfl))
  obtain ⟨j, e, q1, q2, q⟩ := q1
  subst e
  cases r1 with
  | cons r rr =>
    cases rr
    obtain ⟨t, rfl⟩ := r
    exact call_range_1 (range_it I1 (by omega) (by omega) q1 q2 (by simpa using q))
theorem pi_range2 {a b : Expr} {ta : TA} {p pos : Pos} (hg : Gl X "range") (hm : X.mg "range" = none) (ha : PA X [a, b] ta) (hs : starEach [a, b] X.env = [(false, eval a X.env), (false, eval b X.env)] := by rfl) (hs2 : starEach [b] X.env = [(false, eval b X.env)] := by rfl) :
    PI X tg (.Call (.Name "range" p) [a, b] [] pos) (iRng2 ta) := by
  intro pins s σ H R I h
  refine Call_ (ld_blt I hg hm boot_range (PyProof.Rows.callWith_type1 (thn (ha pos pins s σ H _ I h) fun us s1 ⟨vs, H1, I1, r1, q1⟩ => ?_) (by rw [hs, hs2]) (by rw [hs2]; rfl)))
  obtain ⟨i, j, e, ⟨q1, q2, q3, q4⟩, q⟩ := q1
  subst e
  cases r1 with
  | cons r rr =>
    cases rr with
    | cons r' rr =>
      cases rr
      obtain ⟨t, rfl⟩ := r
      obtain ⟨t', rfl⟩ := r'
      exact call_range_2 (range_it I1 q1 q2 q3 q4 q)

/-! ### for -/
/-- W: the invariant by the turn and a measure; N: what the body is to reach -/
def tFor (wi : TI) (g : TG) (tb : TS) : TS := fun D σ H => wi σ H fun J H1 => ∃ W : Nat → Nat → St → Hp → Prop, (∃ m, W 0 m σ H1) ∧ ∀ i m σ H, W i m σ H →
  (J.stop i H ∧ D.nx σ H) ∨ (J.go i H ∧ ∃ N : St → Hp → Prop, (∀ σ' H', N σ' H' → ∃ m', m' < m ∧ W (i + 1) m' σ' H') ∧ ∀ x H', J.yld i H x H' → g x σ H' fun σ2 H2 => tb { D with nx := N, ct := N, bk := D.nx } σ2 H2)
/-- the records at fp as they stand -/
def pinsAt (fp : List Addr) (h : Heap) : List (Addr × Obj) := fp.filterMap fun b => (h.get? b).map fun o => (b, o)
theorem mem_pinsAt {fp : List Addr} {h : Heap} {b : Addr} {o : Obj} (hb : b ∈ fp) (e : h.get? b = some o) : (b, o) ∈ pinsAt fp h := List.mem_filterMap.mpr ⟨b, hb, by rw [e]; rfl⟩
theorem of_pinsAt {fp : List Addr} {h : Heap} {p : Addr × Obj} (hp : p ∈ pinsAt fp h) : p.1 ∈ fp ∧ h.get? p.1 = some p.2 := by
  obtain ⟨b, hb, e⟩ := List.mem_filterMap.mp hp
  cases q : h.get? b with
  | none => rw [q] at e; cases e
  | some o =>
    rw [q] at e
    have e' : (b, o) = p := Option.some.inj e
    subst e'
    exact ⟨hb, q⟩
theorem Inv.pinned {pins : List (Addr × Obj)} {σ : St} {H : Hp} {s : Shared} {fp : List Addr} (I : Inv X pins σ H s) (hf : ∀ b ∈ fp, FpOk X pins H b) (ho : ∀ b ∈ fp, ∃ o, s.heap.get? b = some o ∧ ∀ v, o.data ≠ .cell v) : Inv X (pins ++ pinsAt fp s.heap) σ H s :=
  I.pins_of fun p hp => (List.mem_append.mp hp).elim (fun z => I.pin p (List.mem_append_right _ z)) fun z => by
    obtain ⟨hb, e⟩ := of_pinsAt z
    obtain ⟨f0, f1, f2, _⟩ := hf p.1 hb
    obtain ⟨o, e', d⟩ := ho p.1 hb
    rw [e] at e'; cases e'
    exact ⟨e, f0, f1, f2, d⟩
theorem Inv.unpinned {pins pl : List (Addr × Obj)} {σ : St} {H : Hp} {s : Shared} (I : Inv X (pins ++ pl) σ H s) : Inv X pins σ H s := I.pins_of fun p hp => I.pin p (List.mem_append_right _ (List.mem_append_left _ hp))
theorem ps_for {iter : Expr} {body : List Stmt} {wi : TI} {g : TG} {tb : TS} {pos : Pos} (hp : PassesOwn (model X.prog X.w) X.A X.env X.xe) (hc : X.calm = true) (hi : PI X tg iter wi) (hg : PG X tg g) (hb : PSs X body tb)
    (hs : ∀ x, foldedSetIterable iter X.env x = pure x := by intro _; rfl) : PS X (.For tg iter body [] pos) (tFor wi g tb) := by
  intro pins s σ H D I h
  refine wpAny_For (thn (hi pins s σ H _ I h) fun v s1 h1 => thn h1 fun itv s2 h2 => ?_) hs
  obtain ⟨it, fp, tn, J, H2, e, I2, T, st2, f2, W, ⟨m0, w0⟩, turn⟩ := h2
  subst e
  -- what stays true of the iterator's objects through the loop
  have stat : ∀ {H' : Hp}, (∀ b ∈ fp, H' b = none) → ∀ b ∈ fp, FpOk X pins H' b := fun hn b hb => ⟨hn b hb, (f2 b hb).2⟩
  refine codeAny_forLoop_any (fun n s' => ∃ i σ' H', Inv X pins σ' H' s' ∧ tn i s'.heap ∧ (∀ b ∈ fp, H' b = none) ∧ W i n σ' H') ?_ m0 ⟨0, σ, H2, I2, st2, fun b hb => (f2 b hb).1, w0⟩
  rintro n s3 ⟨i, σ3, H3, I3, st3, fr3, w3⟩
  rcases turn i n σ3 H3 w3 with ⟨stop, qn⟩ | ⟨go, N, hN, step⟩
  · refine wpAny_passesOwn hp (thn (T.done X rfl rfl rfl hc i pins s3 σ3 H3 X.xe I3 (stat fr3) st3 stop) fun r s4 ⟨hr, I4⟩ => ?_)
    subst hr
    exact wpAny_execs_nil ⟨σ3, H3, I4, qn⟩
  · refine wpAny_passesOwn hp (thn (T.item X rfl rfl rfl hc i pins s3 σ3 H3 X.xe I3 (stat fr3) st3 go) fun r s4 ⟨u, hr, h4⟩ => ?_)
    subst hr
    refine wpAny_passesOwn hp (thn h4 fun _ s5 ⟨x, H5, I5, r5, y5, st5, fr5⟩ => ?_)
    have I5' := I5.pinned (stat fr5) (T.obj _ _ st5)
    refine wpAny_passesOwn hp (thn (hg _ s5 σ3 H5 x u _ I5' r5 (step x H5 y5)) fun _ s6 ⟨σ6, H6, I6, q6⟩ => ?_)
    refine wpAny_passesOwn hp (thn (hb _ s6 σ6 H6 _ I6 q6) fun f s7 q7 => ?_)
    have again : ∀ {σ7 : St} {H7 : Hp}, Inv X (pins ++ pinsAt fp s5.heap) σ7 H7 s7 → N σ7 H7 → ∃ m, m < n ∧ ∃ i σ' H', Inv X pins σ' H' s7 ∧ tn i s7.heap ∧ (∀ b ∈ fp, H' b = none) ∧ W i m σ' H' := fun {σ7 H7} I7 n7 => by
      obtain ⟨m', hm, w7⟩ := hN σ7 H7 n7
      refine ⟨m', hm, i + 1, σ7, H7, I7.unpinned, T.keep _ _ _ st5 fun b hb o e => (I7.pin (b, o) (List.mem_append_right _ (List.mem_append_right _ (mem_pinsAt hb e)))).1, fun b hb => ?_, w7⟩
      obtain ⟨o, e, d⟩ := T.obj _ _ st5 b hb
      exact (I7.pin (b, o) (List.mem_append_right _ (List.mem_append_right _ (mem_pinsAt hb e)))).2.1
    cases f with
    | next => obtain ⟨σ7, H7, I7, n7⟩ := q7; exact again I7 n7
    | cont => obtain ⟨σ7, H7, I7, n7⟩ := q7; exact again I7 n7
    | brk => obtain ⟨σ7, H7, I7, q7⟩ := q7; exact ⟨σ7, H7, I7.unpinned, q7⟩
    | ret v => obtain ⟨x7, σ7, H7, I7, r7, q7⟩ := q7; exact ⟨x7, σ7, H7, I7.unpinned, r7, q7⟩
end

/-! ### the forms one uses -/
/-- over a list that the body leaves as it is -/
theorem for_list {K : PySem.W.Frag} {a : Addr} {xs : List V} {g : TG} {tb : TS} {D : Ends} {σ : St} {H : Hp} (Pv : Nat → St → Hp → Prop) (h0 : Pv 0 σ H) (hl : ∀ i σ H, i ≤ xs.length → Pv i σ H → SqL K H a xs)
    (hs : ∀ i x σ H, xs[i]? = some x → Pv i σ H → g x σ H fun σ2 H2 => tb { D with nx := Pv (i + 1), ct := Pv (i + 1), bk := D.nx } σ2 H2) (hd : ∀ σ H, Pv xs.length σ H → D.nx σ H) :
    ∃ W : Nat → Nat → St → Hp → Prop, (∃ m, W 0 m σ H) ∧ ∀ i m σ H, W i m σ H →
      ((Itl K a).stop i H ∧ D.nx σ H) ∨ ((Itl K a).go i H ∧ ∃ N : St → Hp → Prop, (∀ σ' H', N σ' H' → ∃ m', m' < m ∧ W (i + 1) m' σ' H') ∧ ∀ x H', (Itl K a).yld i H x H' → g x σ H' fun σ2 H2 => tb { D with nx := N, ct := N, bk := D.nx } σ2 H2) := by
  refine ⟨fun i m σ H => m = xs.length - i ∧ i ≤ xs.length ∧ Pv i σ H, ⟨xs.length, by simp, Nat.zero_le _, h0⟩, ?_⟩
  rintro i m σ H ⟨rfl, hi, p⟩
  have q := hl i σ H hi p
  by_cases hlt : i < xs.length
  · refine .inr ⟨⟨xs, xs[i], q, by simp [hlt]⟩, Pv (i + 1), fun σ' H' p' => ⟨xs.length - (i + 1), by omega, rfl, hlt, p'⟩, fun x H' y => ?_⟩
    obtain ⟨e, y⟩ := y
    subst e
    exact hs i x σ _ (y xs q) p
  · have e : i = xs.length := by omega
    subst e
    exact .inl ⟨⟨xs, q, Nat.le_refl _⟩, hd σ H p⟩
theorem for_tup {K : PySem.W.Frag} {a : Addr} {xs : List V} {g : TG} {tb : TS} {D : Ends} {σ : St} {H : Hp} (Pv : Nat → St → Hp → Prop) (h0 : Pv 0 σ H) (hl : ∀ i σ H, i ≤ xs.length → Pv i σ H → SqT K H a xs)
    (hs : ∀ i x σ H, xs[i]? = some x → Pv i σ H → g x σ H fun σ2 H2 => tb { D with nx := Pv (i + 1), ct := Pv (i + 1), bk := D.nx } σ2 H2) (hd : ∀ σ H, Pv xs.length σ H → D.nx σ H) :
    ∃ W : Nat → Nat → St → Hp → Prop, (∃ m, W 0 m σ H) ∧ ∀ i m σ H, W i m σ H →
      ((Itt K a).stop i H ∧ D.nx σ H) ∨ ((Itt K a).go i H ∧ ∃ N : St → Hp → Prop, (∀ σ' H', N σ' H' → ∃ m', m' < m ∧ W (i + 1) m' σ' H') ∧ ∀ x H', (Itt K a).yld i H x H' → g x σ H' fun σ2 H2 => tb { D with nx := N, ct := N, bk := D.nx } σ2 H2) := by
  refine ⟨fun i m σ H => m = xs.length - i ∧ i ≤ xs.length ∧ Pv i σ H, ⟨xs.length, by simp, Nat.zero_le _, h0⟩, ?_⟩
  rintro i m σ H ⟨rfl, hi, p⟩
  have q := hl i σ H hi p
  by_cases hlt : i < xs.length
  · refine .inr ⟨⟨xs, xs[i], q, by simp [hlt]⟩, Pv (i + 1), fun σ' H' p' => ⟨xs.length - (i + 1), by omega, rfl, hlt, p'⟩, fun x H' y => ?_⟩
    obtain ⟨e, y⟩ := y
    subst e
    exact hs i x σ _ (y xs q) p
  · have e : i = xs.length := by omega
    subst e
    exact .inl ⟨⟨xs, q, Nat.le_refl _⟩, hd σ H p⟩
theorem for_range {lo : Int} {n : Nat} {g : TG} {tb : TS} {D : Ends} {σ : St} {H : Hp} (Pv : Nat → St → Hp → Prop) (h0 : Pv 0 σ H)
    (hs : ∀ i σ H, i < n → Pv i σ H → g (.int (lo + i)) σ H fun σ2 H2 => tb { D with nx := Pv (i + 1), ct := Pv (i + 1), bk := D.nx } σ2 H2) (hd : ∀ σ H, Pv n σ H → D.nx σ H) :
    ∃ W : Nat → Nat → St → Hp → Prop, (∃ m, W 0 m σ H) ∧ ∀ i m σ H, W i m σ H →
      ((Itr lo n).stop i H ∧ D.nx σ H) ∨ ((Itr lo n).go i H ∧ ∃ N : St → Hp → Prop, (∀ σ' H', N σ' H' → ∃ m', m' < m ∧ W (i + 1) m' σ' H') ∧ ∀ x H', (Itr lo n).yld i H x H' → g x σ H' fun σ2 H2 => tb { D with nx := N, ct := N, bk := D.nx } σ2 H2) := by
  refine ⟨fun i m σ H => m = n - i ∧ i ≤ n ∧ Pv i σ H, ⟨n, by simp, Nat.zero_le _, h0⟩, ?_⟩
  rintro i m σ H ⟨rfl, hi, p⟩
  by_cases hlt : i < n
  · refine .inr ⟨hlt, Pv (i + 1), fun σ' H' p' => ⟨n - (i + 1), by omega, rfl, hlt, p'⟩, fun x H' y => ?_⟩
    obtain ⟨e, y⟩ := y
    subst e y
    exact hs i σ _ hlt p
  · have e : i = n := by omega
    subst e
    exact .inl ⟨Nat.le_refl _, hd σ H p⟩
/-- while, by a word and a measure of the state -/
theorem while_by {c : TT} {tb : TS} {D : Ends} {σ : St} {H : Hp} (Pv : St → Hp → Prop) (μ : St → Hp → Nat) (h0 : Pv σ H)
    (hs : ∀ σ H, Pv σ H → c σ H fun b H1 => if b = true then tb { D with nx := fun σ' H' => Pv σ' H' ∧ μ σ' H' < μ σ H, ct := fun σ' H' => Pv σ' H' ∧ μ σ' H' < μ σ H, bk := D.nx } σ H1 else D.nx σ H1)
    (mono : ∀ σ H Q Q', (∀ b H1, Q b H1 → Q' b H1) → c σ H Q → c σ H Q') : tWhile c tb D σ H := by
  refine ⟨fun m σ H => m = μ σ H ∧ Pv σ H, ⟨_, rfl, h0⟩, ?_⟩
  rintro m σ H ⟨rfl, p⟩
  refine mono σ H _ _ (fun b H1 q => ?_) (hs σ H p)
  cases b with
  | true => exact ⟨_, fun σ' H' ⟨p', l⟩ => ⟨_, l, rfl, p'⟩, q⟩
  | false => exact q
end L2

namespace L2
open PySem PySem.Spec PyProof.Rows

abbrev R2 := V → V → Hp → VK → Prop
/-- a two-place operation on values: f is binaryOp op, inplaceOp op or compareOp op -/
def OpR (X : Cx) (f : Value → Value → Sem Value) (r : R2) : Prop :=
  ∀ (pins : List (Addr × Obj)) (s : Shared) (σ : St) (H : Hp) (x y : V) (v u : Value) (Q : VK), Inv X pins σ H s → RelV x v → RelV y u → r x y H Q →
    wpAny (model X.prog X.w) X.A (f v u) (EP X pins σ Q) X.xe s
/-- a one-place operation -/
def UnR (X : Cx) (f : Value → Sem Value) (r : V → Hp → VK → Prop) : Prop :=
  ∀ (pins : List (Addr × Obj)) (s : Shared) (σ : St) (H : Hp) (x : V) (v : Value) (Q : VK), Inv X pins σ H s → RelV x v → r x H Q →
    wpAny (model X.prog X.w) X.A (f v) (EP X pins σ Q) X.xe s
/-- a call of a value that is known (a builtin, a type) with values -/
def CallR (X : Cx) (f : Value) (r : List V → Hp → VK → Prop) : Prop :=
  ∀ (pins : List (Addr × Obj)) (s : Shared) (σ : St) (H : Hp) (xs : List V) (us : List Value) (Q : VK), Inv X pins σ H s → Vals xs us → r xs H Q →
    wpAny (model X.prog X.w) X.A (call f us) (EP X pins σ Q) X.xe s
/-- a value's truth -/
def TruR (X : Cx) (r : V → Hp → (Bool → Hp → Prop) → Prop) : Prop :=
  ∀ (pins : List (Addr × Obj)) (s : Shared) (σ : St) (H : Hp) (x : V) (v : Value) (Q : Bool → Hp → Prop), Inv X pins σ H s → RelV x v → r x H Q →
    wpAny (model X.prog X.w) X.A (truthy v) (TP X pins σ Q) X.xe s

def tOp (r : R2) (ta tb : TE) : TE := fun σ H Q => ta σ H fun x H1 => tb σ H1 fun y H2 => r x y H2 Q
def tUn (r : V → Hp → VK → Prop) (ta : TE) : TE := fun σ H Q => ta σ H fun x H1 => r x H1 Q
/-- ints in, under C, and a value out -/
def rI (C : Int → Int → Prop) (g : Int → Int → V) : R2 := fun x y H Q => ∃ i j, x = .int i ∧ y = .int j ∧ C i j ∧ Q (g i j) H
def rI0 (g : Int → Int → V) : R2 := fun x y H Q => ∃ i j, x = .int i ∧ y = .int j ∧ Q (g i j) H
def rU (g : Int → V) : V → Hp → VK → Prop := fun x H Q => ∃ i, x = .int i ∧ Q (g i) H

section
variable {X : Cx} {a b c : Expr} {ta tb tc : TE} {pos : Pos}

theorem binT (ha : PE X a ta) (hb : PE X b tb) {pins : List (Addr × Obj)} {s : Shared} {σ : St} {H : Hp} {R : V → V → Hp → Prop} (I : Inv X pins σ H s)
    (h : ta σ H fun x H1 => tb σ H1 fun y H2 => R x y H2) {Q : Value → Shared → Prop} {f : Value → Value → Sem Value}
    (hf : ∀ v u s2 x y H2, Inv X pins σ H2 s2 → RelV x v → RelV y u → R x y H2 → wpAny (model X.prog X.w) X.A (f v u) Q X.xe s2) :
    wpAny (model X.prog X.w) X.A (eval a X.env) (fun v s₁ => wpAny (model X.prog X.w) X.A (eval b X.env) (fun u s₂ => wpAny (model X.prog X.w) X.A (f v u) Q X.xe s₂) X.xe s₁) X.xe s := by
  refine thn (ha pins s σ H _ I h) fun v s1 ⟨x, H1, I1, r1, q1⟩ => ?_
  refine thn (hb pins s1 σ H1 _ I1 q1) fun u s2 ⟨y, H2, I2, r2, q2⟩ => ?_
  exact hf v u s2 x y H2 I2 r1 r2 q2

theorem pe_op {op : Operator} {r : R2} (ho : OpR X (binaryOp op) r) (ha : PE X a ta) (hb : PE X b tb) : PE X (.BinOp a op b pos) (tOp r ta tb) := by
  intro pins s σ H Q I h
  exact wpAny_BinOp (binT ha hb I h fun v u s2 x y H2 I2 rx ry q => ho pins s2 σ H2 x y v u Q I2 rx ry q)
theorem pe_un {op : UnaryOp} {r : V → Hp → VK → Prop} (ho : UnR X (unaryOp op) r) (ha : PE X a ta) : PE X (.UnaryOp op a pos) (tUn r ta) := by
  intro pins s σ H Q I h
  exact UnaryOp_ (thn (ha pins s σ H _ I h) fun v s1 ⟨x, H1, I1, r1, q1⟩ => ho pins s1 σ H1 x v Q I1 r1 q1)
/-- a op= e at a name: the name's slot i -/
theorem augR {op : Operator} {r : R2} (ho : OpR X (inplaceOp op) r) {pins : List (Addr × Obj)} {s : Shared} {σ : St} {H : Hp} {x y : V} {v u : Value} {Q : VK} (I : Inv X pins σ H s)
    (rx : RelV x v) (ry : RelV y u) (q : r x y H Q) : wpAny (model X.prog X.w) X.A (inplaceOp op v u) (EP X pins σ Q) X.xe s := ho pins s σ H x y v u Q I rx ry q

/-! ### ints -/
theorem opI {f : Value → Value → Sem Value} {C : Int → Int → Prop} {g : Int → Int → Int}
    (rule : ∀ (i j : Int) (t u : Tok) (s : Shared) (Q : Value → Shared → Prop) (E : Value → Shared → Prop), C i j → Q (.int (g i j) s.toks) { s with toks := s.toks + 1 } → wpAny (model X.prog X.w) X.A (f (.int i t) (.int j u)) Q E s) :
    OpR X f (rI C fun i j => .int (g i j)) := by
  intro pins s σ H x y v u Q I rx ry h
  obtain ⟨i, j, rfl, rfl, hc, q⟩ := h
  obtain ⟨t, rfl⟩ := rx
  obtain ⟨t', rfl⟩ := ry
  exact rule i j t t' s _ _ hc ⟨.int (g i j), H, I.tok _, ⟨_, rfl⟩, q⟩
theorem opI0 {f : Value → Value → Sem Value} {g : Int → Int → Int}
    (rule : ∀ (i j : Int) (t u : Tok) (s : Shared) (Q : Value → Shared → Prop) (E : Value → Shared → Prop), Q (.int (g i j) s.toks) { s with toks := s.toks + 1 } → wpAny (model X.prog X.w) X.A (f (.int i t) (.int j u)) Q E s) :
    OpR X f (rI0 fun i j => .int (g i j)) := by
  intro pins s σ H x y v u Q I rx ry h
  obtain ⟨i, j, rfl, rfl, q⟩ := h
  obtain ⟨t, rfl⟩ := rx
  obtain ⟨t', rfl⟩ := ry
  exact rule i j t t' s _ _ ⟨.int (g i j), H, I.tok _, ⟨_, rfl⟩, q⟩
theorem opB0 {f : Value → Value → Sem Value} {g : Int → Int → Bool}
    (rule : ∀ (i j : Int) (t u : Tok) (s : Shared) (Q : Value → Shared → Prop) (E : Value → Shared → Prop), Q (.bool (g i j)) s → wpAny (model X.prog X.w) X.A (f (.int i t) (.int j u)) Q E s) :
    OpR X f (rI0 fun i j => .bl (g i j)) := by
  intro pins s σ H x y v u Q I rx ry h
  obtain ⟨i, j, rfl, rfl, q⟩ := h
  obtain ⟨t, rfl⟩ := rx
  obtain ⟨t', rfl⟩ := ry
  exact rule i j t t' s _ _ ⟨.bl (g i j), H, I, rfl, q⟩

def CDiv (i j : Int) : Prop := 0 < j ∧ j < 1073741824
def CDivN (i j : Int) : Prop := j ≠ 0 ∧ j.natAbs < 1073741824
def CPow (i j : Int) : Prop := 0 ≤ j ∧ j ≤ 1000000 ∧ i.natAbs < 2 ^ 64
def CMul (i j : Int) : Prop := (-(2 ^ 64) < i ∧ i < 2 ^ 64) ∨ (-(2 ^ 64) < j ∧ j < 2 ^ 64)
theorem CMul.ok {i j : Int} (h : CMul i j) : IntMulOk i j := by
  rcases h with ⟨h1, h2⟩ | ⟨h1, h2⟩
  · exact .of_left (intBits_le_64 h1 h2)
  · exact .of_right (intBits_le_64 h1 h2)
theorem two_pow_nn (k : Nat) : (0 : Int) ≤ 2 ^ k := by
  rw [two_pow_cast]
  exact Int.natCast_nonneg _

theorem op_add : OpR X (binaryOp .Add) (rI0 fun i j => .int (i + j)) := opI0 fun _ _ _ _ _ _ _ q => add_int q
theorem op_sub : OpR X (binaryOp .Sub) (rI0 fun i j => .int (i - j)) := opI0 fun _ _ _ _ _ _ _ q => sub_int q
theorem op_mul : OpR X (binaryOp .Mult) (rI CMul fun i j => .int (i * j)) := opI fun _ _ _ _ _ _ _ hc q => mul_int q hc.ok
/-- // by a positive divisor -/
theorem op_fdiv : OpR X (binaryOp .FloorDiv) (rI CDiv fun i j => .int (i / j)) := opI fun i j _ _ _ _ _ hc q => by
  have h1 : (0 : Int) < j := hc.1
  have h2 : j < 1073741824 := hc.2
  exact floordiv_int (by omega) (by rw [Int.fdiv_eq_ediv_of_nonneg i (by omega)]; exact q) (.inl (PyProof.noPylong_small (by omega)))
theorem op_fdivN : OpR X (binaryOp .FloorDiv) (rI CDivN fun i j => .int (i.fdiv j)) := opI fun _ _ _ _ _ _ _ hc q => floordiv_int hc.1 q (.inl (PyProof.noPylong_small hc.2))
/-- % by a positive divisor of any size -/
theorem op_mod : OpR X (binaryOp .Mod) (rI (fun _ j => 0 < j) fun i j => .int (i % j)) := opI fun i j _ _ _ _ _ hc q => by
  have h1 : (0 : Int) < j := hc
  exact mod_int' (by omega) (by rw [Int.fmod_eq_emod_of_nonneg i (by omega)]; exact q)
theorem op_modN : OpR X (binaryOp .Mod) (rI (fun _ j => j ≠ 0) fun i j => .int (i.fmod j)) := opI fun _ _ _ _ _ _ _ hc q => mod_int' hc q
theorem op_pow : OpR X (binaryOp .Pow) (rI CPow fun i j => .int (i ^ j.toNat)) := opI fun _ _ _ _ _ _ _ hc q => pow_int_small hc.1 hc.2.1 hc.2.2 q
theorem op_shl : OpR X (binaryOp .LShift) (rI CPow fun i j => .int (i * 2 ^ j.toNat)) := opI fun _ _ _ _ _ _ _ hc q => lshift_int_small hc.1 hc.2.1 hc.2.2 q
theorem op_shr : OpR X (binaryOp .RShift) (rI (fun _ j => 0 ≤ j) fun i j => .int (i / 2 ^ j.toNat)) := opI fun i j _ _ _ _ _ hc q =>
  rshift_int hc (by rw [Int.fdiv_eq_ediv_of_nonneg i (two_pow_nn _)]; exact q)
theorem op_and : OpR X (binaryOp .BitAnd) (rI0 fun i j => .int (Builtin.bitAnd i j)) := opI0 fun _ _ _ _ _ _ _ q => and_int q
theorem op_or : OpR X (binaryOp .BitOr) (rI0 fun i j => .int (Builtin.bitOr i j)) := opI0 fun _ _ _ _ _ _ _ q => or_int q
theorem op_xor : OpR X (binaryOp .BitXor) (rI0 fun i j => .int (Builtin.bitXor i j)) := opI0 fun _ _ _ _ _ _ _ q => xor_int q

theorem iop_add : OpR X (inplaceOp .Add) (rI0 fun i j => .int (i + j)) := opI0 fun _ _ _ _ _ _ _ q => iadd_int q
theorem iop_sub : OpR X (inplaceOp .Sub) (rI0 fun i j => .int (i - j)) := opI0 fun _ _ _ _ _ _ _ q => isub_int q
theorem iop_mul : OpR X (inplaceOp .Mult) (rI CMul fun i j => .int (i * j)) := opI fun _ _ _ _ _ _ _ hc q => imul_int q hc.ok
theorem iop_fdiv : OpR X (inplaceOp .FloorDiv) (rI CDiv fun i j => .int (i / j)) := opI fun i j _ _ _ _ _ hc q => by
  have h1 : (0 : Int) < j := hc.1
  have h2 : j < 1073741824 := hc.2
  exact ifloordiv_int (by omega) (by rw [Int.fdiv_eq_ediv_of_nonneg i (by omega)]; exact q) (.inl (PyProof.noPylong_small (by omega)))
theorem iop_mod : OpR X (inplaceOp .Mod) (rI (fun _ j => 0 < j) fun i j => .int (i % j)) := opI fun i j _ _ _ _ _ hc q => by
  have h1 : (0 : Int) < j := hc
  exact imod_int (by omega) (by rw [Int.fmod_eq_emod_of_nonneg i (by omega)]; exact q)
theorem iop_shl : OpR X (inplaceOp .LShift) (rI CPow fun i j => .int (i * 2 ^ j.toNat)) := opI fun _ _ _ _ _ _ _ hc q => ilshift_int_small hc.1 hc.2.1 hc.2.2 q
theorem iop_shr : OpR X (inplaceOp .RShift) (rI (fun _ j => 0 ≤ j) fun i j => .int (i / 2 ^ j.toNat)) := opI fun i j _ _ _ _ _ hc q =>
  irshift_int hc (by rw [Int.fdiv_eq_ediv_of_nonneg i (two_pow_nn _)]; exact q)
theorem iop_and : OpR X (inplaceOp .BitAnd) (rI0 fun i j => .int (Builtin.bitAnd i j)) := opI0 fun _ _ _ _ _ _ _ q => iand_int q
theorem iop_or : OpR X (inplaceOp .BitOr) (rI0 fun i j => .int (Builtin.bitOr i j)) := opI0 fun _ _ _ _ _ _ _ q => ior_int q
theorem iop_xor : OpR X (inplaceOp .BitXor) (rI0 fun i j => .int (Builtin.bitXor i j)) := opI0 fun _ _ _ _ _ _ _ q => ixor_int q

theorem unI {f : Value → Sem Value} {g : Int → Int}
    (rule : ∀ (i : Int) (t : Tok) (s : Shared) (Q : Value → Shared → Prop) (E : Value → Shared → Prop), Q (.int (g i) s.toks) { s with toks := s.toks + 1 } → wpAny (model X.prog X.w) X.A (f (.int i t)) Q E s) :
    UnR X f (rU fun i => .int (g i)) := by
  intro pins s σ H x v Q I rx h
  obtain ⟨i, rfl, q⟩ := h
  obtain ⟨t, rfl⟩ := rx
  exact rule i t s _ _ ⟨.int (g i), H, I.tok _, ⟨_, rfl⟩, q⟩
theorem un_neg : UnR X (unaryOp .USub) (rU fun i => .int (-i)) := unI fun _ _ _ _ _ q => neg_int q
theorem un_inv : UnR X (unaryOp .Invert) (rU fun i => .int (Builtin.bitNot i)) := unI fun _ _ _ _ _ q => invert_int q

/-! ### bools among ints: n += (a < b) -/
theorem op_add_ib : OpR X (binaryOp .Add) (fun x y H Q => ∃ i k, x = .int i ∧ y = .bl k ∧ Q (.int (i + b2i k)) H) := by
  intro pins s σ H x y v u Q I rx ry h
  obtain ⟨i, k, rfl, rfl, q⟩ := h
  obtain ⟨t, rfl⟩ := rx
  cases ry
  exact add_int_bool ⟨.int (i + b2i k), H, I.tok _, ⟨_, rfl⟩, q⟩
end

/-! ### comparisons -/
/-- the scalars that == tells apart as data does -/
def scal : V → V → Bool
  | .non, .non => true | .non, .int _ => true | .int _, .non => true | .non, .bl _ => true | .bl _, .non => true | .non, .str _ => true | .str _, .non => true
  | .int _, .int _ => true | .bl _, .bl _ => true | .str _, .str _ => true | .byt _, .byt _ => true
  | .int _, .str _ => true | .str _, .int _ => true | .bl _, .str _ => true | .str _, .bl _ => true
  | _, _ => false
def rEq : R2 := fun x y H Q => scal x y = true ∧ Q (.bl (decide (x = y))) H
def rNe : R2 := fun x y H Q => scal x y = true ∧ Q (.bl (!decide (x = y))) H

theorem dec_int {i j : Int} : decide (V.int i = V.int j) = (i == j) := by
  rw [Bool.eq_iff_iff]
  simp
theorem dec_bl {i j : Bool} : decide (V.bl i = V.bl j) = (i == j) := by
  rw [Bool.eq_iff_iff]
  simp
theorem dec_str {i j : Str} : decide (V.str i = V.str j) = (i == j) := by
  rw [Bool.eq_iff_iff]
  simp
theorem dec_byt {i j : Array UInt8} : decide (V.byt i = V.byt j) = (i.toList == j.toList) := by
  rw [Bool.eq_iff_iff]
  cases i
  cases j
  simp

section
variable {X : Cx} {a b c : Expr} {ta tb tc : TE} {pos : Pos}
theorem fin_bl {pins : List (Addr × Obj)} {σ : St} {H : Hp} {s : Shared} {Q : VK} {k k' : Bool} (I : Inv X pins σ H s) (q : Q (.bl k) H) (e : k = k') : EP X pins σ Q (.bool k') s := by
  subst e
  exact ⟨.bl k, H, I, rfl, q⟩
theorem op_eq : OpR X (compareOp .Eq) rEq := by
  intro pins s σ H x y v u Q I rx ry h
  obtain ⟨hs, q⟩ := h
  cases x with
  | non =>
    cases rx
    cases y with
    | non => cases ry; exact PySem.EqNone.eq_none_none (fin_bl I q (by simp))
    | bl j => cases ry; exact PySem.EqNone.eq_none_bool (fin_bl I q (by simp))
    | int j => obtain ⟨t', rfl⟩ := ry; exact PySem.EqNone.eq_none_int (fin_bl I q (by simp))
    | str j => obtain ⟨t', rfl⟩ := ry; exact PySem.EqNone.eq_none_str (fin_bl I q (by simp))
    | _ => exact absurd (show false = true from hs) Bool.false_ne_true
  | bl i =>
    cases rx
    cases y with
    | non => cases ry; exact PySem.EqNone.eq_bool_none (fin_bl I q (by simp))
    | bl j => cases ry; exact eq_bool (fin_bl I q dec_bl)
    | str j => obtain ⟨t', rfl⟩ := ry; exact PySem.EqMixed.eq_bool_str (fin_bl I q (by simp))
    | _ => exact absurd (show false = true from hs) Bool.false_ne_true
  | int i =>
    obtain ⟨t, rfl⟩ := rx
    cases y with
    | non => cases ry; exact PySem.EqNone.eq_int_none (fin_bl I q (by simp))
    | int j => obtain ⟨t', rfl⟩ := ry; exact eq_int (fin_bl I q dec_int)
    | str j => obtain ⟨t', rfl⟩ := ry; exact PySem.EqMixed.eq_int_str (fin_bl I q (by simp))
    | _ => exact absurd (show false = true from hs) Bool.false_ne_true
  | str i =>
    obtain ⟨t, rfl⟩ := rx
    cases y with
    | non => cases ry; exact PySem.EqNone.eq_str_none (fin_bl I q (by simp))
    | bl j => cases ry; exact PySem.EqMixed.eq_str_bool (fin_bl I q (by simp))
    | int j => obtain ⟨t', rfl⟩ := ry; exact PySem.EqMixed.eq_str_int (fin_bl I q (by simp))
    | str j => obtain ⟨t', rfl⟩ := ry; exact eq_str (fin_bl I q dec_str)
    | _ => exact absurd (show false = true from hs) Bool.false_ne_true
  | byt i =>
    obtain ⟨t, rfl⟩ := rx
    cases y with
    | byt j => obtain ⟨t', rfl⟩ := ry; exact PySem.W.eq_bytes (fin_bl I q dec_byt)
    | _ => exact absurd (show false = true from hs) Bool.false_ne_true
  | _ => cases y <;> exact absurd (show false = true from hs) Bool.false_ne_true
theorem op_ne : OpR X (compareOp .NotEq) rNe := by
  intro pins s σ H x y v u Q I rx ry h
  obtain ⟨hs, q⟩ := h
  cases x with
  | non =>
    cases rx
    cases y with
    | non => cases ry; exact PySem.EqNone.ne_none_none (fin_bl I q (by simp))
    | bl j => cases ry; exact PySem.EqNone.ne_none_bool (fin_bl I q (by simp))
    | int j => obtain ⟨t', rfl⟩ := ry; exact PySem.EqNone.ne_none_int (fin_bl I q (by simp))
    | str j => obtain ⟨t', rfl⟩ := ry; exact PySem.EqNone.ne_none_str (fin_bl I q (by simp))
    | _ => exact absurd (show false = true from hs) Bool.false_ne_true
  | bl i =>
    cases rx
    cases y with
    | non => cases ry; exact PySem.EqNone.ne_bool_none (fin_bl I q (by simp))
    | bl j => cases ry; exact ne_bool (fin_bl I q (congrArg not dec_bl))
    | str j => obtain ⟨t', rfl⟩ := ry; exact PySem.EqMixed.ne_bool_str (fin_bl I q (by simp))
    | _ => exact absurd (show false = true from hs) Bool.false_ne_true
  | int i =>
    obtain ⟨t, rfl⟩ := rx
    cases y with
    | non => cases ry; exact PySem.EqNone.ne_int_none (fin_bl I q (by simp))
    | int j => obtain ⟨t', rfl⟩ := ry; exact ne_int (fin_bl I q (congrArg not dec_int))
    | str j => obtain ⟨t', rfl⟩ := ry; exact PySem.EqMixed.ne_int_str (fin_bl I q (by simp))
    | _ => exact absurd (show false = true from hs) Bool.false_ne_true
  | str i =>
    obtain ⟨t, rfl⟩ := rx
    cases y with
    | non => cases ry; exact PySem.EqNone.ne_str_none (fin_bl I q (by simp))
    | bl j => cases ry; exact PySem.EqMixed.ne_str_bool (fin_bl I q (by simp))
    | int j => obtain ⟨t', rfl⟩ := ry; exact PySem.EqMixed.ne_str_int (fin_bl I q (by simp))
    | str j => obtain ⟨t', rfl⟩ := ry; exact ne_str (fin_bl I q (congrArg not dec_str))
    | _ => exact absurd (show false = true from hs) Bool.false_ne_true
  | byt i =>
    obtain ⟨t, rfl⟩ := rx
    cases y with
    | byt j => obtain ⟨t', rfl⟩ := ry; exact PySem.W.ne_bytes (fin_bl I q (congrArg not dec_byt))
    | _ => exact absurd (show false = true from hs) Bool.false_ne_true
  | _ => cases y <;> exact absurd (show false = true from hs) Bool.false_ne_true

theorem op_lt : OpR X (compareOp .Lt) (rI0 fun i j => .bl (decide (i < j))) := opB0 fun _ _ _ _ _ _ _ q => lt_int q
theorem op_le : OpR X (compareOp .LtE) (rI0 fun i j => .bl (decide (i ≤ j))) := opB0 fun _ _ _ _ _ _ _ q => le_int q
theorem op_gt : OpR X (compareOp .Gt) (rI0 fun i j => .bl (decide (j < i))) := opB0 fun _ _ _ _ _ _ _ q => gt_int q
theorem op_ge : OpR X (compareOp .GtE) (rI0 fun i j => .bl (decide (j ≤ i))) := opB0 fun _ _ _ _ _ _ _ q => ge_int q
theorem op_lt_str : OpR X (compareOp .Lt) (fun x y H Q => ∃ i j, x = .str i ∧ y = .str j ∧ Q (.bl (decide (i.cps.toList < j.cps.toList))) H) := by
  intro pins s σ H x y v u Q I rx ry h
  obtain ⟨i, j, rfl, rfl, q⟩ := h
  obtain ⟨t, rfl⟩ := rx
  obtain ⟨t', rfl⟩ := ry
  exact lt_str (fin_bl I q rfl)
/-- the one string within the other -/
theorem op_in_str : OpR X (compareOp .In) (fun x y H Q => ∃ i j, x = .str i ∧ y = .str j ∧ Q (.bl (!(Builtin.Str.occurrences j i 0 j.length 1).isEmpty)) H) := by
  intro pins s σ H x y v u Q I rx ry h
  obtain ⟨i, j, rfl, rfl, q⟩ := h
  obtain ⟨t, rfl⟩ := rx
  obtain ⟨t', rfl⟩ := ry
  exact in_str (fin_bl I q rfl)

/-- is None, is not None: the right side a value none -/
theorem op_isN : OpR X (compareOp .Is) (fun x y H Q => y = .non ∧ Q (.bl (decide (x = .non))) H) := by
  intro pins s σ H x y v u Q I rx ry h
  obtain ⟨rfl, q⟩ := h
  cases ry
  refine is_none_gen (fin_bl I q ?_)
  cases x <;> first
    | (cases rx; rfl)
    | (obtain ⟨t, rfl⟩ := rx; rfl)
theorem op_notN : OpR X (compareOp .IsNot) (fun x y H Q => y = .non ∧ Q (.bl (!decide (x = .non))) H) := by
  intro pins s σ H x y v u Q I rx ry h
  obtain ⟨rfl, q⟩ := h
  cases ry
  refine isnot_none_gen (fin_bl I q ?_)
  cases x <;> first
    | (cases rx; rfl)
    | (obtain ⟨t, rfl⟩ := rx; rfl)

theorem op_notin_str : OpR X (compareOp .NotIn) (fun x y H Q => ∃ i j, x = .str i ∧ y = .str j ∧ Q (.bl (!(!(Builtin.Str.occurrences j i 0 j.length 1).isEmpty))) H) := by
  intro pins s σ H x y v u Q I rx ry h
  obtain ⟨i, j, rfl, rfl, q⟩ := h
  obtain ⟨t, rfl⟩ := rx
  obtain ⟨t', rfl⟩ := ry
  exact notIn_str (fin_bl I q rfl)
/-- is, is not of two objects that are tracked lists or instances -/
def isObj : HO → Bool
  | .lst _ => true
  | .ins _ _ _ => true
  | _ => false
theorem obj_there {pins : List (Addr × Obj)} {s : Shared} {σ : St} {H : Hp} {a : Addr} {o : HO} (I : Inv X pins σ H s) (h : H a = some o) (p : isObj o = true) : ∃ ob, s.heap.get? a = some ob ∧ ob.cls ≠ .type "tuple" := by
  cases o with
  | lst xs =>
    obtain ⟨_, its, n, _, e⟩ : xs.length ≤ sizeLine ∧ ∃ (its : List Value) (n : Nat), Vals xs its ∧ s.heap.get? a = some { cls := .type "list", data := .seq its.toArray n } := I.hok a _ h
    exact ⟨_, e, (by show Value.type "list" ≠ .type "tuple"; decide +kernel)⟩
  | ins C dx fs =>
    have x := I.hok a _ h
    obtain ⟨_, _, _, e, _⟩ := x
    exact ⟨_, e, (by show Value.ref C ≠ .type "tuple"; exact fun z => by cases z)⟩
  | _ => exact absurd (show false = true from p) Bool.false_ne_true
theorem op_is_ref : OpR X (compareOp .Is) (fun x y H Q => ∃ a b oa ob, x = .ref a ∧ y = .ref b ∧ H a = some oa ∧ isObj oa = true ∧ H b = some ob ∧ isObj ob = true ∧ Q (.bl (decide (a = b))) H) := by
  intro pins s σ H x y v u Q I rx ry h
  obtain ⟨a, b, oa, ob, rfl, rfl, ha, pa, hb, pb, q⟩ := h
  cases rx
  cases ry
  obtain ⟨o1, e1, n1⟩ := obj_there I ha pa
  obtain ⟨o2, e2, _⟩ := obj_there I hb pb
  by_cases z : a = b
  · subst z
    exact wpAny_is_ref_self (fin_bl I q (by simp))
  · exact wpAny_is_ref_other z e1 e2 n1 (fin_bl I q (by simp [z]))
theorem op_isnot_ref : OpR X (compareOp .IsNot) (fun x y H Q => ∃ a b oa ob, x = .ref a ∧ y = .ref b ∧ H a = some oa ∧ isObj oa = true ∧ H b = some ob ∧ isObj ob = true ∧ Q (.bl (!decide (a = b))) H) := by
  intro pins s σ H x y v u Q I rx ry h
  obtain ⟨a, b, oa, ob, rfl, rfl, ha, pa, hb, pb, q⟩ := h
  cases rx
  cases ry
  obtain ⟨o1, e1, n1⟩ := obj_there I ha pa
  obtain ⟨o2, e2, _⟩ := obj_there I hb pb
  by_cases z : a = b
  · subst z
    exact wpAny_isNot_ref_self (fin_bl I q (by simp))
  · exact wpAny_isNot_ref_other z e1 e2 n1 (fin_bl I q (by simp [z]))

/-- two rules for one operation: by cases -/
theorem OpR.or {f : Value → Value → Sem Value} {r r' : R2} (h : OpR X f r) (h' : OpR X f r') : OpR X f (fun x y H Q => r x y H Q ∨ r' x y H Q) := by
  intro pins s σ H x y v u Q I rx ry q
  rcases q with q | q
  · exact h pins s σ H x y v u Q I rx ry q
  · exact h' pins s σ H x y v u Q I rx ry q

theorem nomark (b : Expr) {op : CmpOp} (h : op ≠ .In := by decide) (h2 : op ≠ .NotIn := by decide) : behindInMarks op b = false := by
  have e1 : (op == CmpOp.In) = false := by cases op <;> first | rfl | exact absurd rfl h
  have e2 : (op == CmpOp.NotIn) = false := by cases op <;> first | rfl | exact absurd rfl h2
  cases b <;> simp [behindInMarks, e1, e2]
/-- a comparison as a value; hm: nomark b, or (for in, not in) by with_unfolding_all rfl -/
theorem pe_cmpR {op : CmpOp} {r : R2} (ho : OpR X (compareOp op) r) (ha : PE X a ta) (hb : PE X b tb) (hm : behindInMarks op b = false) : PE X (.Compare a [op] [b] pos) (tOp r ta tb) := by
  intro pins s σ H Q I h
  exact wpAny_Compare1 (binT ha hb I h fun v u s2 x y H2 I2 rx ry q => ho pins s2 σ H2 x y v u Q I2 rx ry q) hm
/-- a reading of a value as a test -/
def tTest (t : TE) : TT := fun σ H Q => t σ H fun x H' => ∃ k, x = .bl k ∧ Q k H'
theorem pt_cmpR {op : CmpOp} {r : R2} (ho : OpR X (compareOp op) r) (ha : PE X a ta) (hb : PE X b tb) (hm : behindInMarks op b = false) : PT X (.Compare a [op] [b] pos) (tTest (tOp r ta tb)) := by
  intro pins s σ H Q I h
  refine wpAny_isTrue_Compare1 (thn (ha pins s σ H _ I h) fun v s1 ⟨x, H1, I1, r1, q1⟩ => thn (hb pins s1 σ H1 _ I1 q1) fun u s2 ⟨y, H2, I2, r2, q2⟩ =>
    thn (ho pins s2 σ H2 x y v u _ I2 r1 r2 q2) fun c s3 ⟨z, H3, I3, r3, k, e, q3⟩ => ?_) hm
  subst e
  cases r3
  exact wpAny_truthy_bool ⟨H3, I3, q3⟩
/-- a op1 b op2 c -/
def tChain (r r' : R2) (ta tb tc : TE) : TE := fun σ H Q => ta σ H fun x H1 => tb σ H1 fun y H2 => r x y H2 fun z H3 => ∃ k, z = .bl k ∧
  (if k = true then tc σ H3 fun w' H4 => r' y w' H4 Q else Q (.bl false) H3)
theorem pe_chain {op op' : CmpOp} {r r' : R2} (ho : OpR X (compareOp op) r) (ho' : OpR X (compareOp op') r') (ha : PE X a ta) (hb : PE X b tb) (hc : PE X c tc)
    (hm : lastMarks [op, op'] [b, c] = false := by with_unfolding_all rfl) : PE X (.Compare a [op, op'] [b, c] pos) (tChain r r' ta tb tc) := by
  intro pins s σ H Q I h
  refine Compare_chain (thn (ha pins s σ H _ I h) fun v s1 ⟨x, H1, I1, r1, q1⟩ => chain_link (thn (hb pins s1 σ H1 _ I1 q1) fun u s2 ⟨y, H2, I2, r2, q2⟩ =>
    thn (ho pins s2 σ H2 x y v u _ I2 r1 r2 q2) fun d s3 ⟨z, H3, I3, r3, k, e, q3⟩ => ?_)) hm
  subst e
  cases r3
  refine wpAny_truthy_bool ?_
  cases k with
  | false => exact ite_ff ⟨.bl false, H3, I3, rfl, q3⟩
  | true => exact ite_tt (chain_last (thn (hc pins s3 σ H3 _ I3 q3) fun w' s4 ⟨z', H4, I4, r4, q4⟩ => ho' pins s4 σ H4 y z' u w' Q I4 r2 r4 q4))
theorem pt_chain {op op' : CmpOp} {r r' : R2} (ho : OpR X (compareOp op) r) (ho' : OpR X (compareOp op') r') (ha : PE X a ta) (hb : PE X b tb) (hc : PE X c tc)
    (hm : lastMarks [op, op'] [b, c] = false := by with_unfolding_all rfl) : PT X (.Compare a [op, op'] [b, c] pos) (tTest (tChain r r' ta tb tc)) := by
  intro pins s σ H Q I h
  refine isTrue_chain (thn (ha pins s σ H _ I h) fun v s1 ⟨x, H1, I1, r1, q1⟩ => test_link (thn (hb pins s1 σ H1 _ I1 q1) fun u s2 ⟨y, H2, I2, r2, q2⟩ =>
    thn (ho pins s2 σ H2 x y v u _ I2 r1 r2 q2) fun d s3 ⟨z, H3, I3, r3, k, e, q3⟩ => ?_)) hm
  subst e
  cases r3
  refine wpAny_truthy_bool ?_
  cases k with
  | false =>
    obtain ⟨k', e', q'⟩ := q3
    cases e'
    exact ite_ff ⟨H3, I3, q'⟩
  | true =>
    refine ite_tt (test_last (thn (hc pins s3 σ H3 _ I3 q3) fun w' s4 ⟨z', H4, I4, r4, q4⟩ => thn (ho' pins s4 σ H4 y z' u w' _ I4 r2 r4 q4) fun d' s5 ⟨z2, H5, I5, r5, k2, e2, q5⟩ => ?_))
    subst e2
    cases r5
    exact wpAny_truthy_bool ⟨H5, I5, q5⟩

/-! ### truth -/
/-- a value's truth by the abstract heap -/
def TruV (K : PySem.W.Frag) (x : V) (H : Hp) (k : Bool) : Prop :=
  match x with
  | .non => k = false
  | .bl b => k = b
  | .int i => k = (i != 0)
  | .str y => y.length ≤ sizeLine ∧ k = ((y.length : Int) != 0)
  | .byt y => y.size ≤ sizeLine ∧ k = ((y.size : Int) != 0)
  | .ref p => (∃ xs, SqL K H p xs ∧ k = !xs.isEmpty) ∨ (∃ xs, SqT K H p xs ∧ k = !xs.isEmpty) ∨ ∃ kvs, H p = some (.dK kvs) ∧ k = !kvs.isEmpty
  | _ => False
theorem isEmpty_kv {κ : Type} {kvs : List (κ × V)} {vs : List (κ × Value)} (r : KV kvs vs) : (!vs.isEmpty) = !kvs.isEmpty := by
  cases r <;> rfl
theorem isEmpty_of {xs : List V} {its : List Value} (r : Vals xs its) : (!its.toArray.isEmpty) = !xs.isEmpty := by
  cases r <;> simp
theorem line63 : (sizeLine : Nat) < 2 ^ 63 := by rw [sizeLine_eq]; decide
theorem tru_ok : TruR X (fun x H Q => ∃ k, TruV X.K x H k ∧ Q k H) := by
  intro pins s σ H x v Q I rx h
  obtain ⟨k, e, q⟩ := h
  have hl := line63
  have hs : sizeLine = 16777216 := sizeLine_eq
  cases x with
  | non =>
    cases rx
    have e' : k = false := e
    subst e'
    exact truthy_none ⟨H, I, q⟩
  | bl b =>
    cases rx
    have e' : k = b := e
    subst e'
    exact wpAny_truthy_bool ⟨H, I, q⟩
  | int i =>
    obtain ⟨t, rfl⟩ := rx
    have e' : k = (i != 0) := e
    subst e'
    exact PySem.P.truthy_int ⟨H, I, q⟩
  | str y =>
    obtain ⟨t, rfl⟩ := rx
    obtain ⟨hy, e'⟩ : y.length ≤ sizeLine ∧ k = ((y.length : Int) != 0) := e
    subst e'
    exact PySem.P.truthy_str (by omega) ⟨H, I.tok _, q⟩
  | byt y =>
    obtain ⟨t, rfl⟩ := rx
    obtain ⟨hy, e'⟩ : y.size ≤ sizeLine ∧ k = ((y.size : Int) != 0) := e
    subst e'
    exact PySem.W.truthy_bytes (by omega) ⟨H, I.tok _, q⟩
  | ref p =>
    cases rx
    have e' : (∃ xs, SqL X.K H p xs ∧ k = !xs.isEmpty) ∨ (∃ xs, SqT X.K H p xs ∧ k = !xs.isEmpty) ∨ ∃ kvs, H p = some (.dK kvs) ∧ k = !kvs.isEmpty := e
    rcases e' with ⟨xs, hx, e'⟩ | ⟨xs, hx, e'⟩ | ⟨kvs, hx, e'⟩
    · subst e'
      obtain ⟨its, r, pl, hz⟩ := I.list hx
      have hlen := r.length
      exact wpAny_truthy_list pl.isList (by simp only [List.size_toArray]; omega) ⟨H, I.tok _, by rw [isEmpty_of r]; exact q⟩
    · subst e'
      obtain ⟨its, r, pl, hz⟩ := I.tuple hx
      have hlen := r.length
      exact truthy_tuple pl (by simp only [List.size_toArray]; omega) ⟨H, I.tok _, by rw [isEmpty_of r]; exact q⟩
    · subst e'
      obtain ⟨hz, hS, vs, r, m⟩ : kvs.length ≤ sizeLine ∧ (p == sysModules) = false ∧ ∃ vs, KV kvs vs ∧ s.heap.DictOf (mixKind X.prog X.w) p vs := I.hok p _ hx
      have hlen : kvs.length = vs.length := Paired.length r
      exact wpAny_truthy_dict hS m (by omega) ⟨H, I.tok _, by rw [isEmpty_kv r]; exact q⟩
  | _ => exact (show False from e).elim
/-- any expression whose test is its value's truth (a name, a call, a subscript, a field ..: he by fun _ => rfl) -/
theorem pt_truth (ha : PE X a ta) (he : ∀ whole, isTrue a X.env whole = (do let v ← whole; standAt a.pos; holding [v] (truthy v))) :
    PT X a (fun σ H Q => ta σ H fun x H' => ∃ k, TruV X.K x H' k ∧ Q k H') := by
  intro pins s σ H Q I h
  exact isTrue_plain (thn (ha pins s σ H _ I h) fun v s1 ⟨x, H1, I1, r1, q1⟩ => tru_ok pins s1 σ H1 x v Q I1 r1 q1) (he _)

/-! ### strs and bytes -/
theorem pe_byt {x : List UInt8} {k : Nat} : PE X (.Constant (.bytes x) k pos) (fun _ H Q => Q (.byt x.toArray) H) := fun _ _ _ H _ I h => PySem.W.Constant_bytes ⟨.byt x.toArray, H, I.tok _, ⟨_, rfl⟩, h⟩
theorem op_add_str : OpR X (binaryOp .Add) (fun x y H Q => ∃ i j, x = .str i ∧ y = .str j ∧ i.length + j.length ≤ sizeLine ∧ Q (.str (i ++ j)) H) := by
  intro pins s σ H x y v u Q I rx ry h
  obtain ⟨i, j, rfl, rfl, hz, q⟩ := h
  obtain ⟨t, rfl⟩ := rx
  obtain ⟨t', rfl⟩ := ry
  exact add_str (fun t' tk => ⟨.str (i ++ j), H, I.tok _, ⟨_, rfl⟩, q⟩) hz
theorem iop_add_str : OpR X (inplaceOp .Add) (fun x y H Q => ∃ i j, x = .str i ∧ y = .str j ∧ i.length + j.length ≤ sizeLine ∧ Q (.str (i ++ j)) H) := by
  intro pins s σ H x y v u Q I rx ry h
  obtain ⟨i, j, rfl, rfl, hz, q⟩ := h
  obtain ⟨t, rfl⟩ := rx
  obtain ⟨t', rfl⟩ := ry
  exact iadd_str (fun t' tk => ⟨.str (i ++ j), H, I.tok _, ⟨_, rfl⟩, q⟩) hz
theorem op_add_byt : OpR X (binaryOp .Add) (fun x y H Q => ∃ i j, x = .byt i ∧ y = .byt j ∧ i.size + j.size ≤ 16777216 ∧ Q (.byt (i ++ j)) H) := by
  intro pins s σ H x y v u Q I rx ry h
  obtain ⟨i, j, rfl, rfl, hz, q⟩ := h
  obtain ⟨t, rfl⟩ := rx
  obtain ⟨t', rfl⟩ := ry
  exact PySem.W.KBy.add_bytes hz (fun t' tk => ⟨.byt (i ++ j), H, I.tok _, ⟨_, rfl⟩, q⟩)

def PlainIxT (b : Expr) : Prop := ∀ o i, subscripted b false o i = operate [o, i] (getItem o i)
/-- s[i], 0 ≤ i < len -/
theorem pe_item_str (ha : PE X a ta) (hb : PE X b tb) (hs : PlainIxT b) :
    PE X (.Subscript a b pos) (tOp (fun x y H Q => ∃ z i c, x = .str z ∧ y = .int i ∧ 0 ≤ i ∧ i < 2 ^ 63 ∧ i < z.length ∧ z.cps[i.toNat]? = some c ∧ Q (.str ⟨#[c]⟩) H) ta tb) := by
  intro pins s σ H Q I h
  refine Subscript_ (binT ha hb I h fun v u s2 x y H2 I2 rx ry q => ?_)
  obtain ⟨z, i, c, rfl, rfl, h0, h63, h1, hc, q⟩ := q
  obtain ⟨t, rfl⟩ := rx
  obtain ⟨t', rfl⟩ := ry
  have e : seqIndex? i z.length = some i.toNat := PySem.StrLaws.seqIndex_nonneg h0 h1
  exact tail_any (typeIs_str s2 z t) slot_str_getitem.lookup (getItem_str (c := c) (by
    have e1 : decide (i < -(2 ^ 63 : Int)) = false := decide_eq_false (by omega)
    have e2 : decide (i ≥ 2 ^ 63) = false := decide_eq_false (by omega)
    rw [e1, e2] <;> rfl) (by rw [e]; exact hc) ⟨.str ⟨#[c]⟩, H2, I2.tok _, ⟨_, rfl⟩, q⟩) (hs _ _)
/-- b[i], 0 ≤ i < len -/
theorem pe_item_byt (ha : PE X a ta) (hb : PE X b tb) (hs : PlainIxT b) :
    PE X (.Subscript a b pos) (tOp (fun x y H Q => ∃ (z : List UInt8) (i : Int), x = .byt z.toArray ∧ y = .int i ∧ z.length ≤ sizeLine ∧ 0 ≤ i ∧ i < z.length ∧ Q (.int ((z.getD i.toNat 0).toNat : Nat)) H) ta tb) := by
  intro pins s σ H Q I h
  refine Subscript_ (binT ha hb I h fun v u s2 x y H2 I2 rx ry q => ?_)
  obtain ⟨z, i, rfl, rfl, hz, h0, h1, q⟩ := q
  obtain ⟨t, rfl⟩ := rx
  obtain ⟨t', rfl⟩ := ry
  have hl : sizeLine = 16777216 := sizeLine_eq
  exact tail_any (PySem.W.typeIs_bytes s2 z.toArray t) PySem.W.FB.slot_bytes_getitem.lookup (PySem.W.getItem_bytes (by omega) h0 h1 ⟨.int ((z.getD i.toNat 0).toNat : Nat), H2, I2.tok _, ⟨_, rfl⟩, q⟩) (hs _ _)

/-! ### scalar builtins, by CallR -/
theorem vals1 {x : V} {us : List Value} (r : Vals [x] us) : ∃ u, us = [u] ∧ RelV x u := by
  cases r with
  | cons r1 r2 => cases r2; exact ⟨_, rfl, r1⟩
theorem vals2 {x y : V} {us : List Value} (r : Vals [x, y] us) : ∃ u w', us = [u, w'] ∧ RelV x u ∧ RelV y w' := by
  cases r with
  | cons r1 r2 =>
    cases r2 with
    | cons r3 r4 => cases r4; exact ⟨_, _, rfl, r1, r3⟩
theorem call_abs : CallR X (.builtin "abs") (fun xs H Q => ∃ i, xs = [.int i] ∧ Q (.int (if i < 0 then -i else i)) H) := by
  intro pins s σ H xs us Q I r h
  obtain ⟨i, rfl, q⟩ := h
  obtain ⟨u, rfl, t, rfl⟩ := vals1 r
  exact call_abs_int fun u tk => ⟨.int (if i < 0 then -i else i), H, I.tok _, ⟨_, rfl⟩, q⟩
theorem call_max2 (hc : X.calm = true) : CallR X (.builtin "max") (fun xs H Q => ∃ i j, xs = [.int i, .int j] ∧ Q (.int (if j > i then j else i)) H) := by
  intro pins s σ H xs us Q I r h
  obtain ⟨i, j, rfl, q⟩ := h
  obtain ⟨u, w', rfl, ⟨t, rfl⟩, ⟨t', rfl⟩⟩ := vals2 r
  refine max_two_ints (I.ok.hd hc) fun h' tk k => ⟨_, H, I.kept k, ?_, q⟩
  by_cases hj : j > i
  · rw [if_pos hj, if_pos hj]; exact ⟨_, rfl⟩
  · rw [if_neg hj, if_neg hj]; exact ⟨_, rfl⟩
theorem call_min2 (hc : X.calm = true) : CallR X (.builtin "min") (fun xs H Q => ∃ i j, xs = [.int i, .int j] ∧ Q (.int (if j < i then j else i)) H) := by
  intro pins s σ H xs us Q I r h
  obtain ⟨i, j, rfl, q⟩ := h
  obtain ⟨u, w', rfl, ⟨t, rfl⟩, ⟨t', rfl⟩⟩ := vals2 r
  refine min_two_ints (I.ok.hd hc) fun h' tk k => ⟨_, H, I.kept k, ?_, q⟩
  by_cases hj : j < i
  · rw [if_pos hj, if_pos hj]; exact ⟨_, rfl⟩
  · rw [if_neg hj, if_neg hj]; exact ⟨_, rfl⟩
theorem call_int1 : CallR X (.type "int") (fun xs H Q => (∃ i, xs = [.int i] ∧ Q (.int i) H) ∨ ∃ k, xs = [.bl k] ∧ Q (.int (if k then 1 else 0)) H) := by
  intro pins s σ H xs us Q I r h
  rcases h with ⟨i, rfl, q⟩ | ⟨k, rfl, q⟩
  · obtain ⟨u, rfl, t, rfl⟩ := vals1 r
    exact call_int_int ⟨.int i, H, I, ⟨_, rfl⟩, q⟩
  · obtain ⟨u, rfl, r1⟩ := vals1 r
    cases r1
    exact call_int_bool ⟨.int (if k then 1 else 0), H, I.tok _, ⟨_, rfl⟩, q⟩
theorem call_bool1 : CallR X (.type "bool") (fun xs H Q => (∃ i, xs = [.int i] ∧ Q (.bl (i != 0)) H) ∨ ∃ k, xs = [.bl k] ∧ Q (.bl k) H) := by
  intro pins s σ H xs us Q I r h
  rcases h with ⟨i, rfl, q⟩ | ⟨k, rfl, q⟩
  · obtain ⟨u, rfl, t, rfl⟩ := vals1 r
    exact call_bool_int ⟨.bl (i != 0), H, I, rfl, q⟩
  · obtain ⟨u, rfl, r1⟩ := vals1 r
    cases r1
    exact call_bool_bool ⟨.bl k, H, I, rfl, q⟩
theorem call_str_int : CallR X (.type "str") (fun xs H Q => ∃ i, xs = [.int i] ∧ i.natAbs.log2 < 1920 ∧ Q (.str (toString i)) H) := by
  intro pins s σ H xs us Q I r h
  obtain ⟨i, rfl, hz, q⟩ := h
  obtain ⟨u, rfl, t, rfl⟩ := vals1 r
  exact PySem.P.str_of_int hz ⟨.str _, H, I.tok _, ⟨_, rfl⟩, q⟩
theorem call_ord : CallR X (.builtin "ord") (fun xs H Q => ∃ x, xs = [.str x] ∧ x.length = 1 ∧ Q (.int (x.cps.getD 0 0 : Nat)) H) := by
  intro pins s σ H xs us Q I r h
  obtain ⟨x, rfl, hz, q⟩ := h
  obtain ⟨u, rfl, t, rfl⟩ := vals1 r
  exact ord_of_one hz ⟨.int _, H, I.tok _, ⟨_, rfl⟩, q⟩
theorem call_chr : CallR X (.builtin "chr") (fun xs H Q => ∃ i, xs = [.int i] ∧ 0 ≤ i ∧ i ≤ 1114111 ∧ Q (.str ⟨#[i.toNat]⟩) H) := by
  intro pins s σ H xs us Q I r h
  obtain ⟨i, rfl, h0, h1, q⟩ := h
  obtain ⟨u, rfl, t, rfl⟩ := vals1 r
  exact chr_of_range h0 h1 ⟨.str _, H, I.tok _, ⟨_, rfl⟩, q⟩
/-- len of a str, a bytes, a list, a tuple -/
def LenV (K : PySem.W.Frag) (x : V) (H : Hp) (n : Nat) : Prop :=
  match x with
  | .str y => y.length ≤ sizeLine ∧ n = y.length
  | .byt y => y.size ≤ sizeLine ∧ n = y.size
  | .ref p => (∃ xs, SqL K H p xs ∧ n = xs.length) ∨ ∃ xs, SqT K H p xs ∧ n = xs.length
  | _ => False
theorem call_len : CallR X (.builtin "len") (fun xs H Q => ∃ x n, xs = [x] ∧ LenV X.K x H n ∧ Q (.int n) H) := by
  intro pins s σ H xs us Q I r h
  obtain ⟨x, n, rfl, e, q⟩ := h
  obtain ⟨u, rfl, rx⟩ := vals1 r
  have hl := line63
  have hs : sizeLine = 16777216 := sizeLine_eq
  cases x with
  | str y =>
    obtain ⟨t, rfl⟩ := rx
    obtain ⟨hy, e'⟩ : y.length ≤ sizeLine ∧ n = y.length := e
    subst e'
    exact len_str (by omega) ⟨.int _, H, I.tok _, ⟨_, rfl⟩, q⟩
  | byt y =>
    obtain ⟨t, rfl⟩ := rx
    obtain ⟨hy, e'⟩ : y.size ≤ sizeLine ∧ n = y.size := e
    subst e'
    exact PySem.W.len_bytes (by omega) ⟨.int _, H, I.tok _, ⟨_, rfl⟩, q⟩
  | ref p =>
    cases rx
    have e' : (∃ xs, SqL X.K H p xs ∧ n = xs.length) ∨ ∃ xs, SqT X.K H p xs ∧ n = xs.length := e
    rcases e' with ⟨xs, hx, e'⟩ | ⟨xs, hx, e'⟩
    · subst e'
      obtain ⟨its, r', pl, hz⟩ := I.list hx
      have hlen := r'.length
      exact Calls.call_len_list pl.isList (by simp only [List.size_toArray]; omega) ⟨.int xs.length, H, I.tok _, ⟨_, by simp only [List.size_toArray]; rw [hlen]⟩, q⟩
    · subst e'
      obtain ⟨its, r', pl, hz⟩ := I.tuple hx
      have hlen := r'.length
      exact len_tuple pl (by simp only [List.size_toArray]; omega) ⟨.int xs.length, H, I.tok _, ⟨_, by simp only [List.size_toArray]; rw [hlen]⟩, q⟩
  | _ => exact (show False from e).elim
/-- divmod: a new tuple -/
theorem call_divmod : CallR X (.builtin "divmod") (fun xs H Q => ∃ i j, xs = [.int i, .int j] ∧ CDiv i j ∧ ∀ p, H p = none → Q (.ref p) (upd H p (.tup [.int (i / j), .int (i % j)]))) := by
  intro pins s σ H xs us Q I r h
  obtain ⟨i, j, rfl, ⟨h1, h2⟩, q⟩ := h
  obtain ⟨u, w', rfl, ⟨t, rfl⟩, ⟨t', rfl⟩⟩ := vals2 r
  refine divmod_int (by omega) ?_ (.inl (PyProof.noPylong_small (by omega)))
  rw [Int.fdiv_eq_ediv_of_nonneg i (by omega), Int.fmod_eq_emod_of_nonneg i (by omega)]
  have hn : H s.heap.objs.size = none := I.hok.fresh (Nat.le_refl _)
  refine ⟨.ref s.heap.objs.size, _, ?_, rfl, q _ hn⟩
  refine I.laid (fun b o e => Heap.get?_push_of_some _ e) (Nat.le_refl _) ⟨by simp only [List.length_cons, List.length_nil]; rw [sizeLine_eq]; decide, [.int (i / j) s.toks, .int (i % j) (s.toks + 1)], .cons ⟨_, rfl⟩ (.cons ⟨_, rfl⟩ .nil), ?_⟩
  exact ⟨_, Heap.get?_push_size s.heap rfl, rfl, 0, rfl⟩
end
end L2

namespace L2
open PySem PySem.Spec PyProof.Rows

/-! ### an instance, its attributes a map -/
structure ObjM (h : Heap) (x dx C : Addr) (mA : Str → Option Value) : Prop where
  obj : h.get? x = some (PySem.W.instObj C dx)
  ns : h.Ns1 dx mA
  ne : dx ≠ x

theorem lookIn_ns {h : Heap} {dx : Addr} {mA : Str → Option Value} (n : h.Ns1 dx mA) : ∃ od, h.get? dx = some od ∧ ∀ name, PySem.W.lookIn name od = some (mA name) := by
  obtain ⟨o, es, ep, ho, hd, hk, _, hm⟩ := n
  refine ⟨o, ho, fun name => ?_⟩
  have e := hm name
  unfold nsFind findBy at e
  rw [← Array.find?_toList] at e
  unfold PySem.W.lookIn
  rw [hd]
  dsimp only
  split
  · rename_i y q
    rw [q] at e
    exact congrArg some e
  · rename_i q
    rw [q] at e
    have a : es.toList.any (·.refKey) = false := by
      rw [List.any_eq_false]
      intro y hy
      obtain ⟨z, t, hkey⟩ := hk y (Array.mem_toList_iff.mp hy)
      simp [DictEntry.refKey, hkey]
    have a' : ¬ es.toList.any (·.refKey) = true := by rw [a]; exact Bool.false_ne_true
    rw [if_neg a']
    exact congrArg some e

theorem ObjM.look {h : Heap} {x dx C : Addr} {mA : Str → Option Value} (I : ObjM h x dx C mA) : ∃ od, PySem.W.InstAt h x (PySem.W.instObj C dx) C (some od) ∧ ∀ name, PySem.W.lookIn name od = some (mA name) :=
  let ⟨od, ho, hl⟩ := lookIn_ns I.ns
  ⟨od, ⟨I.obj, rfl, rfl, ho⟩, hl⟩

section
variable {prog : Program} {w : World} {A : Around} {E : Value → Shared → Prop} {s : Shared} {K : PySem.W.Frag} {x dx C f : Addr} {mA : Str → Option Value} {name : Str} {v : Value}

theorem get_map {expr : Bool} {Q : Value → Shared → Prop} (X : K.In s.heap) (I : ObjM s.heap x dx C mA) (hg : PySem.W.plainGet K C name = true) (hh : PySem.W.hasDictIn K C = true)
    (ha : PySem.W.findIn K (.ref C) name = some none) (hv : mA name = some v) (hv' : PySem.W.handedIn v = true) (h : Q v { s with toks := s.toks + 1 }) :
    wpAny (model prog w) A (getAttr (.ref x) name expr) Q E s := by
  obtain ⟨od, J, hl⟩ := I.look
  exact PySem.W.get_value X J (PySem.W.plainGet_of hg).1 (PySem.W.findObj_own hh ha rfl (by rw [hl, hv])) hv' h

theorem get_const {expr : Bool} {a : Value} {Q : Value → Shared → Prop} (X : K.In s.heap) (I : ObjM s.heap x dx C mA) (hg : PySem.W.plainGet K C name = true) (hh : PySem.W.hasDictIn K C = true)
    (ha : PySem.W.findIn K (.ref C) name = some (some a)) (hn : PySem.W.specialIn K a "__get__" = some none) (hc : PySem.W.copiedNames.contains name = false) (hv : mA name = none) (hv' : PySem.W.handedIn a = true)
    (h : Q a { s with toks := s.toks + 1 }) : wpAny (model prog w) A (getAttr (.ref x) name expr) Q E s := by
  obtain ⟨od, J, hl⟩ := I.look
  exact PySem.W.get_value X J (PySem.W.plainGet_of hg).1 (PySem.W.findObj_cls hh ha hn hv' hc (by rw [hl, hv])) hv' h

theorem get_meth {pl : Sem Bool} {Q : Value × List Value → Shared → Prop} (X : K.In s.heap) (I : ObjM s.heap x dx C mA) (hg : PySem.W.plainGet K C name = true)
    (hf : PySem.W.findIn K (.ref C) name = some (some (.ref f))) (ht : PySem.W.isFn K (.ref f) = true) (hv : mA name = none) (h : Q (.ref f, [.ref x]) s) :
    wpAny (model prog w) A (getMethod (.ref x) name pl) Q E s := by
  obtain ⟨od, J, hl⟩ := I.look
  exact PySem.W.method_fn X J (PySem.W.plainGet_of hg).1 (PySem.W.plainGet_of hg).2 hf (beq_iff_eq.mp ht) (by show (PySem.W.lookIn name od).map (·.isSome) = some false; rw [hl, hv]; rfl) h

theorem set_map {ns : List Str} {Q : Unit → Shared → Prop} (X : K.In s.heap) (I : ObjM s.heap x dx C mA)
    (hs : PySem.W.findIn K (.ref C) "__setattr__" = some (some (.builtin "object.__setattr__"))) (hp : PySem.W.plainOver K C = true) (ht : PySem.W.takerIn K C name = some none) (hh : PySem.W.hasDictIn K C = true)
    (hw : PySem.Within mA ns) (hsz : ns.length ≤ sizeLine)
    (h : ∀ h', ObjM h' x dx C (fun y => if y = name then some v else mA y) → Heap.SameBut dx s.heap h' → Q () { s with heap := h', toks := s.toks + 2 }) :
    wpAny (model prog w) A (setAttr (.ref x) name v) Q E s := by
  obtain ⟨od, J, hl⟩ := I.look
  refine PySem.W.set_plain X J hs (PySem.W.osa_open (s := { s with toks := s.toks + 1 }) (r := none) X J hp ht fun b => ?_)
  obtain ⟨cd, hc, hd'⟩ := PySem.W.any_some hh
  have hx : s.heap.get? x = some ⟨.ref C, some dx, .plain, #[]⟩ := I.obj
  refine wpAny_bind (wpAny_pure (wpAny_bind (wpAny_bind (wpAny_loadPart hx (wpAny_bind (PySem.W.Looks.here (s := { s with toks := s.toks + 1 }) (PySem.W.looks_clsIn X hc) ?_))))))
  rw [hd']
  refine wpAny_pure (a := some dx) (wpAny_bind (wpAny_pure (wpAny_bind ?_)))
  refine wpAny_nsSet1 (s := { s with toks := s.toks + 1 }) I.ns fun h' hn2 hs2 => ?_
  obtain ⟨oD, esD, epD, hoD, hdD, hcD⟩ := hn2.count (PySem.Within.cons name v hw)
  refine wpAny_bind (wpAny_lookBehind hoD (by rw [hdD]; exact pastItsLine_dict (Nat.le_trans hcD (by rw [List.length_cons]; omega))) ?_)
  exact wpAny_pure (h _ ⟨(hs2.2 _ (Ne.symm I.ne)).trans I.obj, hn2, I.ne⟩ hs2)

/-- C(..): the dict at the heap's end, the instance behind it; then its __init__ -/
theorem make_map {R : Result → Shared → Prop} {vs : List Value} {kw : List (Str × Value)} (X : K.In s.heap) (hm : PySem.W.makesIn K C = true)
    (hi : PySem.W.findIn K (.ref C) "__init__" = some (some (.ref f))) (hf : PySem.W.typeIn K (.ref f) = some (.type "function"))
    (h : codeAny (model prog w) (A.under (.builtin "type.__call__" ⟨.ref C :: vs, kw⟩)) (.call (.ref f) ⟨.ref (s.heap.objs.size + 1) :: vs, kw⟩) (PySem.W.InitBack (s.heap.objs.size + 1) R)
      { s with heap := (s.heap.push PySem.W.emptyDict).push (PySem.W.instObj C s.heap.objs.size) }) :
    codeAny (model prog w) A (.call (.ref C) ⟨vs, kw⟩) R s := by
  obtain ⟨hh, g, d, t, os⟩ := s
  exact PySem.W.make_core (PySem.W.makes_of X hm) (PySem.W.looks_findIn X hi) (fun self => PySem.W.bind_fn X self hf) (.inl rfl) h
/-- C() where there is no __init__ but object's -/
theorem make_map0 {R : Result → Shared → Prop} (X : K.In s.heap) (hm : PySem.W.makesIn K C = true)
    (hi : PySem.W.findIn K (.ref C) "__init__" = some (some (.builtin "object.__init__")))
    (hb : ∀ self, PySem.W.Looks (model prog w) s.heap (bindSpecial (.builtin "object.__init__") self) (.builtin "object.__init__", [self]))
    (h : codeAny (model prog w) (A.under (.builtin "type.__call__" ⟨[.ref C], []⟩)) (.call (.builtin "object.__init__") ⟨[.ref (s.heap.objs.size + 1)], []⟩) (PySem.W.InitBack (s.heap.objs.size + 1) R)
      { s with heap := (s.heap.push PySem.W.emptyDict).push (PySem.W.instObj C s.heap.objs.size) }) :
    codeAny (model prog w) A (.call (.ref C) ⟨[], []⟩) R s := by
  obtain ⟨hh, g, d, t, os⟩ := s
  exact PySem.W.make_core (PySem.W.makes_of X hm) (PySem.W.looks_findIn X hi) hb (.inr ⟨rfl, rfl⟩) h
end

/-! ### the attributes as a list of pairs -/
def putF (f : Str) (v : V) : List (Str × V) → List (Str × V)
  | [] => [(f, v)]
  | (g, x) :: r => if g = f then (g, v) :: r else (g, x) :: putF f v r
theorem lookup_putF (f g : Str) (v : V) : ∀ fs : List (Str × V), (putF f v fs).lookup g = if g = f then some v else fs.lookup g
  | [] => by
    show List.lookup g [(f, v)] = _
    by_cases h : g = f
    · have hb : (g == f) = true := beq_iff_eq.mpr h
      simp only [List.lookup, hb, if_pos h]
    · have hb : (g == f) = false := beq_eq_false_iff_ne.mpr h
      simp only [List.lookup, hb, if_neg h]
  | (k, x) :: r => by
    have ih := lookup_putF f g v r
    rw [show putF f v ((k, x) :: r) = (if k = f then (k, v) :: r else (k, x) :: putF f v r) from rfl]
    by_cases hk : k = f
    · rw [if_pos hk]
      by_cases h : g = k
      · have hb : (g == k) = true := beq_iff_eq.mpr h
        simp only [List.lookup, hb, if_pos (h.trans hk)]
      · have hb : (g == k) = false := beq_eq_false_iff_ne.mpr h
        simp only [List.lookup, hb, if_neg (fun e : g = f => h (e.trans hk.symm))]
    · rw [if_neg hk]
      by_cases h : g = k
      · have hb : (g == k) = true := beq_iff_eq.mpr h
        simp only [List.lookup, hb, if_neg (fun e : g = f => hk (h.symm.trans e))]
      · have hb : (g == k) = false := beq_eq_false_iff_ne.mpr h
        simp only [List.lookup, hb]
        exact ih
theorem keys_putF (f : Str) (v : V) : ∀ fs : List (Str × V), f ∈ (putF f v fs).map (·.1) ∧ ∀ g, g ∈ fs.map (·.1) → g ∈ (putF f v fs).map (·.1)
  | [] => ⟨by simp [putF], fun g h => by simp at h⟩
  | (k, x) :: r => by
    obtain ⟨i1, i2⟩ := keys_putF f v r
    rw [show putF f v ((k, x) :: r) = (if k = f then (k, v) :: r else (k, x) :: putF f v r) from rfl]
    by_cases hk : k = f
    · rw [if_pos hk]
      subst hk
      exact ⟨by simp, fun g h => by simpa using h⟩
    · rw [if_neg hk]
      refine ⟨?_, fun g h => ?_⟩
      · rw [List.map_cons]
        exact List.mem_cons_of_mem _ i1
      · rw [List.map_cons] at h ⊢
        rcases List.mem_cons.mp h with e | e
        · exact List.mem_cons.mpr (.inl e)
        · exact List.mem_cons_of_mem _ (i2 g e)
theorem length_putF (f : Str) (v : V) : ∀ fs : List (Str × V), (putF f v fs).length ≤ fs.length + 1
  | [] => by simp [putF]
  | (k, x) :: r => by
    have ih := length_putF f v r
    rw [show putF f v ((k, x) :: r) = (if k = f then (k, v) :: r else (k, x) :: putF f v r) from rfl]
    by_cases hk : k = f
    · rw [if_pos hk, List.length_cons, List.length_cons]; omega
    · rw [if_neg hk, List.length_cons, List.length_cons]; omega

theorem RelO.some_of {v : V} {o : Option Value} (r : RelO (some v) o) : ∃ u, o = some u ∧ RelV v u := by
  cases o with
  | none => exact (show False from r).elim
  | some u => exact ⟨u, rfl, r⟩
theorem RelO.none_of {o : Option Value} (r : RelO none o) : o = none := by
  cases o with
  | none => rfl
  | some u => exact (show False from r).elim
theorem handed_of {v : V} {u : Value} (r : RelV v u) : PySem.W.handedIn u = true := by
  cases v with
  | non => cases (show u = Value.none from r); rfl
  | bl b => cases (show u = Value.bool b from r); rfl
  | int i => obtain ⟨t, e⟩ := (show ∃ t, u = Value.int i t from r); cases e; rfl
  | str x => obtain ⟨t, e⟩ := (show ∃ t, u = Value.str x t from r); cases e; rfl
  | byt b => obtain ⟨t, e⟩ := (show ∃ t, u = Value.bytes b t from r); cases e; rfl
  | flt b => obtain ⟨t, e⟩ := (show ∃ t, u = Value.float b t from r); cases e; rfl
  | ref a => cases (show u = Value.ref a from r); rfl
  | ty n => cases (show u = Value.type n from r); rfl

section
variable {P : Program} {w : World} {H H' : Hp} {h h' : Heap} {a C dx : Addr} {fs fs' : List (Str × V)}
theorem ins_get (hok : HOk P w H h) (e : H a = some (.ins C dx fs)) : ∃ mA, ObjM h a dx C mA ∧ (∀ f, RelO (fs.lookup f) (mA f)) ∧ PySem.Within mA (fs.map (·.1)) ∧ fs.length ≤ 1000 ∧ H dx = some (.own a) := by
  obtain ⟨d, z, ne, ob, mA, n, r, q⟩ := (show ObjOk P w H h a (.ins C dx fs) from hok a _ e)
  exact ⟨mA, ⟨ob, n, ne⟩, r, q, z, d⟩
end

/-! ### what of the text a class must have -/
structure Cls (K : PySem.W.Frag) (C : Addr) : Prop where
  pg : PySem.W.plainGet K C Str.empty = true
  hd : PySem.W.hasDictIn K C = true
  po : PySem.W.plainOver K C = true
  sa : PySem.W.findIn K (.ref C) "__setattr__" = some (some (.builtin "object.__setattr__"))
theorem Cls.get {K : PySem.W.Frag} {C : Addr} (c : Cls K C) (f : Str) : PySem.W.plainGet K C f = true := c.pg
/-- no class of it has the name -/
def NoAttr (K : PySem.W.Frag) (C : Addr) (f : Str) : Prop := PySem.W.findIn K (.ref C) f = some none
theorem NoAttr.taker {K : PySem.W.Frag} {C : Addr} {f : Str} (n : NoAttr K C f) : PySem.W.takerIn K C f = some none := by
  unfold PySem.W.takerIn
  rw [show PySem.W.findIn K (.ref C) f = some none from n]
  rfl
/-- a constant of the class -/
structure Con (K : PySem.W.Frag) (C : Addr) (f : Str) (v : V) (u : Value) : Prop where
  at_ : PySem.W.findIn K (.ref C) f = some (some u)
  rel : RelV v u
  get : PySem.W.specialIn K u "__get__" = some none
  cp : PySem.W.copiedNames.contains f = false
/-- a method: a plain def of the class or of one above it -/
structure Meth (K : PySem.W.Frag) (C : Addr) (m : Str) (f : Addr) : Prop where
  at_ : PySem.W.findIn K (.ref C) m = some (some (.ref f))
  fn : PySem.W.isFn K (.ref f) = true
  kp : PySem.W.keepIn K (.ref f) = true

section
variable {X : Cx} {pins : List (Addr × Obj)} {σ : St} {H : Hp} {s : Shared} {a C dx : Addr} {fs : List (Str × V)} {f : Str} {v : V} {A : Around} {E : Value → Shared → Prop}

theorem getattr_ok {b : Bool} {Q : Value → Shared → Prop} (I : Inv X pins σ H s) (e : H a = some (.ins C dx fs)) (c : Cls X.K C) (n : NoAttr X.K C f) (l : fs.lookup f = some v)
    (h : ∀ u s', Inv X pins σ H s' → RelV v u → Q u s') : wpAny (model X.prog X.w) A (getAttr (.ref a) f b) Q E s := by
  obtain ⟨mA, O, r, _, _, _⟩ := ins_get I.hok e
  obtain ⟨u, hu, ru⟩ := RelO.some_of (v := v) (o := mA f) (by rw [← l]; exact r f)
  exact get_map I.kIn O (c.get f) c.hd n hu (handed_of ru) (h u _ (I.tok _) ru)

theorem getcon_ok {b : Bool} {u : Value} {Q : Value → Shared → Prop} (I : Inv X pins σ H s) (e : H a = some (.ins C dx fs)) (c : Cls X.K C) (k : Con X.K C f v u) (l : fs.lookup f = none)
    (h : ∀ s', Inv X pins σ H s' → Q u s') : wpAny (model X.prog X.w) A (getAttr (.ref a) f b) Q E s := by
  obtain ⟨mA, O, r, _, _, _⟩ := ins_get I.hok e
  have hn : mA f = none := RelO.none_of (by rw [← l]; exact r f)
  exact get_const I.kIn O (c.get f) c.hd k.at_ k.get k.cp hn (handed_of k.rel) (h _ (I.tok _))

theorem getmeth_ok {m : Str} {g : Addr} {pl : Sem Bool} {Q : Value × List Value → Shared → Prop} (I : Inv X pins σ H s) (e : H a = some (.ins C dx fs)) (c : Cls X.K C) (k : Meth X.K C m g) (l : fs.lookup m = none)
    (h : Q (.ref g, [.ref a]) s) : wpAny (model X.prog X.w) A (getMethod (.ref a) m pl) Q E s := by
  obtain ⟨mA, O, r, _, _, _⟩ := ins_get I.hok e
  have hn : mA m = none := RelO.none_of (by rw [← l]; exact r m)
  exact get_meth I.kIn O (c.get m) k.at_ k.fn hn h

theorem setattr_ok {y : V} {u : Value} {Q : Unit → Shared → Prop} (I : Inv X pins σ H s) (e : H a = some (.ins C dx fs)) (c : Cls X.K C) (n : NoAttr X.K C f) (hl : fs.length < 1000) (ry : RelV y u)
    (h : ∀ s', Inv X pins σ (upd H a (.ins C dx (putF f y fs))) s' → Q () s') : wpAny (model X.prog X.w) A (setAttr (.ref a) f u) Q E s := by
  obtain ⟨mA, O, r, wi, _, ho⟩ := ins_get I.hok e
  have hz : (fs.map (·.1)).length ≤ sizeLine := by rw [List.length_map, sizeLine_eq]; omega
  refine set_map I.kIn O c.sa c.po n.taker c.hd wi hz fun h' O' sb => h _ ?_
  have hd : ∃ o, h'.get? dx = some o := let ⟨o, _, _, e', _⟩ := O'.ns; ⟨o, e'⟩
  refine I.write (x := a) (e := dx) (by rw [e]; exact True.intro) (.inr ho) (fun b q hb z => (sb.2 b hb).trans z) hd ?_
  refine ⟨by rw [upd_ne O.ne]; exact ho, ?_, O.ne, O'.obj, _, O'.ns, fun g => ?_, fun g hg => ?_⟩
  · have := length_putF f y fs; omega
  · show RelO ((putF f y fs).lookup g) (if g = f then some u else mA g)
    rw [lookup_putF]
    by_cases q : g = f
    · rw [if_pos q, if_pos q]; exact ry
    · rw [if_neg q, if_neg q]; exact r g
  · by_cases q : g = f
    · rw [q]; exact (keys_putF f y fs).1
    · refine (keys_putF f y fs).2 g (wi g fun z => hg ?_)
      show (if g = f then some u else mA g) = none
      rw [if_neg q]; exact z

/-- a new instance, tracked, without attributes -/
theorem Inv.made (I : Inv X pins σ H s) : Inv X pins σ (upd (upd H s.heap.objs.size (.own (s.heap.objs.size + 1))) (s.heap.objs.size + 1) (.ins C s.heap.objs.size []))
    { s with heap := (s.heap.push PySem.W.emptyDict).push (PySem.W.instObj C s.heap.objs.size) } := by
  have e1 : (s.heap.push PySem.W.emptyDict).get? s.heap.objs.size = some PySem.W.emptyDict := Heap.get?_push_size s.heap rfl
  have e2 : ((s.heap.push PySem.W.emptyDict).push (PySem.W.instObj C s.heap.objs.size)).get? (s.heap.objs.size + 1) = some (PySem.W.instObj C s.heap.objs.size) := by
    have := Heap.get?_push_size (s.heap.push PySem.W.emptyDict) (o := PySem.W.instObj C s.heap.objs.size) rfl
    rwa [Heap.size_push] at this
  have e3 : (s.heap.push PySem.W.emptyDict).Ns s.heap.objs.size (fun _ => none) := ⟨PySem.W.emptyDict, #[], _, e1, rfl, (fun e he => absurd he (by simp)), fun _ => rfl⟩
  have I1 := I.laid (a := s.heap.objs.size) (o := .own (s.heap.objs.size + 1)) (h' := s.heap.push PySem.W.emptyDict) (t' := s.toks) (fun b u q => Heap.get?_push_of_some _ q) (Nat.le_refl _) ⟨_, e1⟩
  refine I1.laid (a := s.heap.objs.size + 1) (o := .ins C s.heap.objs.size []) (t' := s.toks) (fun b u q => Heap.get?_push_of_some _ q) (Nat.le_of_eq (Heap.size_push _ _)) ?_
  have ne : s.heap.objs.size ≠ s.heap.objs.size + 1 := Nat.ne_of_lt (Nat.lt_succ_self _)
  refine ⟨by rw [upd_ne ne, upd_same], Nat.zero_le _, ne, e2, fun _ => none, (Heap.Ns1.of_empty e3).at fun o q => Heap.get?_push_of_some _ q, fun _ => True.intro, fun y hy => absurd rfl hy⟩

/-- e.f where nothing but the object is asked: through attributeBase (super) and the last hold -/
theorem attr_of {prog : Program} {w : World} {env : Env} {e : Expr} {f : Str} {pos : Pos} {s : Shared} {Q : Value → Shared → Prop} (hb : attributeBase e f env (eval e env) = eval e env)
    (h : wpAny (model prog w) A (eval e env) (fun o s₁ => wpAny (model prog w) A (getAttr o f true) Q E s₁) E s) : wpAny (model prog w) A (eval (.Attribute e f pos) env) Q E s :=
  Attribute_any_ h (by rw [arm_eval_Attribute, hb])
end

/-! ### readings and rules -/
/-- e.f, an attribute of the instance -/
def tFld (K : PySem.W.Frag) (ta : TE) (f : Str) : TE := fun σ H Q => ta σ H fun x H1 => ∃ a C dx fs v, x = .ref a ∧ H1 a = some (.ins C dx fs) ∧ Cls K C ∧ NoAttr K C f ∧ fs.lookup f = some v ∧ Q v H1
/-- e.f, a constant of the class -/
def tCon (K : PySem.W.Frag) (ta : TE) (f : Str) : TE := fun σ H Q => ta σ H fun x H1 => ∃ a C dx fs v u, x = .ref a ∧ H1 a = some (.ins C dx fs) ∧ Cls K C ∧ Con K C f v u ∧ fs.lookup f = none ∧ Q v H1
/-- e.f = value -/
def sFld (K : PySem.W.Frag) (ta tv : TE) (f : Str) : TS := fun D σ H => tv σ H fun y H1 => ta σ H1 fun x H2 => ∃ a C dx fs, x = .ref a ∧ H2 a = some (.ins C dx fs) ∧ Cls K C ∧ NoAttr K C f ∧ fs.length < 1000 ∧
  D.nx σ (upd H2 a (.ins C dx (putF f y fs)))
/-- an augmented operator on two values -/
def InOp (X : Cx) (op : Operator) (rd : V → V → Hp → VK → Prop) : Prop :=
  ∀ (pins : List (Addr × Obj)) (s : Shared) (σ : St) (H : Hp) (x y : V) (u v : Value) (Q : VK), Inv X pins σ H s → RelV x u → RelV y v → rd x y H Q → wpAny (model X.prog X.w) X.A (inplaceOp op u v) (EP X pins σ Q) X.xe s
/-- e.f op= value -/
def sFldAug (K : PySem.W.Frag) (ta tv : TE) (rd : V → V → Hp → VK → Prop) (f : Str) : TS := fun D σ H => ta σ H fun x H1 => ∃ a C dx fs v, x = .ref a ∧ H1 a = some (.ins C dx fs) ∧ Cls K C ∧ NoAttr K C f ∧ fs.lookup f = some v ∧
  tv σ H1 fun y H2 => rd v y H2 fun z H3 => ∃ dx' fs', H3 a = some (.ins C dx' fs') ∧ fs'.length < 1000 ∧ D.nx σ (upd H3 a (.ins C dx' (putF f z fs')))

section
variable {X : Cx} {o e value : Expr} {f : Str} {pos pos' tpos : Pos} {ta tv : TE}
theorem pe_fld (he : PE X e ta) (hb : attributeBase e f X.env (eval e X.env) = eval e X.env) : PE X (.Attribute e f pos) (tFld X.K ta f) := by
  intro pins s σ H Q I h
  refine attr_of hb (thn (he pins s σ H _ I h) fun u s1 ⟨x, H1, I1, rx, a, C, dx, fs, v, ex, ea, c, n, l, q⟩ => ?_)
  subst ex
  obtain rfl : u = Value.ref a := rx
  exact getattr_ok I1 ea c n l fun u' s2 I2 ru => ⟨v, H1, I2, ru, q⟩
theorem pe_con (he : PE X e ta) (hb : attributeBase e f X.env (eval e X.env) = eval e X.env) : PE X (.Attribute e f pos) (tCon X.K ta f) := by
  intro pins s σ H Q I h
  refine attr_of hb (thn (he pins s σ H _ I h) fun u s1 ⟨x, H1, I1, rx, a, C, dx, fs, v, u0, ex, ea, c, k, l, q⟩ => ?_)
  subst ex
  obtain rfl : u = Value.ref a := rx
  exact getcon_ok I1 ea c k l fun s2 I2 => ⟨v, H1, I2, k.rel, q⟩
theorem ps_fld (ha : PE X o ta) (hv : PE X value tv) (hs : swapsWith value (some (.Attribute o f pos')) pos.line X.env = pure false) : PS X (.Assign [.Attribute o f pos'] value pos) (sFld X.K ta tv f) := by
  intro pins s σ H D I h
  refine plainObj_wpAny_Assign_Attribute (thn (hv pins s σ H _ I h) fun u s1 ⟨y, H1, I1, ry, q⟩ => thn (ha pins s1 σ H1 _ I1 q) fun ov s2 ⟨x, H2, I2, rx, a, C, dx, fs, ex, ea, c, n, l, q2⟩ => ?_) hs
  subst ex
  obtain rfl : ov = Value.ref a := rx
  exact setattr_ok I2 ea c n l ry fun s3 I3 => ⟨σ, _, I3, q2⟩
theorem ps_fldaug {op : Operator} {rd : V → V → Hp → VK → Prop} (ha : PE X o ta) (hv : PE X value tv) (hop : InOp X op rd) : PS X (.AugAssign (.Attribute o f tpos) op value pos) (sFldAug X.K ta tv rd f) := by
  intro pins s σ H D I h
  refine wpAny_AugAssign_AttributeAny (thn (ha pins s σ H _ I h) fun ov s1 ⟨x, H1, I1, rx, a, C, dx, fs, v, ex, ea, c, n, l, q⟩ => ?_)
  subst ex
  obtain rfl : ov = Value.ref a := rx
  refine getattr_ok I1 ea c n l fun u s2 I2 ru => thn (hv pins s2 σ H1 _ I2 q) fun w3 s3 ⟨y, H2, I3, ry, q3⟩ => thn (hop pins s3 σ H2 v y u w3 _ I3 ru ry q3) fun w4 s4 ⟨z, H3, I4, rz, dx', fs', ea', l', q4⟩ => ?_
  exact setattr_ok I4 ea' c n l' rz fun s5 I5 => ⟨σ, _, I5, q4⟩
def rAdd : V → V → Hp → VK → Prop := fun x y H Q => ∃ i j, x = .int i ∧ y = .int j ∧ Q (.int (i + j)) H
def rSub : V → V → Hp → VK → Prop := fun x y H Q => ∃ i j, x = .int i ∧ y = .int j ∧ Q (.int (i - j)) H
theorem in_add : InOp X .Add rAdd := by
  rintro pins s σ H x y u v Q I rx ry ⟨i, j, rfl, rfl, q⟩
  obtain ⟨t, rfl⟩ := (show ∃ t, u = Value.int i t from rx)
  obtain ⟨t', rfl⟩ := (show ∃ t', v = Value.int j t' from ry)
  exact PyProof.Rows.iadd_int ⟨.int (i + j), H, I.tok _, ⟨_, rfl⟩, q⟩
theorem in_sub : InOp X .Sub rSub := by
  rintro pins s σ H x y u v Q I rx ry ⟨i, j, rfl, rfl, q⟩
  obtain ⟨t, rfl⟩ := (show ∃ t, u = Value.int i t from rx)
  obtain ⟨t', rfl⟩ := (show ∃ t', v = Value.int j t' from ry)
  exact PyProof.Rows.isub_int ⟨.int (i - j), H, I.tok _, ⟨_, rfl⟩, q⟩

/-- what is between an instance and its method: the tree of a method call -/
theorem methcall_of {pl : Sem Bool} {m : Str} {apos : Pos} {args : List Expr} {pins : List (Addr × Obj)} {s : Shared} {σ : St} {H : Hp} {Q : Value → Shared → Prop} {te : TE} (he : PE X e te) (I : Inv X pins σ H s)
    (h : te σ H fun x H1 => ∃ a C dx fs g, x = .ref a ∧ H1 a = some (.ins C dx fs) ∧ Cls X.K C ∧ Meth X.K C m g ∧ fs.lookup m = none ∧
      ∀ s1, Inv X pins σ H1 s1 → wpAny (model X.prog X.w) X.A (callWith pos (.ref g) [.ref a] (backTo pos (starEach args X.env)) (backToKw pos (keywordEach [] X.env))) Q X.xe s1)
    (ht : eval (.Call (.Attribute e m apos) args [] pos) X.env = (do
      let ov ← eval e X.env
      standAt apos.atName
      let (f, first) ← holding [ov] (getMethod ov m pl)
      callWith pos f first (backTo pos (starEach args X.env)) (backToKw pos (keywordEach [] X.env)))) :
    wpAny (model X.prog X.w) X.A (eval (.Call (.Attribute e m apos) args [] pos) X.env) Q X.xe s := by
  refine PySem.W.methodCall_KW (pl := pl) (thn (he pins s σ H _ I h) fun u s1 ⟨x, H1, I1, rx, a, C, dx, fs, g, ex, ea, c, k, l, q⟩ => ?_) ht
  subst ex
  obtain rfl : u = Value.ref a := rx
  exact getmeth_ok I1 ea c k l (q s1 I1)
end

/-! ### isinstance -/
section
variable {X : Cx} {pins : List (Addr × Obj)} {σ : St} {H : Hp} {s : Shared} {A : Around} {E : Value → Shared → Prop} {Q : Value → Shared → Prop} {c : Value} {b : Bool}
/-- the type of a value, as the fragment's deciders take it; for an instance its class -/
inductive TyOf (K : PySem.W.Frag) (H : Hp) : V → Value → Prop where
  | non : TyOf K H .non (.type "NoneType")
  | bl (x : Bool) : TyOf K H (.bl x) (.type "bool")
  | int (i : Int) : TyOf K H (.int i) (.type "int")
  | str (x : Str) : TyOf K H (.str x) (.type "str")
  | flt (x : UInt64) : TyOf K H (.flt x) (.type "float")
  | lst {a : Addr} {xs : List V} (e : H a = some (.lst xs)) : TyOf K H (.ref a) (.type "list")
  | frz {a : Addr} {o : Obj} {xs : List V} (e : H a = some (.frz o (.lst xs))) : TyOf K H (.ref a) (.type "list")
  | tup {a : Addr} {xs : List V} (e : H a = some (.tup xs)) : TyOf K H (.ref a) (.type "tuple")
  | dK {a : Addr} {kvs : List (Key × V)} (e : H a = some (.dK kvs)) : TyOf K H (.ref a) (.type "dict")
  | dT {a : Addr} {kvs : List (List Key × V)} (e : H a = some (.dT kvs)) : TyOf K H (.ref a) (.type "dict")
  | ins {a C dx : Addr} {fs : List (Str × V)} (e : H a = some (.ins C dx fs)) (cl : Cls K C) (ha : PySem.W.findIn K (.ref C) "__class__" = some (some (.builtin "object.__class__")))
      (hn : PySem.W.specialIn K (.builtin "object.__class__") "__get__" = some (some (.builtin "getset_descriptor.__get__"))) (htk : PySem.W.takesIn K (.builtin "object.__class__") = some true)
      (hm : PySem.W.mroIn K C (.type "object") = some true) : TyOf K H (.ref a) (.ref C)
/-- isinstance(x, c) for one class c, a built-in or an own one: kitOne's answer -/
theorem isinst_ok {x : V} {u t : Value} (I : Inv X pins σ H s) (rx : RelV x u) (ty : TyOf X.K H x t) (e : PySem.W.kitOne X.K t c = some b) (h : ∀ tk, Q (.bool b) { s with toks := tk }) :
    wpAny (model X.prog X.w) A (call (.builtin "isinstance") [u, c]) Q E s := by
  cases ty with
  | non => cases (show u = Value.none from rx); exact PySem.W.kia_one PySem.W.kitx_none I.kIn True.intro e (fun z => nomatch z) h
  | bl y => cases (show u = Value.bool y from rx); exact PySem.W.kia_one PySem.W.kitx_bool I.kIn True.intro e (fun z => nomatch z) h
  | int i => obtain ⟨t, q⟩ := (show ∃ t, u = Value.int i t from rx); cases q; exact PySem.W.kia_one PySem.W.kitx_int I.kIn True.intro e (fun z => nomatch z) h
  | str y => obtain ⟨t, q⟩ := (show ∃ t, u = Value.str y t from rx); cases q; exact PySem.W.kia_one PySem.W.kitx_str I.kIn True.intro e (fun z => nomatch z) h
  | flt y => obtain ⟨t, q⟩ := (show ∃ t, u = Value.float y t from rx); cases q; exact PySem.W.kia_one PySem.W.kitx_float I.kIn True.intro e (fun z => nomatch z) h
  | @lst a xs ea =>
    cases (show u = Value.ref a from rx)
    obtain ⟨_, _, n, _, h1⟩ := (show ObjOk X.prog X.w H s.heap a (.lst xs) from I.hok a _ ea)
    exact PySem.W.kia_one PySem.W.kitx_list I.kIn ⟨_, h1, rfl⟩ e (fun z => nomatch z) h
  | @frz a ob xs ea =>
    cases (show u = Value.ref a from rx)
    obtain ⟨_, _, _, n, _, h1⟩ := (show ObjOk X.prog X.w H s.heap a (.frz ob (.lst xs)) from I.hok a _ ea)
    exact PySem.W.kia_one PySem.W.kitx_list I.kIn ⟨_, h1, rfl⟩ e (fun z => nomatch z) h
  | @tup a xs ea =>
    cases (show u = Value.ref a from rx)
    obtain ⟨_, _, _, p⟩ := (show ObjOk X.prog X.w H s.heap a (.tup xs) from I.hok a _ ea)
    obtain ⟨o, h1, h2, _⟩ := p
    exact PySem.W.kia_one PySem.W.kitx_tuple I.kIn ⟨o, h1, h2⟩ e (fun z => nomatch z) h
  | @dK a kvs ea =>
    cases (show u = Value.ref a from rx)
    obtain ⟨_, _, vs, _, p⟩ := (show ObjOk X.prog X.w H s.heap a (.dK kvs) from I.hok a _ ea)
    obtain ⟨o, es, ep, h1, h2, _⟩ := p
    exact PySem.W.kia_one PySem.W.kitx_dict I.kIn ⟨o, h1, h2.1⟩ e (fun z => nomatch z) h
  | @dT a kvs ea =>
    cases (show u = Value.ref a from rx)
    obtain ⟨_, _, xs, _, o, es, ep, h1, h2, _⟩ := (show ObjOk X.prog X.w H s.heap a (.dT kvs) from I.hok a _ ea)
    exact PySem.W.kia_one PySem.W.kitx_dict I.kIn ⟨o, h1, h2.1⟩ e (fun z => nomatch z) h
  | @ins a C dx fs ea cl ha hn htk hm =>
    cases (show u = Value.ref a from rx)
    obtain ⟨mA, O, _⟩ := ins_get I.hok ea
    obtain ⟨od, J, _⟩ := O.look
    exact PySem.W.kia_one (PySem.W.kitx_own (cl.get _) cl.hd ha hn htk hm) I.kIn J e (fun z => nomatch z) h
end
end L2

namespace L2
open PySem PySem.Spec PyProof.Rows

/-! ### room -/
structure Room (k : Nat) (A : Around) : Prop where
  hd : A.handled = none
  dp : A.depth + 3 * k + 5 < recursionLimit
  un : A.units + 16 * k + 200 < cLine
theorem Room.mono {j k : Nat} {A : Around} (r : Room k A) (h : j ≤ k) : Room j A := ⟨r.hd, by have := r.dp; omega, by have := r.un; omega⟩
theorem Room.deeper {k : Nat} {A : Around} (r : Room (k + 1) A) (env : Env) : Room k (A.deeper env) :=
  ⟨r.hd, by have := r.dp; show A.depth + 1 + 3 * k + 5 < _; omega, by have := r.un; show A.units + 3 + 16 * k + 200 < _; omega⟩
theorem Room.in1 {k : Nat} {A : Around} (r : Room (k + 1) A) : Room k A.in1 :=
  ⟨r.hd, by have := r.dp; show A.depth + 3 * k + 5 < _; omega, by have := r.un; show A.units + 1 + 16 * k + 200 < _; omega⟩
theorem make_depth {A : Around} {C : Addr} {us : List Value} {kw : List (Str × Value)} : (A.under (.builtin "type.__call__" ⟨.ref C :: us, kw⟩)).depth = A.depth + 1 := by
  first | rfl | simp [Around.under, Code.weight, Code.isCreation, Code.isGuard, Code.isCaller, Code.frames, Code.isFrame, guardIds]
theorem make_units {A : Around} {C : Addr} {us : List Value} {kw : List (Str × Value)} : (A.under (.builtin "type.__call__" ⟨.ref C :: us, kw⟩)).units = A.units + 1 := by
  first | rfl | simp [Around.under, Code.cUnits, Code.frames, Code.isFrame]
theorem Room.make {k : Nat} {A : Around} (r : Room (k + 1) A) (C : Addr) (us : List Value) (kw : List (Str × Value)) : Room k (A.under (.builtin "type.__call__" ⟨.ref C :: us, kw⟩)) :=
  ⟨r.hd, by have := r.dp; rw [make_depth]; omega, by have := r.un; rw [make_units]; omega⟩
theorem Room.depth {k : Nat} {A : Around} (r : Room k A) : A.depth < recursionLimit := by have := r.dp; omega
theorem Room.units {k : Nat} {A : Around} (r : Room k A) : A.units + 64 < cLine := by have := r.un; omega
theorem Room.units0 {k : Nat} {A : Around} (r : Room k A) : A.units < cLine := by have := r.un; omega

/-! ### argument lists and displays -/
def tNil : TA := fun _ H Q => Q [] H
def tCons (ta : TE) (tr : TA) : TA := fun σ H Q => ta σ H fun x H1 => tr σ H1 fun xs H2 => Q (x :: xs) H2
section
variable {X : Cx} {e : Expr} {es : List Expr} {te : TE} {t : TA} {pos : Pos}
theorem pa_nil : PA X [] tNil := fun _ _ _ _ H Q I h => Calls.spliced_nil ⟨[], H, I, .nil, h⟩
theorem pa_cons (ha : PE X e te) (hr : PA X es t) (hs : starEach (e :: es) X.env = (false, eval e X.env) :: starEach es X.env := by rfl) : PA X (e :: es) (tCons te t) := by
  intro pos pins s σ H Q I h
  rw [hs]
  show wpAny _ _ (spliced ((false, eval e X.env) :: backTo pos (starEach es X.env))) _ _ s
  refine Calls.spliced_cons (thn (ha pins s σ H _ I h) fun u s1 ⟨x, H1, I1, r1, q1⟩ => ?_)
  exact thn (hr pos pins s1 σ H1 _ I1 q1) fun us s2 ⟨xs, H2, I2, r2, q2⟩ => ⟨x :: xs, H2, I2, .cons r1 r2, q2⟩

/-- a tuple, a list of written items -/
def tTup (t : TA) : TE := fun σ H Q => t σ H fun xs H1 => xs.length ≤ sizeLine ∧ ∀ p, H1 p = none → Q (.ref p) (upd H1 p (.tup xs))
def tLst (t : TA) : TE := fun σ H Q => t σ H fun xs H1 => xs.length ≤ sizeLine ∧ ∀ p, H1 p = none → Q (.ref p) (upd H1 p (.lst xs))
theorem pe_tup {x1} (h : PA X es t) : PE X (.Tuple es x1 pos) (tTup t) := by
  intro pins s σ H Q I hq
  refine wpAny_Tuple_spliced (thn (h pos pins s σ H _ I hq) fun us s1 ⟨xs, H1, I1, r, z, q⟩ => ⟨by rw [← r.length]; exact z, ?_⟩)
  have hf : H1 s1.heap.objs.size = none := I1.hok.fresh (Nat.le_refl _)
  refine ⟨.ref s1.heap.objs.size, upd H1 s1.heap.objs.size (.tup xs), I1.laid (t' := s1.toks) (fun b u e => Heap.get?_push_of_some _ e) (Nat.le_refl _) ?_, rfl, q _ hf⟩
  exact ⟨z, us, r, ⟨_, Heap.get?_push_size _ rfl, rfl, _, rfl⟩⟩
theorem pe_lst (h : PA X es t) : PE X (.List es pos) (tLst t) := by
  intro pins s σ H Q I hq
  refine wpAny_List_spliced (thn (h pos pins s σ H _ I hq) fun us s1 ⟨xs, H1, I1, r, z, q⟩ => ⟨by rw [← r.length]; exact z, ?_⟩)
  have hf : H1 s1.heap.objs.size = none := I1.hok.fresh (Nat.le_refl _)
  refine ⟨.ref s1.heap.objs.size, upd H1 s1.heap.objs.size (.lst xs), I1.laid (t' := s1.toks) (fun b u e => Heap.get?_push_of_some _ e) (Nat.le_refl _) ?_, rfl, q _ hf⟩
  exact ⟨z, us, 0, r, Heap.get?_push_size _ rfl⟩
end

/-! ### what a def promises -/
/-- a def's promise: the bound arguments in the parameters' order, the heap, the wanted end, the wanted exception -/
abbrev Sp := List V → Hp → VK → XK → Prop
/-- how an exception lies behind a call (file 08 gives it): the callers' frames, abstract heap and state ahead of the call, the wish, the exception, the state -/
abbrev CXT := List Env → Hp → Shared → XK → Value → Shared → Prop

/-- the state at a call -/
structure Env0 (P : Program) (w : World) (K : PySem.W.Frag) (mg : Str → Option Value) (base : Heap) (A : Around) (outer : List Env) (s : Shared) (H : Hp) : Prop where
  frames : A.frames = some outer
  mod : Mod K mg base
  bs : ∀ b o, base.get? b = some o → s.heap.get? b = some o ∧ H b = none
  bsz : base.objs.size ≤ s.heap.objs.size
  funs : s.heap.FunFrames base outer
  frf : ∀ b ∈ frs outer, H b = none
  hok : HOk P w H s.heap
  bare : AllBare s.gens
/-- a call's end -/
def CE (outer : List Env) (P : Program) (w : World) (H : Hp) (s : Shared) (Q : VK) (u : Value) (s' : Shared) : Prop :=
  ∃ v H', s'.os = s.os ∧ AllBare s'.gens ∧ Un (frs outer) [] H H' s.heap s'.heap ∧ HOk P w H' s'.heap ∧ RelV v u ∧ Q v H'
def CR (CX : CXT) (outer : List Env) (P : Program) (w : World) (H : Hp) (s : Shared) (Q : VK) (E : XK) (r : Result) (s' : Shared) : Prop :=
  match r with
  | .ok (.ret u) => CE outer P w H s Q u s'
  | .ok _ => False
  | .error e => CX outer H s E e s'
structure FnOk (P : Program) (w : World) (K : PySem.W.Frag) (mg : Str → Option Value) (base : Heap) (CX : CXT) (k : Nat) (f : Addr) (fd : FuncData) (ps : List Str) (sp : Sp) : Prop where
  len : ∀ vs H Q E, sp vs H Q E → vs.length = ps.length
  run : ∀ (A : Around) (outer : List Env) (s : Shared) (H : Hp) (args : Args) (us : List Value) (vs : List V) (Q : VK) (E : XK), Room k A → Env0 P w K mg base A outer s H → BindsTo s fd args (ps.zip us) → Vals vs us → sp vs H Q E →
    codeAny (model P w) A (.call (.ref f) args) (CR CX outer P w H s Q E) s
theorem FnOk.mono {P : Program} {w : World} {K : PySem.W.Frag} {mg : Str → Option Value} {base : Heap} {CX : CXT} {j k : Nat} {f : Addr} {fd : FuncData} {ps : List Str} {sp : Sp} (F : FnOk P w K mg base CX j f fd ps sp) (h : j ≤ k) :
    FnOk P w K mg base CX k f fd ps sp := ⟨F.len, fun A outer s H args us vs Q E hr => F.run A outer s H args us vs Q E (hr.mono h)⟩
/-- a weaker promise -/
theorem FnOk.imp {P : Program} {w : World} {K : PySem.W.Frag} {mg : Str → Option Value} {base : Heap} {CX : CXT} {k : Nat} {f : Addr} {fd : FuncData} {ps : List Str} {sp sp' : Sp} (F : FnOk P w K mg base CX k f fd ps sp)
    (h : ∀ vs H Q E, sp' vs H Q E → sp vs H Q E) : FnOk P w K mg base CX k f fd ps sp' :=
  ⟨fun vs H Q E q => F.len vs H Q E (h _ _ _ _ q), fun A outer s H args us vs Q E hr he hb hv hs => F.run A outer s H args us vs Q E hr he hb hv (h _ _ _ _ hs)⟩

theorem Env0.make {P : Program} {w : World} {K : PySem.W.Frag} {mg : Str → Option Value} {base : Heap} {A : Around} {outer : List Env} {s : Shared} {H : Hp} (e : Env0 P w K mg base A outer s H) (C : Addr) (us : List Value) (kw : List (Str × Value)) :
    Env0 P w K mg base (A.under (.builtin "type.__call__" ⟨.ref C :: us, kw⟩)) outer s H := ⟨by first | exact e.frames | (simpa [Around.under, Code.envs, Code.isFrame, pushEnvs] using e.frames), e.mod, e.bs, e.bsz, e.funs, e.frf, e.hok, e.bare⟩
theorem Env0.in1 {P : Program} {w : World} {K : PySem.W.Frag} {mg : Str → Option Value} {base : Heap} {A : Around} {outer : List Env} {s : Shared} {H : Hp} (e : Env0 P w K mg base A outer s H) :
    Env0 P w K mg base A.in1 outer s H := ⟨e.frames, e.mod, e.bs, e.bsz, e.funs, e.frf, e.hok, e.bare⟩

section
variable {X : Cx} {pins : List (Addr × Obj)} {σ : St} {H : Hp} {s s' : Shared}
/-- from a body: what a callee wants -/
theorem Inv.env0 (I : Inv X pins σ H s) : Env0 X.prog X.w X.K X.mg X.base X.A X.stack s H :=
  ⟨I.ok.frames, I.ok.mod, I.bs, Nat.le_trans I.ok.bsz I.sz, I.stack, I.stkFree, I.hok, I.bare⟩
/-- behind a call -/
theorem Inv.after {Q : VK} {u : Value} (I : Inv X pins σ H s) (h : CE X.stack X.prog X.w H s Q u s') : EP X pins σ Q u s' := by
  obtain ⟨v, H', os, bare, un, hok, r, q⟩ := h
  obtain ⟨hh, g, d, t, os'⟩ := s'
  obtain rfl : os' = s.os := os
  exact ⟨v, H', I.call (h' := hh) (g' := g) (d' := d) (t' := t) (ch := []) un hok bare (fun b z => absurd z (by simp)), r, q⟩
end

/-! ### calls -/
/-- f(..): the written arguments, then the defaults dvs; E: what is wanted of an exception -/
def tCall (sp : Sp) (dvs : List V) (E : XK) (t : TA) : TE := fun σ H Q => t σ H fun vs H1 => sp (vs ++ dvs) H1 Q E
/-- o.m(..) of an instance of the class at C -/
def tMeth (C : Addr) (m : Str) (sp : Sp) (dvs : List V) (E : XK) (ta : TE) (t : TA) : TE := fun σ H Q => ta σ H fun x H1 => ∃ a dx fs, x = .ref a ∧ H1 a = some (.ins C dx fs) ∧ fs.lookup m = none ∧
  t σ H1 fun vs H2 => sp (x :: (vs ++ dvs)) H2 Q E
/-- C(..): a new instance and its dict, then __init__ -/
def tMake (C : Addr) (sp : Sp) (dvs : List V) (E : XK) (t : TA) : TE := fun σ H Q => t σ H fun vs H1 => ∀ x dx, H1 x = none → H1 dx = none → dx ≠ x →
  sp (.ref x :: (vs ++ dvs)) (upd (upd H1 dx (.own x)) x (.ins C dx [])) (fun v H2 => v = .non ∧ Q (.ref x) H2) E

/-- how the parameters are bound: us the positional arguments, kw the keywords' values by name, ds the defaults that fill up -/
def Binds (K : PySem.W.Frag) (fd : FuncData) (ps : List Str) (ds : List Value) : Prop :=
  ∀ (s : Shared) (us : List Value), K.In s.heap → (us ++ ds).length = ps.length → BindsTo s fd ⟨us, []⟩ (ps.zip (us ++ ds))
/-- every parameter is given -/
theorem Binds.all {K : PySem.W.Frag} {fd : FuncData} {ps : List Str} (h : ∀ us : List Value, us.length = ps.length → bindArgs fd ⟨us, []⟩ = pure (ps.zip us)) : Binds K fd ps [] := fun s us _ hl => by
  rw [List.append_nil] at hl ⊢
  exact .of_eq (h us hl)

/-- an exception of a callee reaches what this body wants of exceptions -/
def Passes (CX : CXT) (X : Cx) (E : XK) : Prop := ∀ (pins : List (Addr × Obj)) (σ : St) (H : Hp) (s : Shared) (e : Value) (s' : Shared), Inv X pins σ H s → CX X.stack H s E e s' → X.xe e s'

section
variable {X : Cx} {CX : CXT} {k : Nat} {f C : Addr} {fd : FuncData} {ps : List Str} {sp : Sp} {dvs : List V} {ds : List Value} {E : XK} {x m : Str} {p pos apos : Pos} {e o : Expr} {es : List Expr} {ta : TE} {t : TA}

/-- the callee runs -/
theorem run_fn {pins : List (Addr × Obj)} {σ : St} {H : Hp} {s : Shared} {Q : VK} {us : List Value} {vs : List V} (F : FnOk X.prog X.w X.K X.mg X.base CX k f fd ps sp) (hr : Room k X.A) (hb : Binds X.K fd ps ds) (hd : Vals dvs ds) (hx : Passes CX X E)
    (I : Inv X pins σ H s) (r : Vals vs us) (h : sp (vs ++ dvs) H Q E) : wpAny (model X.prog X.w) X.A (call (.ref f) us) (EP X pins σ Q) X.xe s := by
  have r2 : Vals (vs ++ dvs) (us ++ ds) := r.append hd
  have hl : (us ++ ds).length = ps.length := by rw [← r2.length]; exact F.len _ _ _ _ h
  refine wpAny_call (codeAny_mono (F.run X.A X.stack s H ⟨us, []⟩ (us ++ ds) (vs ++ dvs) Q E hr I.env0 (hb s us I.kIn hl) r2 h) fun r s' hq => ?_)
  cases r with
  | error e => exact hx pins σ H s e s' I hq
  | ok fl =>
    cases fl with
    | ret u => exact I.after hq
    | next => exact False.elim hq
    | brk => exact False.elim hq
    | cont => exact False.elim hq

theorem pe_call (F : FnOk X.prog X.w X.K X.mg X.base CX k f fd ps sp) (hr : Room k X.A) (hg : Gl X x) (hm : X.mg x = some (.ref f)) (hk : PySem.W.keepIn X.K (.ref f) = true) (hb : Binds X.K fd ps ds) (hd : Vals dvs ds) (hx : Passes CX X E)
    (ha : PA X (e :: es) t) (hdb : (x == ("__debug__" : Str)) = false := by decide) (he : starEach (e :: es) X.env = (false, eval e X.env) :: starEach es X.env := by rfl) (hpl : (backTo pos (starEach es X.env)).any (·.1) = false := by rfl) :
    PE X (.Call (.Name x p) (e :: es) [] pos) (tCall sp dvs E t) := by
  intro pins s σ H Q I h
  refine wpAny_Call_Name_kw (ld_glob I hg hm ?_ hdb)
  refine PySem.W.callWith_K (h₀ := X.base) I.ok.mod.kin hk (thn (ha pos pins s σ H _ I h) fun us s1 ⟨vs, H1, I1, r, q⟩ => ⟨I1.kIn, ?_⟩) he hpl
  exact run_fn F hr hb hd hx I1 r q
theorem pe_call0 (F : FnOk X.prog X.w X.K X.mg X.base CX k f fd ps sp) (hr : Room k X.A) (hg : Gl X x) (hm : X.mg x = some (.ref f)) (hk : PySem.W.keepIn X.K (.ref f) = true) (hb : Binds X.K fd ps ds) (hd : Vals dvs ds) (hx : Passes CX X E)
    (hdb : (x == ("__debug__" : Str)) = false := by decide) : PE X (.Call (.Name x p) [] [] pos) (tCall sp dvs E tNil) := by
  intro pins s σ H Q I h
  refine wpAny_Call_Name_kw (ld_glob I hg hm ?_ hdb)
  exact PySem.W.callWith_K0 I.kIn hk (run_fn (us := []) F hr hb hd hx I .nil h)

/-- o.m(e, ..) -/
theorem pe_meth {pl : Sem Bool} (he : PE X o ta) (c : Cls X.K C) (hm : Meth X.K C m f) (F : FnOk X.prog X.w X.K X.mg X.base CX k f fd ps sp) (hr : Room k X.A) (hb : Binds X.K fd ps ds) (hd : Vals dvs ds) (hx : Passes CX X E) (ha : PA X (e :: es) t)
    (hst : starEach (e :: es) X.env = (false, eval e X.env) :: starEach es X.env := by rfl) (hpl : (backTo pos (starEach es X.env)).any (·.1) = false := by rfl)
    (ht : eval (.Call (.Attribute o m apos) (e :: es) [] pos) X.env = (do
      let ov ← eval o X.env
      standAt apos.atName
      let (f, first) ← holding [ov] (getMethod ov m pl)
      callWith pos f first (backTo pos (starEach (e :: es) X.env)) (backToKw pos (keywordEach [] X.env))) := by rfl) :
    PE X (.Call (.Attribute o m apos) (e :: es) [] pos) (tMeth C m sp dvs E ta t) := by
  intro pins s σ H Q I h
  refine PySem.W.methodCall_KW (pl := pl) (thn (he pins s σ H _ I h) fun u s1 ⟨x, H1, I1, rx, a, dx, fs, ex, ea, l, q⟩ => ?_) ht
  subst ex
  obtain rfl : u = Value.ref a := rx
  refine getmeth_ok I1 ea c hm l ?_
  refine PySem.W.callWith_K (first := [.ref a]) (h₀ := X.base) I.ok.mod.kin hm.kp (thn (ha pos pins s1 σ H1 _ I1 q) fun us s2 ⟨vs, H2, I2, r, q2⟩ => ⟨I2.kIn, ?_⟩) hst hpl
  exact run_fn (us := .ref a :: us) (vs := .ref a :: vs) F hr hb hd hx I2 (.cons rfl r) q2
/-- o.m() -/
theorem pe_meth0 {pl : Sem Bool} (he : PE X o ta) (c : Cls X.K C) (hm : Meth X.K C m f) (F : FnOk X.prog X.w X.K X.mg X.base CX k f fd ps sp) (hr : Room k X.A) (hb : Binds X.K fd ps ds) (hd : Vals dvs ds) (hx : Passes CX X E)
    (ht : eval (.Call (.Attribute o m apos) [] [] pos) X.env = (do
      let ov ← eval o X.env
      standAt apos.atName
      let (f, first) ← holding [ov] (getMethod ov m pl)
      callWith pos f first (backTo pos (starEach [] X.env)) (backToKw pos (keywordEach [] X.env))) := by rfl) :
    PE X (.Call (.Attribute o m apos) [] [] pos) (tMeth C m sp dvs E ta tNil) := by
  intro pins s σ H Q I h
  refine PySem.W.methodCall_KW (pl := pl) (thn (he pins s σ H _ I h) fun u s1 ⟨x, H1, I1, rx, a, dx, fs, ex, ea, l, q⟩ => ?_) ht
  subst ex
  obtain rfl : u = Value.ref a := rx
  refine getmeth_ok I1 ea c hm l ?_
  exact PySem.W.callWith_K0 (first := [.ref a]) I1.kIn hm.kp (run_fn (us := [.ref a]) (vs := [.ref a]) F hr hb hd hx I1 (.cons rfl .nil) q)

/-- what a class must have to be made -/
structure Mk (K : PySem.W.Frag) (C f : Addr) : Prop where
  makes : PySem.W.makesIn K C = true
  init : PySem.W.findIn K (.ref C) "__init__" = some (some (.ref f))
  fn : PySem.W.isFn K (.ref f) = true
  kp : PySem.W.keepIn K (.ref C) = true

theorem run_make {pins : List (Addr × Obj)} {σ : St} {H : Hp} {s : Shared} {Q : VK} {us : List Value} {vs : List V} (M : Mk X.K C f) (F : FnOk X.prog X.w X.K X.mg X.base CX k f fd ps sp) (hr : Room (k + 1) X.A) (hb : Binds X.K fd ps ds) (hd : Vals dvs ds)
    (hx : Passes CX X E) (I : Inv X pins σ H s) (r : Vals vs us)
    (h : ∀ x dx, H x = none → H dx = none → dx ≠ x → sp (.ref x :: (vs ++ dvs)) (upd (upd H dx (.own x)) x (.ins C dx [])) (fun v H2 => v = .non ∧ Q (.ref x) H2) E) :
    wpAny (model X.prog X.w) X.A (call (.ref C) us) (EP X pins σ Q) X.xe s := by
  have hq := h (s.heap.objs.size + 1) s.heap.objs.size (I.hok.fresh (Nat.le_succ _)) (I.hok.fresh (Nat.le_refl _)) (Nat.ne_of_lt (Nat.lt_succ_self _))
  have I2 := Inv.made (C := C) I
  have r2 : Vals (V.ref (s.heap.objs.size + 1) :: (vs ++ dvs)) (Value.ref (s.heap.objs.size + 1) :: (us ++ ds)) := .cons rfl (r.append hd)
  have hl : (Value.ref (s.heap.objs.size + 1) :: us ++ ds).length = ps.length := by
    have e := r2.length
    rw [F.len _ _ _ _ hq] at e
    exact e.symm
  refine wpAny_call (make_map (f := f) I.kIn M.makes M.init (beq_iff_eq.mp M.fn) (codeAny_mono (F.run _ X.stack _ _ ⟨Value.ref (s.heap.objs.size + 1) :: us, []⟩ (Value.ref (s.heap.objs.size + 1) :: (us ++ ds)) _ _ E (hr.make C us [])
    (I2.env0.make C us []) (hb _ (Value.ref (s.heap.objs.size + 1) :: us) I2.kIn hl) r2 hq) fun r s' hq' => ?_))
  cases r with
  | error e => exact hx pins σ _ _ e s' I2 hq'
  | ok fl =>
    cases fl with
    | ret u =>
      obtain ⟨v, H', I3, rv, ev, q3⟩ := I2.after hq'
      subst ev
      exact ⟨rv, ⟨V.ref (s.heap.objs.size + 1), H', I3, rfl, q3⟩⟩
    | next => exact False.elim hq'
    | brk => exact False.elim hq'
    | cont => exact False.elim hq'
theorem pe_make (M : Mk X.K C f) (F : FnOk X.prog X.w X.K X.mg X.base CX k f fd ps sp) (hr : Room (k + 1) X.A) (hg : Gl X x) (hm : X.mg x = some (.ref C)) (hb : Binds X.K fd ps ds) (hd : Vals dvs ds) (hx : Passes CX X E)
    (ha : PA X (e :: es) t) (hdb : (x == ("__debug__" : Str)) = false := by decide) (he : starEach (e :: es) X.env = (false, eval e X.env) :: starEach es X.env := by rfl) (hpl : (backTo pos (starEach es X.env)).any (·.1) = false := by rfl) :
    PE X (.Call (.Name x p) (e :: es) [] pos) (tMake C sp dvs E t) := by
  intro pins s σ H Q I h
  refine wpAny_Call_Name_kw (ld_glob I hg hm ?_ hdb)
  refine PySem.W.callWith_K (h₀ := X.base) I.ok.mod.kin M.kp (thn (ha pos pins s σ H _ I h) fun us s1 ⟨vs, H1, I1, r, q⟩ => ⟨I1.kIn, ?_⟩) he hpl
  exact run_make M F hr hb hd hx I1 r q
theorem pe_make0 (M : Mk X.K C f) (F : FnOk X.prog X.w X.K X.mg X.base CX k f fd ps sp) (hr : Room (k + 1) X.A) (hg : Gl X x) (hm : X.mg x = some (.ref C)) (hb : Binds X.K fd ps ds) (hd : Vals dvs ds) (hx : Passes CX X E)
    (hdb : (x == ("__debug__" : Str)) = false := by decide) : PE X (.Call (.Name x p) [] [] pos) (tMake C sp dvs E tNil) := by
  intro pins s σ H Q I h
  refine wpAny_Call_Name_kw (ld_glob I hg hm ?_ hdb)
  exact PySem.W.callWith_K0 I.kIn M.kp (run_make (us := []) M F hr hb hd hx I .nil h)
end

/-! ### keywords -/
/-- the values of the keywords, from the left -/
def PK (X : Cx) (kws : List Keyword) (t : TA) : Prop :=
  ∀ (pos : Pos) (pins : List (Addr × Obj)) (s : Shared) (σ : St) (H : Hp) (Q : List V → Hp → Prop), Inv X pins σ H s → t σ H Q → wpAny (model X.prog X.w) X.A (evalAll ((backToKw pos (keywordEach kws X.env)).map (·.2))) (AP X pins σ Q) X.xe s
section
variable {X : Cx} {CX : CXT} {k : Nat} {f C : Addr} {fd : FuncData} {ps ks : List Str} {sp : Sp} {E : XK} {x m : Str} {p pos apos kpos : Pos} {e o : Expr} {es : List Expr} {kws : List Keyword} {te ta : TE} {t tk : TA} {nm : Option Str}
theorem pk_nil : PK X [] tNil := fun _ _ _ _ H Q I h => wpAny_evalAll_nil ⟨[], H, I, .nil, h⟩
theorem pk_cons (ha : PE X e te) (hr : PK X kws t) : PK X (⟨nm, e, kpos⟩ :: kws) (tCons te t) := by
  intro pos pins s σ H Q I h
  show wpAny _ _ (evalAll ((do let v ← eval e X.env; standAt pos; pure v) :: (backToKw pos (keywordEach kws X.env)).map (·.2))) _ _ s
  refine wpAny_evalAll_cons (wpAny_bind (thn (ha pins s σ H _ I h) fun u s1 ⟨x, H1, I1, r1, q1⟩ => wpAny_bind (wpAny_standAt (wpAny_pure ?_))))
  exact thn (hr pos pins s1 σ H1 _ I1 q1) fun us s2 ⟨xs, H2, I2, r2, q2⟩ => ⟨x :: xs, H2, I2, .cons r1 r2, q2⟩

/-- how a call with keywords binds: g puts the positional values us and the keywords' values ws (names ks) in the parameters' order, defaults among them -/
structure KBinds (K : PySem.W.Frag) (fd : FuncData) (ps ks : List Str) (g : List Value → List Value → List Value) (gV : List V → List V → List V) : Prop where
  to : ∀ (s : Shared) (us ws : List Value), K.In s.heap → (g us ws).length = ps.length → BindsTo s fd ⟨us, ks.zip ws⟩ (ps.zip (g us ws))
  rel : ∀ {vs : List V} {us : List Value} {zs : List V} {ws : List Value}, Vals vs us → Vals zs ws → Vals (gV vs zs) (g us ws)
def tCallK (sp : Sp) (gV : List V → List V → List V) (E : XK) (t tk : TA) : TE := fun σ H Q => t σ H fun vs H1 => tk σ H1 fun zs H2 => sp (gV vs zs) H2 Q E
variable {g : List Value → List Value → List Value} {gV : List V → List V → List V}
theorem run_fnk {pins : List (Addr × Obj)} {σ : St} {H : Hp} {s : Shared} {Q : VK} {us ws : List Value} {vs zs : List V} (F : FnOk X.prog X.w X.K X.mg X.base CX k f fd ps sp) (hr : Room k X.A) (hb : KBinds X.K fd ps ks g gV) (hx : Passes CX X E)
    (I : Inv X pins σ H s) (r : Vals vs us) (rz : Vals zs ws) (h : sp (gV vs zs) H Q E) : wpAny (model X.prog X.w) X.A (call (.ref f) us (ks.zip ws)) (EP X pins σ Q) X.xe s := by
  have r2 := hb.rel r rz
  have hl : (g us ws).length = ps.length := by rw [← r2.length]; exact F.len _ _ _ _ h
  refine wpAny_call (codeAny_mono (F.run X.A X.stack s H ⟨us, ks.zip ws⟩ (g us ws) (gV vs zs) Q E hr I.env0 (hb.to s us ws I.kIn hl) r2 h) fun r s' hq => ?_)
  cases r with
  | error e => exact hx pins σ H s e s' I hq
  | ok fl =>
    cases fl with
    | ret u => exact I.after hq
    | next => exact False.elim hq
    | brk => exact False.elim hq
    | cont => exact False.elim hq
/-- f(e, .., k = v, ..) -/
theorem pe_callK (F : FnOk X.prog X.w X.K X.mg X.base CX k f fd ps sp) (hr : Room k X.A) (hg : Gl X x) (hm : X.mg x = some (.ref f)) (hk : PySem.W.keepIn X.K (.ref f) = true) (hb : KBinds X.K fd ps ks g gV) (hx : Passes CX X E)
    (ha : PA X (e :: es) t) (hkw : PK X kws tk) (hall : (backToKw pos (keywordEach kws X.env)).all (·.1.isSome) = true := by rfl) (hks : (backToKw pos (keywordEach kws X.env)).filterMap (·.1) = ks := by rfl)
    (hdb : (x == ("__debug__" : Str)) = false := by decide) (he : starEach (e :: es) X.env = (false, eval e X.env) :: starEach es X.env := by rfl)
    (hpl : ((backTo pos (starEach (e :: es) X.env)).any (·.1) || (backToKw pos (keywordEach kws X.env)).any (·.1.isNone)) = false := by rfl) :
    PE X (.Call (.Name x p) (e :: es) kws pos) (tCallK sp gV E t tk) := by
  intro pins s σ H Q I h
  refine wpAny_Call_Name_kw (ld_glob I hg hm ?_ hdb)
  refine PySem.W.callWith_KW (h₀ := X.base) I.ok.mod.kin hk hall (thn (ha pos pins s σ H _ I h) fun us s1 ⟨vs, H1, I1, r, q⟩ => ?_) hpl he
  refine thn (hkw pos pins s1 σ H1 _ I1 q) fun ws s2 ⟨zs, H2, I2, rz, q2⟩ => ⟨I2.kIn, ?_⟩
  rw [hks]
  exact run_fnk F hr hb hx I2 r rz q2
end

/-! ### a def's body keeps its promise -/
/-- names: the parameters first -/
structure FnScope (N P : List Str) (sc : Scope) : Prop where
  kind : sc.kind = .function
  co : sc.isCoroutine = false
  gen : sc.isGenerator = false
  nd : N.Nodup
  pre : N.take P.length = P
  par : ∀ x ∈ P, sc.names.lookup x = some .local ∨ sc.names.lookup x = some .cell
  nofree : ∀ y ∈ sc.names, y.2 ≠ .free

theorem bindL_out {kindOf : Str → Option NameKind} {x : Str} : ∀ {binds : List (Str × Value)} {m : Str → Option Value}, (∀ v, (x, v) ∉ binds) → bindL kindOf binds m x = m x
  | [], _, _ => rfl
  | (n, v) :: r, m, h => by
    unfold bindL
    rw [bindL_out fun w hw => h w (List.mem_cons_of_mem _ hw)]
    split
    · have : x ≠ n := by rintro rfl; exact h v List.mem_cons_self
      simp [this]
    · rfl
theorem bindC_out {kindOf : Str → Option NameKind} {x : Str} : ∀ {binds : List (Str × Value)} {m : Str → Option Value}, (∀ v, (x, v) ∉ binds) → bindC kindOf binds m x = m x
  | [], _, _ => rfl
  | (n, v) :: r, m, h => by
    unfold bindC
    rw [bindC_out fun w hw => h w (List.mem_cons_of_mem _ hw)]
    split
    · rfl
    · have : x ≠ n := by rintro rfl; exact h v List.mem_cons_self
      simp [this]
theorem bindL_get {kindOf : Str → Option NameKind} {x : Str} {v : Value} : ∀ {P : List Str} {vs : List Value} {i : Nat} {m : Str → Option Value}, P.Nodup → P[i]? = some x → vs[i]? = some v → kindOf x = some .local →
    bindL kindOf (P.zip vs) m x = some v
  | [], _, _, _, _, h, _, _ => by simp at h
  | _ :: _, [], _, _, _, _, h, _ => by simp at h
  | p :: P, w :: vs, 0, m, nd, h1, h2, hk => by
    simp at h1 h2; subst h1; subst h2
    show bindL kindOf ((p, w) :: P.zip vs) m p = _
    unfold bindL
    rw [bindL_out fun v hv => (List.nodup_cons.mp nd).1 (List.of_mem_zip hv).1, if_pos hk]
    simp
  | p :: P, w :: vs, i + 1, m, nd, h1, h2, hk => by
    show bindL kindOf ((p, w) :: P.zip vs) m x = _
    unfold bindL
    exact bindL_get (i := i) (List.nodup_cons.mp nd).2 (by simpa using h1) (by simpa using h2) hk
theorem bindC_get {kindOf : Str → Option NameKind} {x : Str} {v : Value} : ∀ {P : List Str} {vs : List Value} {i : Nat} {m : Str → Option Value}, P.Nodup → P[i]? = some x → vs[i]? = some v → kindOf x ≠ some .local →
    bindC kindOf (P.zip vs) m x = some v
  | [], _, _, _, _, h, _, _ => by simp at h
  | _ :: _, [], _, _, _, _, h, _ => by simp at h
  | p :: P, w :: vs, 0, m, nd, h1, h2, hk => by
    simp at h1 h2; subst h1; subst h2
    show bindC kindOf ((p, w) :: P.zip vs) m p = _
    unfold bindC
    rw [bindC_out fun v hv => (List.nodup_cons.mp nd).1 (List.of_mem_zip hv).1, if_neg hk]
    simp
  | p :: P, w :: vs, i + 1, m, nd, h1, h2, hk => by
    show bindC kindOf ((p, w) :: P.zip vs) m x = _
    unfold bindC
    exact bindC_get (i := i) (List.nodup_cons.mp nd).2 (by simpa using h1) (by simpa using h2) hk

/-- the names' values at the entry -/
def start (N : List Str) (vs : List V) : St := vs.map some ++ List.replicate (N.length - vs.length) none

/-- the context of a def's body, at its entry; an exception leaves the frame, then lies as CX says -/
def cxOf (CX : CXT) (P : Program) (w : World) (K : PySem.W.Frag) (mg : Str → Option Value) (base : Heap) (N : List Str) (qual : Str) (scope : Scope) (f : Addr) (cd : Value) (A : Around) (outer : List Env) (s : Shared) (H : Hp) (E : XK) : Cx where
  prog := P
  w := w
  K := K
  mg := mg
  base := base
  A := A.deeper (envOfC qual scope s.heap.objs.size f cd)
  N := N
  s₀ := s
  H₀ := H
  env := envOfC qual scope s.heap.objs.size f cd
  outer := outer
  stack := envOfC qual scope s.heap.objs.size f cd :: outer
  ex := []
  calm := true
  fn := fun _ => true
  pn := []
  xe := fun e s' => wpAny (model P w) (A.deeper (envOfC qual scope s.heap.objs.size f cd)) (leaving (envOfC qual scope s.heap.objs.size f cd) e) (fun _ s'' => CX outer H s E e s'') (fun e' s'' => CX outer H s E e' s'') s'

theorem cell_has {sc : Scope} {n : Nat} {x : Str} (h : sc.names.lookup x = some .cell) : ∃ c, (cellsFrom n sc.names []).lookup x = some c := by
  have q := PySem.W.cellsFrom_some sc.names n [] (.inl h)
  exact Option.isSome_iff_exists.mp q

theorem inv_start {CX : CXT} {P : Program} {w : World} {K : PySem.W.Frag} {mg : Str → Option Value} {base : Heap} {N ps : List Str} {qual : Str} {scope : Scope} {f : Addr} {cd : Value} {A : Around} {outer : List Env} {s s1 : Shared} {H : Hp} {E : XK} {us : List Value} {vs : List V}
    (S : FnScope N ps scope) (hd : A.handled = none) (e0 : Env0 P w K mg base A outer s H) (hl : vs.length = ps.length) (r : Vals vs us)
    (x : InCallC s s.heap.objs.size (bindL (envOfC qual scope s.heap.objs.size f cd).kindOf (ps.zip us) fun _ => none) (cellsFrom (s.heap.objs.size + 1) scope.names []) (bindC (envOfC qual scope s.heap.objs.size f cd).kindOf (ps.zip us) fun _ => none) s1) :
    Inv (cxOf CX P w K mg base N qual scope f cd A outer s H E) [] (start N vs) H s1 := by
  have hpl : ps.length ≤ N.length := by have := congrArg List.length S.pre; rw [List.length_take] at this; omega
  obtain ⟨h1, tk, rfl, hk⟩ := x.done
  have noA : ∀ b : Addr, b ∉ (cxOf CX P w K mg base N qual scope f cd A outer s H E).ex := fun b z => absurd (show b ∈ ([] : List Addr) from z) (by simp)
  refine ⟨⟨e0.mod, S.kind, rfl, rfl, Nat.le_refl _, fun y z c h1 h2 => ?_, fun y hy => ?_, fun y c _ h => ?_, fun _ => hd, Around.frames_deeper e0.frames, .inr ⟨rfl, rfl⟩, fun b z => absurd z (noA b), e0.bs, e0.bsz, fun b _ _ => noA b, fun b z => absurd z (noA b), e0.funs, e0.frf⟩,
    rfl, e0.bare, Un.kept hk, ⟨_, x.toInCall.ns, fun i y v h1 h2 h3 => ?_⟩, fun y c h => ⟨_, x.cell y c h⟩, e0.hok.fresh (Nat.le_refl _), fun y c h => ?_, fun p hp => absurd (show p ∈ ([] : List (Addr × Obj)) from hp) (by simp), e0.hok.kept hk, ?_⟩
  · exact name_of_addr x.apart (PySem.mem_of_lookup h1) (PySem.mem_of_lookup h2)
  · have hy : scope.names.lookup y = some .cell ∨ scope.names.lookup y = some .free := hy
    rcases hy with hy | hy
    · exact cell_has hy
    · exact absurd rfl (S.nofree _ (PySem.mem_of_lookup hy))
  · exact Nat.le_of_lt (x.above y c (PySem.mem_of_lookup h))
  · have hi : i < vs.length := by
      unfold start at h2
      by_cases hi : i < vs.length
      · exact hi
      · rw [List.getElem?_append_right (by simpa using hi)] at h2
        rw [List.getElem?_replicate] at h2
        split at h2 <;> cases h2
    have ha : vs[i]? = some v := by
      unfold start at h2
      rw [List.getElem?_append_left (by simpa using hi), List.getElem?_map] at h2
      cases e : vs[i]? with
      | none => rw [e] at h2; cases h2
      | some a => rw [e] at h2; cases h2; rfl
    obtain ⟨u, hu, rv⟩ := r.get ha
    have hp : ps[i]? = some y := by
      rw [← S.pre, List.getElem?_take_of_lt (by omega)]; exact h1
    have ndP : ps.Nodup := by rw [← S.pre]; exact S.nd.sublist (List.take_sublist _ _)
    refine ⟨u, rv, ?_⟩
    rcases S.par y (List.mem_of_getElem? hp) with k | k
    · exact .inl ⟨k, bindL_get ndP hp hu k⟩
    · obtain ⟨c, e⟩ := cell_has (n := s.heap.objs.size + 1) k
      refine .inr ⟨.inl k, c, e, ?_⟩
      have q := x.cell y c e
      rw [bindC_get ndP hp hu (by show scope.names.lookup y ≠ _; rw [k]; decide)] at q
      exact q
  · exact e0.hok.fresh (Nat.le_of_lt (x.above y c (PySem.mem_of_lookup h)))
  · unfold start
    show _ = N.length
    rw [List.length_append, List.length_map, List.length_replicate]
    omega

/-- THE RULE: a def (or a method) of the text, by its body. The body's reading t is chosen for each entry; it is run at the parameters' values -/
theorem fn_of {CX : CXT} {P : Program} {w : World} {K : PySem.W.Frag} {mg : Str → Option Value} {base : Heap} {k : Nat} {f : Addr} {name qual : Str} {params : Arguments} {body : List Stmt} {scope : Scope} {dV kV doc pm cdv ct oc : Value} {an od : Option Addr}
    {osl : Array (Option Value)} {N ps : List Str} {sp : Sp} (lk : K.lookup f = some ⟨oc, od, .func (PySem.W.fnOf name qual params body scope dV kV doc pm an cdv ct), osl⟩) (hcd : PySem.W.codeIn K cdv qual = true) (S : FnScope N ps scope)
    (len : ∀ vs H Q E, sp vs H Q E → vs.length = ps.length)
    (hbody : ∀ (A : Around) (outer : List Env) (s : Shared) (H : Hp) (vs : List V) (Q : VK) (E : XK), Room k (A.deeper (envOfC qual scope s.heap.objs.size f cdv)) → sp vs H Q E →
      ∃ t, PSs (cxOf CX P w K mg base N qual scope f cdv A outer s H E) body t ∧ t { nx := fun _ H' => Q .non H', rt := Q } (start N vs) H) :
    FnOk P w K mg base CX (k + 1) f (PySem.W.fnOf name qual params body scope dV kV doc pm an cdv ct) ps sp := by
  refine ⟨len, fun A outer s H args us vs Q E hr e0 hb r hsp => ?_⟩
  have hl := len _ _ _ _ hsp
  have KX : K.In s.heap := e0.mod.kin.keeps fun b o e => (e0.bs b o e).1
  have lim : s.heap.NoLimit := e0.mod.nolimit.keeps fun b o e => (e0.bs b o e).1
  have hkind : ∀ y ∈ ps.zip us, scope.names.lookup y.1 = some .local ∨ (scope.names.lookup y.1 = some .cell ∧ ((cellsFrom (s.heap.objs.size + 1) scope.names []).lookup y.1).isSome = true) := fun ⟨n, v⟩ hy => by
    rcases S.par n (List.of_mem_zip hy).1 with q | q
    · exact .inl q
    · exact .inr ⟨q, PySem.W.cellsFrom_some _ _ _ (.inl q)⟩
  refine codeAny_call_function hr.depth (KX _ _ lk) rfl S.co S.gen rfl (PySem.W.codeRec_of KX hcd) (hb _ _ _ _ ?_)
  refine wpAny_newFunctionEnv_cells S.kind hkind fun env he s1 x => ?_
  subst he
  refine ⟨lim.keeps x.toInCall.keep, codeAny_func ?_⟩
  obtain ⟨t, ht, hq⟩ := hbody A outer s H vs Q E (hr.deeper _) hsp
  have I : Inv (cxOf CX P w K mg base N qual scope f cdv A outer s H E) [] (start N vs) H s1 := inv_start S hr.hd e0 hl r x
  refine wpAny_mono (ht [] s1 (start N vs) H _ I hq) (fun fl s' hs => ?_) fun e s' hs => hs
  have fin : ∀ {σ' : St} {H' : Hp} {v : V} {u : Value}, Inv (cxOf CX P w K mg base N qual scope f cdv A outer s H E) [] σ' H' s' → RelV v u → Q v H' → CE outer P w H s Q u s' :=
    fun {σ' H' v u} J rv q => ⟨v, H', J.os, J.bare, J.base, J.hok, rv, q⟩
  cases fl with
  | ret u =>
    obtain ⟨v, σ', H', J, rv, q⟩ := hs
    exact fin J rv q
  | next =>
    obtain ⟨σ', H', J, q⟩ := hs
    exact fin (v := V.non) (u := Value.none) J rfl q
  | brk =>
    obtain ⟨_, _, _, q⟩ := hs
    exact False.elim q
  | cont =>
    obtain ⟨_, _, _, q⟩ := hs
    exact False.elim q
end L2

namespace L2
open PySem PySem.Spec PyProof.Rows
section
variable {X : Cx} {x : Str} {p pos : Pos} {e : Expr} {es : List Expr} {t : TA} {id T : String} {r : List V → Hp → VK → Prop}

def tCB (r : List V → Hp → VK → Prop) (t : TA) : TE := fun σ H Q => t σ H fun vs H1 => r vs H1 Q
/-- f(e, ..), f a built-in function -/
theorem pe_callB (hc : CallR X (.builtin id) r) (hg : Gl X x) (hm : X.mg x = none) (hv : bootBuiltins x = some (.builtin id)) (ha : PA X (e :: es) t) (hn : x ≠ "__name__" := by decide) (hdb : (x == ("__debug__" : Str)) = false := by decide)
    (he : starEach (e :: es) X.env = (false, eval e X.env) :: starEach es X.env := by rfl) (hpl : (backTo pos (starEach es X.env)).any (·.1) = false := by rfl) : PE X (.Call (.Name x p) (e :: es) [] pos) (tCB r t) := by
  intro pins s σ H Q I h
  refine wpAny_Call_Name_kw (ld_blt I hg hm hv ?_ hn hdb)
  exact PyProof.Rows.callWith_builtin1 (thn (ha pos pins s σ H _ I h) fun us s1 ⟨vs, H1, I1, r1, q1⟩ => hc pins s1 σ H1 vs us Q I1 r1 q1) he hpl
/-- T(e, ..), T a built-in type -/
theorem pe_callTy (hc : CallR X (.type T) r) (hg : Gl X x) (hm : X.mg x = none) (hv : bootBuiltins x = some (.type T)) (ha : PA X (e :: es) t) (hn : x ≠ "__name__" := by decide) (hdb : (x == ("__debug__" : Str)) = false := by decide)
    (he : starEach (e :: es) X.env = (false, eval e X.env) :: starEach es X.env := by rfl) (hpl : (backTo pos (starEach es X.env)).any (·.1) = false := by rfl) : PE X (.Call (.Name x p) (e :: es) [] pos) (tCB r t) := by
  intro pins s σ H Q I h
  refine wpAny_Call_Name_kw (ld_blt I hg hm hv ?_ hn hdb)
  exact PyProof.Rows.callWith_type1 (thn (ha pos pins s σ H _ I h) fun us s1 ⟨vs, H1, I1, r1, q1⟩ => hc pins s1 σ H1 vs us Q I1 r1 q1) he hpl
/-- T() -/
theorem pe_callTy0 (hc : CallR X (.type T) r) (hg : Gl X x) (hm : X.mg x = none) (hv : bootBuiltins x = some (.type T)) (hn : x ≠ "__name__" := by decide) (hdb : (x == ("__debug__" : Str)) = false := by decide) :
    PE X (.Call (.Name x p) [] [] pos) (tCB r tNil) := by
  intro pins s σ H Q I h
  refine wpAny_Call_Name_kw (ld_blt I hg hm hv ?_ hn hdb)
  exact PyProof.Rows.callWith_type0 (hc pins s σ H [] [] Q I .nil h)
end
end L2

namespace HT
open PySem PyProof.Rows

/-- t < u of tuples of ints -/
def lexLt : List Int → List Int → Bool
  | [], [] => false
  | [], _ :: _ => true
  | _ :: _, [] => false
  | x :: xs, y :: ys => if x = y then lexLt xs ys else decide (x < y)
theorem lexLt_cons (x y : Int) (xs ys : List Int) : lexLt (x :: xs) (y :: ys) = if x = y then lexLt xs ys else decide (x < y) := rfl
theorem lexLt_nil_nil : lexLt [] [] = false := rfl
theorem lexLt_nil_cons (y : Int) (ys : List Int) : lexLt [] (y :: ys) = true := rfl
theorem lexLt_cons_nil (x : Int) (xs : List Int) : lexLt (x :: xs) [] = false := rfl

theorem eqAt_int (A : Around) (s : Shared) (a : Int) (t : Tok) (c : Int) (u : Tok) : ∃ e, SeqAt.EqAt A s (.int a t) (.int c u) e ∧ (e = true ↔ a = c) :=
  ⟨(a == c), SeqAt.EqAt.int_int a t c u, by simp⟩
theorem rcLt_int (A : Around) (s : Shared) (a : Int) (t : Tok) (c : Int) (u : Tok) (prog : Program) (w : World) (E : Value → Shared → Prop) (Q : Value → Shared → Prop) (h : Q (.bool (decide (a < c))) s) :
    wpAny (model prog w) A (richCompare .Lt (.int a t) (.int c u)) Q E s :=
  (PyProof.Rows.lt_int h : wpAny (model prog w) A (compareOp .Lt (.int a t) (.int c u)) Q E s)

section
open PySem.SeqAt
open PySem.AutoSeq1 (wpAny_loadPart')
open PySem.MeetsSeq PySem.MeetsSeq2 PySem.MeetsSeq3

theorem tuple_lt_ints (l b : Addr) (items items2 : Array Value) (n n2 : Nat) (dd dd2 : Option Addr) (sl sl2 : Array (Option Value)) (ns ms : List Int) (hi : IntsAre items.toList ns) (hj : IntsAre items2.toList ms) :
    Meets (Builtin.«tuple.__lt__» ⟨[.ref l, .ref b], []⟩)
      (fun _ R s => s.heap.get? l = some { cls := .type "tuple", dict := dd, data := .seq items n, slots := sl } ∧ s.heap.get? b = some { cls := .type "tuple", dict := dd2, data := .seq items2 n2, slots := sl2 } ∧
        R (.ok (.ret (.bool (lexLt ns ms)))) s) :=
  .of_wp fun prog w A R s h => by
    obtain ⟨hp, g, d, tk, os⟩ := s; obtain ⟨hl, hb, h⟩ := h
    have f2 := AutoSeq1.sub_tuple_tuple
    have z1 : items.size = ns.length := by rw [← hi.length]; simp
    have z2 : items2.size = ms.length := by rw [← hj.length]; simp
    wp_walk using wpAny_loadPart' hl, wpAny_loadPart' hb, wpAny_forIn_list _ (fun rest b s' => b.1 = none ∧ s' = ⟨hp, g, d, tk, os⟩ ∧ ∃ (vs ws : List Value) (ns' ms' : List Int), rest = vs.zip ws ∧
      IntsAre vs ns' ∧ IntsAre ws ms' ∧ ns'.length + items2.size = ms'.length + items.size ∧ R (.ok (.ret (.bool (lexLt ns' ms')))) ⟨hp, g, d, tk, os⟩) _
    case turn =>
      rintro ⟨y, x⟩ rest b s' ⟨hb', rfl, vs, ws, ns', ms', hz, hvi, hwi, hlen, hR⟩
      cases hvi with
      | nil => rw [List.zip_nil_left] at hz; cases hz
      | cons a t hvi' =>
        cases hwi with
        | nil => rw [List.zip_nil_right] at hz; cases hz
        | cons c u hwi' =>
          rw [List.zip_cons_cons] at hz
          injection hz with hyx hrest
          injection hyx with hy hx
          subst hy hx
          rw [lexLt_cons] at hR
          simp only [List.length_cons] at hlen
          obtain ⟨e, he, hiff⟩ := eqAt_int A.in1 ⟨hp, g, d, tk, os⟩ a t c u
          refine wpAny_bind (he prog w _ _ ?_)
          cases e with
          | true =>
            rw [if_pos (hiff.mp rfl)] at hR
            wp_walk
            exact ⟨rfl, rfl, _, _, _, _, hrest, hvi', hwi', by omega, hR⟩
          | false =>
            rw [if_neg (fun q => absurd (hiff.mpr q) Bool.false_ne_true)] at hR
            have hri := rcLt_int A.in1 ⟨hp, g, d, tk, os⟩ a t c u prog w
            wp_walk using hri
            exact ⟨_, rfl, by simpa using hR⟩
    case fin =>
      rintro ⟨b1, b2⟩ s' ⟨hb', rfl, vs, ws, ns', ms', hz, hvi, hwi, hlen, hR⟩
      simp only at hb'
      subst hb'
      have hv : lexLt ns' ms' = decide (items.size < items2.size) := by
        cases hvi with
        | nil =>
          cases hwi with
          | nil =>
            simp only [List.length_nil] at hlen
            rw [lexLt_nil_nil]
            exact (decide_eq_false (by omega)).symm
          | cons c u hw =>
            simp only [List.length_nil, List.length_cons] at hlen
            rw [lexLt_nil_cons]
            exact (decide_eq_true (by omega)).symm
        | cons a t hv =>
          cases hwi with
          | nil =>
            simp only [List.length_nil, List.length_cons] at hlen
            rw [lexLt_cons_nil]
            exact (decide_eq_false (by omega)).symm
          | cons c u hw =>
            rw [List.zip_cons_cons] at hz
            cases hz
      rw [hv] at hR
      wp_walk
      exact ⟨_, rfl, by simpa [Builtin.Tuple.tupleCompareSizes] using hR⟩
    case h =>
      exact ⟨rfl, rfl, items.toList, items2.toList, ns, ms, rfl, hi, hj, by omega, h⟩
end

section
variable {prog : Program} {w : World} {A : Around} {E : Value → Shared → Prop} {s : Shared}

theorem lt_tupInts {l b : Addr} {items items2 : Array Value} {ns ms : List Int} {Q : Value → Shared → Prop} (hl : IsTup s.heap l items) (hb : IsTup s.heap b items2) (hi : IntsAre items.toList ns) (hj : IntsAre items2.toList ms)
    (hu : A.units < cLine) (h : Q (.bool (lexLt ns ms)) s) : wpAny (model prog w) A (compareOp .Lt (.ref l) (.ref b)) Q E s := by
  obtain ⟨⟨cls, dd, data, sl⟩, ho, hc, n, hd⟩ := id hl
  obtain ⟨⟨cls2, dd2, data2, sl2⟩, ho2, hc2, n2, hd2⟩ := id hb
  simp only at hc hd hc2 hd2
  subst hc hd hc2 hd2
  exact richCompare_meets_room (op := .Lt) ⟨_, ho, rfl⟩ ⟨_, ho2, rfl⟩ PySem.F.slot_tuple_lt PySem.F.entry_tuple_lt (PySem.F.args_tuple_lt_2 _ _) (tuple_lt_ints l b items items2 n n2 dd dd2 sl sl2 ns ms hi hj)
    ⟨ho, ho2, show Value.bool (lexLt ns ms) ≠ Value.notImplemented ∧ Q (.bool (lexLt ns ms)) s from ⟨(fun x => nomatch x), h⟩⟩ hu

/-- t + u, t not empty -/
theorem cat_tup {t b : Addr} {vs ws : List Value} {Q : Value → Shared → Prop} (ht : IsTup s.heap t vs.toArray) (hb : IsTup s.heap b ws.toArray) (hv : vs ≠ [])
    (h1 : ws = [] → Q (.ref t) s) (h2 : ws ≠ [] → Q (.ref s.heap.objs.size) { s with heap := s.heap.push { cls := .type "tuple", data := .seq (vs ++ ws).toArray } })
    (hsz : vs.length + ws.length ≤ sizeLine) : wpAny (model prog w) A (binaryOp .Add (.ref t) (.ref b)) Q E s := by
  obtain ⟨⟨cls, dd, data, sl⟩, ho, hc, n, hd⟩ := id ht
  obtain ⟨⟨cls2, dd2, data2, sl2⟩, ho2, hc2, n2, hd2⟩ := id hb
  simp only at hc hd hc2 hd2
  subst hc hd hc2 hd2
  have e : vs.toArray ++ ws.toArray = (vs ++ ws).toArray := by simp
  by_cases hw : ws = []
  · exact concat_meets ⟨_, ho, rfl⟩ ⟨_, ho2, rfl⟩ noFill_tuple_add seq_tuple_add PySem.F.slot_tuple_add PySem.F.entry_tuple_add (PySem.F.args_tuple_add_2 _ _)
      (tuple_addW1 t b vs.toArray ws.toArray n n2 dd dd2 sl sl2 (by simpa using hv) (by simp [hw])) ⟨ho, ho2, h1 hw⟩
  · refine concat_meets ⟨_, ho, rfl⟩ ⟨_, ho2, rfl⟩ noFill_tuple_add seq_tuple_add PySem.F.slot_tuple_add PySem.F.entry_tuple_add (PySem.F.args_tuple_add_2 _ _)
      (tuple_addW2 t b vs.toArray ws.toArray n n2 dd dd2 sl sl2 (by simpa using hv) (by simpa using hw) (by rw [List.size_toArray, List.size_toArray]; exact hsz)) ⟨ho, ho2, ?_⟩
    rw [e]
    exact h2 hw

/-! ### t[a:b], not the whole -/
/-- a slice's bound as a place among n (d where it is left out) -/
def sIx (n d : Nat) : Option Int → Nat
  | none => d
  | some v => if v < 0 then (v + (n : Int)).toNat else min v.toNat n
theorem sIx_none (n d : Nat) : sIx n d none = d := rfl
theorem sIx_nat (n d k : Nat) : sIx n d (some (k : Int)) = min k n := by
  show (if (k : Int) < 0 then ((k : Int) + (n : Int)).toNat else min (k : Int).toNat n) = min k n
  rw [if_neg (by omega), Int.toNat_natCast]
theorem sIx_le (n d : Nat) (hd : d ≤ n) (o : Option Int) : sIx n d o ≤ n := by
  cases o with
  | none => exact hd
  | some v =>
    show (if v < 0 then (v + (n : Int)).toNat else min v.toNat n) ≤ n
    by_cases hv : v < 0
    · rw [if_pos hv]; omega
    · rw [if_neg hv]; exact Nat.min_le_right _ _
theorem clip_eq (v : Int) (n d : Nat) : (if v < 0 then max (v + (n : Int)) 0 else min v (n : Int)) = ((sIx n d (some v) : Nat) : Int) := by
  show (if v < 0 then max (v + (n : Int)) 0 else min v (n : Int)) = (((if v < 0 then (v + (n : Int)).toNat else min v.toNat n) : Nat) : Int)
  by_cases hv : v < 0
  · simp only [if_pos hv]; omega
  · simp only [if_neg hv]; omega
theorem adjust_gen (lo hi : Option Int) (n : Nat) : Builtin.Slice.sliceAdjust lo hi 1 (n : Int) = (((sIx n 0 lo : Nat) : Int), ((sIx n n hi : Nat) : Int)) := by
  have h1 : ¬ ((1 : Int) < 0) := by omega
  unfold Builtin.Slice.sliceAdjust
  simp only [h1, if_false]
  refine Prod.ext ?_ ?_
  · cases lo with
    | none => rfl
    | some v => exact clip_eq v n 0
  · cases hi with
    | none => rfl
    | some v => exact clip_eq v n n
theorem places_gen (i j : Nat) : Builtin.Slice.slicePlaces (i : Int) (j : Int) 1 = j - i := by
  unfold Builtin.Slice.slicePlaces
  have h1 : (1 : Int) > 0 := by omega
  simp only [h1, if_true, Int.ediv_one]
  split <;> omega
theorem slicePart_ {v : Value} {o : Option Int} {Q : Option Int → Shared → Prop} (p : IsPart v o) (h : Q o s) : wpAny (model prog w) A (Builtin.Slice.slicePartIndex v) Q E s := by
  cases p with
  | none => exact slicePart_none h
  | int i t => exact slicePart_int h
theorem sliceApplied_gen {sl : Addr} {vl vu : Value} {lo hi : Option Int} {n : Nat} {Q : Int × Int × Nat → Shared → Prop} (hs : s.heap.IsSliceOf sl vl vu .none) (pl : IsPart vl lo) (pu : IsPart vu hi)
    (h : Q (((sIx n 0 lo : Nat) : Int), 1, sIx n n hi - sIx n 0 lo) s) : wpAny (model prog w) A (Builtin.Slice.sliceApplied (.ref sl) (pure (n : Int))) Q E s := by
  obtain ⟨os, hos, hcs, hds⟩ := id hs
  unfold Builtin.Slice.sliceApplied Builtin.Slice.sliceFields
  refine wpAny_bind (wpAny_bind (wpAny_field hos hds (x := vl) rfl (wpAny_bind (wpAny_field hos hds (x := vu) rfl (wpAny_bind (wpAny_field hos hds (x := .none) rfl (wpAny_pure ?_)))))))
  refine wpAny_bind (slicePart_none ?_)
  show wpAny _ _ (if ((1 : Int) == 0) = true then _ else _) _ _ s
  rw [if_neg (by decide)]
  refine wpAny_bind (slicePart_ pl (wpAny_bind (slicePart_ pu (wpAny_bind (wpAny_pure ?_)))))
  show wpAny _ _ (match Builtin.Slice.sliceAdjust lo hi 1 (n : Int) with | (lo, hi) => pure (lo, (1 : Int), Builtin.Slice.slicePlaces lo hi 1)) _ _ s
  rw [adjust_gen lo hi n]
  show wpAny _ _ (pure (((sIx n 0 lo : Nat) : Int), (1 : Int), Builtin.Slice.slicePlaces ((sIx n 0 lo : Nat) : Int) ((sIx n n hi : Nat) : Int) 1)) _ _ s
  rw [places_gen]
  exact wpAny_pure h
theorem pick_gen (xs : Array Value) (i k : Nat) : ((List.range k).filterMap fun (m : Nat) => xs[((i : Int) + (m : Int) * 1).toNat]?).toArray = ((xs.toList.drop i).take k).toArray := by
  have e : (fun (m : Nat) => xs[((i : Int) + (m : Int) * 1).toNat]?) = fun m => xs[i + m]? := by
    funext m
    have : ((i : Int) + (m : Int) * 1).toNat = i + m := by omega
    rw [this]
  rw [e]
  have := pick_run xs i k
  rw [List.filterMap_map] at this
  have e2 : ((fun x => xs[x]?) ∘ fun x => i + x) = fun m => xs[i + m]? := rfl
  rw [e2] at this
  rw [this]

theorem getItem_tuple_cut {t sl : Addr} {items : Array Value} {vl vu : Value} {lo hi : Option Int} {Q : Value → Shared → Prop} (ht : IsTup s.heap t items) (hs : s.heap.IsSliceOf sl vl vu .none) (pl : IsPart vl lo) (pu : IsPart vu hi)
    (hw : ¬ (sIx items.size 0 lo = 0 ∧ sIx items.size items.size hi = items.size))
    (h : Q (.ref s.heap.objs.size) { s with heap := s.heap.push { cls := .type "tuple", data := .seq ((items.toList.drop (sIx items.size 0 lo)).take (sIx items.size items.size hi - sIx items.size 0 lo)).toArray } })
    (hsz : items.size ≤ sizeLine) : wpAny (model prog w) A (getItem (.ref t) (.ref sl)) Q E s := by
  have htake : sizeOk (.seq ((items.toList.drop (sIx items.size 0 lo)).take (sIx items.size items.size hi - sIx items.size 0 lo)).toArray) := by
    show ((items.toList.drop (sIx items.size 0 lo)).take (sIx items.size items.size hi - sIx items.size 0 lo)).toArray.size ≤ sizeLine
    rw [List.size_toArray, List.length_take, List.length_drop, Array.length_toList]
    omega
  have hj : sIx items.size items.size hi ≤ items.size := sIx_le _ _ (Nat.le_refl _) hi
  obtain ⟨os, hos, hcs, hds⟩ := id hs
  have hTs : s.TypeIs (.ref sl) "slice" := ⟨os, hos, hcs⟩
  unfold getItem
  try with_reducible refine wpAny_holding ?_
  first | refine wpAny_bind (wpAny_pure ?_) | skip
  refine wpAny_bind (wpAny_sequenceKey ht.typeIs (by decide) ?_)
  refine wpAny_bind (wpAny_callSpecial?_slot (name := Str.ofString "__getitem__") ht.typeIs PyProof.Rows.slot_tuple_getitem
    (wpAny_call_entry PyProof.Rows.slot_tuple_getitem ht.typeIs entry_tuple_getitem ?_ (args_tuple_getitem _ _)))
  show wpAny _ _ (Builtin.Tuple.tupleItemsOf (.ref t) >>= _) _ _ s
  refine wpAny_bind (tupleItemsOf_ ht ?_)
  refine wpAny_bind (wpAny_typeOf hTs ?_)
  rw [if_pos (by decide)]
  refine wpAny_bind (sliceApplied_gen hs pl pu ?_)
  have hno : ¬ ((((sIx items.size 0 lo : Nat) : Int) == 0 && (1 : Int) == 1 && (sIx items.size items.size hi - sIx items.size 0 lo) == items.size) = true) := by
    intro q
    rw [Bool.and_eq_true, Bool.and_eq_true] at q
    have q1 : ((sIx items.size 0 lo : Nat) : Int) = 0 := eq_of_beq q.1.1
    have q2 : sIx items.size items.size hi - sIx items.size 0 lo = items.size := eq_of_beq q.2
    exact hw ⟨by omega, by omega⟩
  show wpAny _ _ (if (((sIx items.size 0 lo : Nat) : Int) == 0 && (1 : Int) == 1 && (sIx items.size items.size hi - sIx items.size 0 lo) == items.size) = true then _ else _) _ _ s
  rw [if_neg hno, pick_gen]
  first
    | exact wpAny_bind (m := Builtin.Tuple.tupleExact _) (wpAny_newObj_type (wpAny_pure ⟨_, rfl, wpAny_pure h⟩) htake)
    | exact wpAny_bind (m := Builtin.Tuple.tupleExact _) (wpAny_newObj_type (wpAny_bind (wpAny_pure (wpAny_pure ⟨_, rfl, wpAny_pure h⟩))) htake)
    | exact wpAny_bind (wpAny_bind (m := Builtin.Tuple.tupleExact _) (wpAny_newObj_type (wpAny_pure (wpAny_pure ⟨_, rfl, wpAny_pure h⟩)) htake))
    | exact wpAny_bind (wpAny_bind (m := Builtin.Tuple.tupleExact _) (wpAny_newObj_type (wpAny_pure ⟨_, rfl, wpAny_pure h⟩) htake))
end
end HT

namespace L2
open PySem PySem.Spec PyProof.Rows

/-! ### the parts of a slice -/
abbrev TO := St → Hp → (Option Int → Hp → Prop) → Prop
/-- a slice's part (left out, or an int) -/
def PO (X : Cx) (e : Option Expr) (t : TO) : Prop :=
  ∀ (pins : List (Addr × Obj)) (s : Shared) (σ : St) (H : Hp) (Q : Option Int → Hp → Prop), Inv X pins σ H s → t σ H Q →
    wpAny (model X.prog X.w) X.A (evalPart e X.env) (fun u s' => ∃ o H', Inv X pins σ H' s' ∧ IsPart u o ∧ Q o H') X.xe s
def tNoPart : TO := fun _ H Q => Q none H
def tPart (t : TE) : TO := fun σ H Q => t σ H fun x H1 => ∃ i, x = .int i ∧ Q (some i) H1

theorem intsAre_of {ns : List Int} : ∀ {us : List Value}, Vals (ns.map V.int) us → IntsAre us ns := by
  induction ns with
  | nil => intro us r; rw [List.map_nil] at r; cases r; exact .nil
  | cons n ns ih =>
    intro us r
    rw [List.map_cons] at r
    cases r with
    | cons r1 r2 =>
      obtain ⟨t, e⟩ := r1
      subst e
      exact .cons n t (ih r2)

section
variable {X : Cx} {e : Expr} {te : TE} {lo hi : Option Expr} {tl th : TO} {pos p2 : Pos}

theorem po_none : PO X none tNoPart := by
  intro pins s σ H Q I h
  rw [evalPart_none]
  exact wpAny_pure ⟨none, H, I, .none, h⟩
theorem po_some (h : PE X e te) : PO X (some e) (tPart te) := by
  intro pins s σ H Q I hw
  rw [evalPart_some]
  refine thn (h pins s σ H _ I hw) fun u s1 ⟨x, H1, I1, r1, q1⟩ => ?_
  obtain ⟨i, rfl, q⟩ := q1
  obtain ⟨t, rfl⟩ := r1
  exact ⟨some i, H1, I1, .int i t, q⟩

/-- what a slice of a value is, by values: the slice object stands at sl -/
def SlR (X : Cx) (r : V → Option Int → Option Int → Hp → VK → Prop) : Prop :=
  ∀ (pins : List (Addr × Obj)) (s : Shared) (σ : St) (H : Hp) (x : V) (v vl vu : Value) (lo hi : Option Int) (sl : Addr) (Q : VK), Inv X pins σ H s → RelV x v → s.heap.IsSliceOf sl vl vu .none → IsPart vl lo → IsPart vu hi → r x lo hi H Q →
    ∃ T id, typeLookup (.type T) "__getitem__" = pure (some (.builtin id)) ∧ s.TypeIs v T ∧ wpAny (model X.prog X.w) X.A (getItem v (.ref sl)) (EP X pins σ Q) X.xe s
theorem SlR.or {r r' : V → Option Int → Option Int → Hp → VK → Prop} (h : SlR X r) (h' : SlR X r') : SlR X (fun x lo hi H Q => r x lo hi H Q ∨ r' x lo hi H Q) := by
  intro pins s σ H x v vl vu lo hi sl Q I rx hs pl pu q
  rcases q with q | q
  · exact h pins s σ H x v vl vu lo hi sl Q I rx hs pl pu q
  · exact h' pins s σ H x v vl vu lo hi sl Q I rx hs pl pu q
def tSl (r : V → Option Int → Option Int → Hp → VK → Prop) (te : TE) (tl th : TO) : TE := fun σ H Q => te σ H fun x H1 => tl σ H1 fun l H2 => th σ H2 fun u H3 => r x l u H3 Q
/-- a[lo:hi], any a -/
theorem pe_slice {r : V → Option Int → Option Int → Hp → VK → Prop} (hr : SlR X r) (he : PE X e te) (hl : PO X lo tl) (hu : PO X hi th) : PE X (.Subscript e (.Slice lo hi none p2) pos) (tSl r te tl th) := by
  intro pins s σ H Q I h
  refine Subscript_ (thn (he pins s σ H _ I h) fun v s1 ⟨x, H1, I1, r1, q1⟩ => ?_)
  refine wpAny_Slice (thn (hl pins s1 σ H1 _ I1 q1) fun vl s2 ⟨l, H2, I2, pl, q2⟩ => thn (hu pins s2 σ H2 _ I2 q2) fun vu s3 ⟨u, H3, I3, pu, q3⟩ => ?_)
  rw [evalPart_none]
  refine wpAny_pure ?_
  have I4 : Inv X pins σ H3 { s3 with heap := s3.heap.push { cls := .type "slice", data := .fields #[vl, vu, .none] } } := I3.kept (t' := s3.toks) fun b ob q => Heap.get?_push_of_some _ q
  obtain ⟨T, id, hT, ht, hg⟩ := hr pins { s3 with heap := s3.heap.push { cls := .type "slice", data := .fields #[vl, vu, .none] } } σ H3 x v vl vu l u s3.heap.objs.size Q I4 r1 (Heap.IsSliceOf.new ..) pl pu q3
  show wpAny (model X.prog X.w) X.A (subscriptTail e (.Slice lo hi none p2) v (.ref s3.heap.objs.size)) (EP X pins σ Q) X.xe { s3 with heap := s3.heap.push { cls := .type "slice", data := .fields #[vl, vu, .none] } }
  exact tail_any (ops := [.ref s3.heap.objs.size, v]) ht hT hg (by with_unfolding_all rfl)

/-- the items of xs[lo:hi] -/
def cutV (xs : List V) (lo hi : Option Int) : List V := (xs.drop (HT.sIx xs.length 0 lo)).take (HT.sIx xs.length xs.length hi - HT.sIx xs.length 0 lo)
theorem cutV_length (xs : List V) (lo hi : Option Int) : (cutV xs lo hi).length ≤ xs.length := by
  unfold cutV
  rw [List.length_take, List.length_drop]
  omega
/-- t[lo:hi], not the whole of it (the whole would be t itself) -/
def rSlT (K : PySem.W.Frag) : V → Option Int → Option Int → Hp → VK → Prop := fun x lo hi H Q => ∃ a xs, x = .ref a ∧ SqT K H a xs ∧
  ¬ (HT.sIx xs.length 0 lo = 0 ∧ HT.sIx xs.length xs.length hi = xs.length) ∧ ∀ p, H p = none → Q (.ref p) (upd H p (.tup (cutV xs lo hi)))
theorem sl_tup : SlR X (rSlT X.K) := by
  intro pins s σ H x v vl vu lo hi sl Q I rx hs pl pu h
  obtain ⟨a, xs, rfl, hx, hw, q⟩ := h
  cases rx
  obtain ⟨its, r, ht, hz⟩ := I.tuple hx
  have hlen : its.toArray.size = xs.length := by rw [List.size_toArray]; exact r.length.symm
  refine ⟨"tuple", _, PyProof.Rows.slot_tuple_getitem.lookup, ht.typeIs, ?_⟩
  refine HT.getItem_tuple_cut ht hs pl pu (by rw [hlen]; exact hw) ?_ (by rw [hlen]; exact hz)
  rw [hlen]
  refine ⟨.ref s.heap.objs.size, _, I.laid (t' := s.toks) (o := .tup (cutV xs lo hi)) (fun b ob q => Heap.get?_push_of_some _ q) (Nat.le_refl _) ?_, rfl, q _ (I.hok.fresh (Nat.le_refl _))⟩
  exact ⟨Nat.le_trans (cutV_length xs lo hi) hz, _, (r.drop (HT.sIx xs.length 0 lo)).take (HT.sIx xs.length xs.length hi - HT.sIx xs.length 0 lo), IsTup.new _ _⟩

/-! ### t < u, t + u -/
def rLtT (K : PySem.W.Frag) : R2 := fun x y H Q => ∃ a b ns ms, x = .ref a ∧ y = .ref b ∧ SqT K H a (ns.map V.int) ∧ SqT K H b (ms.map V.int) ∧ Q (.bl (HT.lexLt ns ms)) H
theorem op_ltT (hu : X.A.units < cLine) : OpR X (compareOp .Lt) (rLtT X.K) := by
  intro pins s σ H x y v u Q I rx ry h
  obtain ⟨a, b, ns, ms, rfl, rfl, ha, hb, q⟩ := h
  cases rx
  cases ry
  obtain ⟨its, r1, p1, _⟩ := I.tuple ha
  obtain ⟨its2, r2, p2, _⟩ := I.tuple hb
  have i1 : IntsAre its.toArray.toList ns := intsAre_of r1
  have i2 : IntsAre its2.toArray.toList ms := intsAre_of r2
  exact HT.lt_tupInts p1 p2 i1 i2 hu ⟨.bl (HT.lexLt ns ms), H, I, rfl, q⟩
/-- t + u, t not empty: u empty gives t itself -/
def rCatT (K : PySem.W.Frag) : R2 := fun x y H Q => ∃ a b xs ys, x = .ref a ∧ y = .ref b ∧ SqT K H a xs ∧ SqT K H b ys ∧ xs ≠ [] ∧ xs.length + ys.length ≤ sizeLine ∧
  (ys = [] → Q (.ref a) H) ∧ (ys ≠ [] → ∀ p, H p = none → Q (.ref p) (upd H p (.tup (xs ++ ys))))
theorem Vals.nil_iff {xs : List V} {us : List Value} (r : Vals xs us) : us = [] ↔ xs = [] := by
  cases r with
  | nil => simp
  | cons _ _ => simp
theorem op_catT : OpR X (binaryOp .Add) (rCatT X.K) := by
  intro pins s σ H x y v u Q I rx ry h
  obtain ⟨a, b, xs, ys, rfl, rfl, ha, hb, hx, hz, q1, q2⟩ := h
  cases rx
  cases ry
  obtain ⟨its, r1, p1, _⟩ := I.tuple ha
  obtain ⟨its2, r2, p2, _⟩ := I.tuple hb
  refine HT.cat_tup p1 p2 (fun z => hx (r1.nil_iff.mp z)) (fun z => ⟨.ref a, H, I, rfl, q1 (r2.nil_iff.mp z)⟩) (fun z => ?_) (by rw [← r1.length, ← r2.length]; exact hz)
  refine ⟨.ref s.heap.objs.size, _, I.laid (t' := s.toks) (o := .tup (xs ++ ys)) (fun b ob q => Heap.get?_push_of_some _ q) (Nat.le_refl _) ?_, rfl, q2 (fun w => z (r2.nil_iff.mpr w)) _ (I.hok.fresh (Nat.le_refl _))⟩
  exact ⟨by rw [List.length_append]; exact hz, _, r1.append r2, IsTup.new _ _⟩
/-- tuple(t) -/
theorem call_tupleT : CallR X (.type "tuple") (fun xs H Q => ∃ a ys, xs = [.ref a] ∧ SqT X.K H a ys ∧ Q (.ref a) H) := by
  intro pins s σ H xs us Q I r h
  obtain ⟨a, ys, rfl, ha, q⟩ := h
  obtain ⟨u, rfl, ru⟩ := vals1 r
  cases ru
  obtain ⟨its, _, p1, _⟩ := I.tuple ha
  exact call_tuple_same (items := its.toArray) p1 ⟨.ref a, H, I, rfl, q⟩
end
end L2

namespace L2
open PySem PySem.Spec PyProof.Rows

/-! ### places -/
/-- the place that an index of any sign means -/
def ixN (n : Nat) (i : Int) : Option Nat := if 0 ≤ i then (if i < n then some i.toNat else none) else if -(n : Int) ≤ i then some (i + n).toNat else none
def atI {α : Type} (xs : List α) (i : Int) : Option α := (ixN xs.length i).bind fun j => xs[j]?
theorem ixN_seq {n : Nat} {i : Int} {j : Nat} (h : ixN n i = some j) : seqIndex? i n = some j ∧ j < n ∧ -(n : Int) ≤ i ∧ i < n := by
  unfold ixN at h
  by_cases h0 : 0 ≤ i
  · rw [if_pos h0] at h
    by_cases h1 : i < n
    · rw [if_pos h1] at h
      have e : i.toNat = j := Option.some.inj h
      exact ⟨by rw [seqIndex_of h0 h1, e], by omega, by omega, h1⟩
    · rw [if_neg h1] at h; cases h
  · rw [if_neg h0] at h
    by_cases h1 : -(n : Int) ≤ i
    · rw [if_pos h1] at h
      have e : (i + n).toNat = j := Option.some.inj h
      exact ⟨by rw [seqIndex_neg (by omega) h1, e], by omega, h1, by omega⟩
    · rw [if_neg h1] at h; cases h
theorem atI_get {α : Type} {xs : List α} {i : Int} {v : α} (h : atI xs i = some v) : ∃ j, seqIndex? i xs.length = some j ∧ xs[j]? = some v ∧ j < xs.length ∧ -(xs.length : Int) ≤ i ∧ i < xs.length := by
  unfold atI at h
  cases e : ixN xs.length i with
  | none => rw [e] at h; cases h
  | some j =>
    rw [e] at h
    obtain ⟨h1, h2, h3, h4⟩ := ixN_seq e
    exact ⟨j, h1, h, h2, h3, h4⟩
theorem atI_nat {α : Type} {xs : List α} {j : Nat} {v : α} (h : xs[j]? = some v) : atI xs (j : Int) = some v := by
  have hj : j < xs.length := (List.getElem?_eq_some_iff.mp h).1
  have e : ixN xs.length (j : Int) = some j := by
    unfold ixN
    rw [if_pos (by omega), if_pos (by omega)]; simp
  unfold atI; rw [e]; exact h
theorem atI_last {α : Type} (xs : List α) (v : α) : atI (xs ++ [v]) (-1) = some v := by
  have hl : (xs ++ [v]).length = xs.length + 1 := by simp
  have e : ixN (xs ++ [v]).length (-1) = some xs.length := by
    unfold ixN
    rw [hl, if_neg (by decide), if_pos (by omega)]
    congr 1
    omega
  unfold atI
  rw [e]
  show (xs ++ [v])[xs.length]? = some v
  simp

/-! ### what may be subscripted -/
/-- what stands as an index of a plain subscript -/
def PlainIx (b : Expr) : Prop := ∀ o i, subscripted b false o i = operate [o, i] (getItem o i)
/-- a subscript by values -/
def IxR (X : Cx) (r : R2) : Prop :=
  ∀ (value slice : Expr) (pins : List (Addr × Obj)) (s : Shared) (σ : St) (H : Hp) (x y : V) (v u : Value) (Q : VK), Inv X pins σ H s → RelV x v → RelV y u → r x y H Q →
    subscripted slice false v u = operate [v, u] (getItem v u) → wpAny (model X.prog X.w) X.A (subscriptTail value slice v u) (EP X pins σ Q) X.xe s
/-- a call of a builtin's method by values: the receiver, the arguments -/
def MtR (X : Cx) (id : String) (r : V → List V → Hp → VK → Prop) : Prop :=
  ∀ (pins : List (Addr × Obj)) (s : Shared) (σ : St) (H : Hp) (x : V) (xs : List V) (v : Value) (us : List Value) (Q : VK), Inv X pins σ H s → RelV x v → Vals xs us → r x xs H Q →
    wpAny (model X.prog X.w) X.A (call (.builtin id) (v :: us)) (EP X pins σ Q) X.xe s
section
variable {X : Cx} {a b : Expr} {ta tb : TE} {pos : Pos}
theorem IxR.or {r r' : R2} (h : IxR X r) (h' : IxR X r') : IxR X (fun x y H Q => r x y H Q ∨ r' x y H Q) := by
  intro value slice pins s σ H x y v u Q I rx ry q hs
  rcases q with q | q
  · exact h value slice pins s σ H x y v u Q I rx ry q hs
  · exact h' value slice pins s σ H x y v u Q I rx ry q hs
theorem MtR.or {id : String} {r r' : V → List V → Hp → VK → Prop} (h : MtR X id r) (h' : MtR X id r') : MtR X id (fun x xs H Q => r x xs H Q ∨ r' x xs H Q) := by
  intro pins s σ H x xs v us Q I rx rs q
  rcases q with q | q
  · exact h pins s σ H x xs v us Q I rx rs q
  · exact h' pins s σ H x xs v us Q I rx rs q
/-- a[b] -/
theorem pe_ix {r : R2} (hr : IxR X r) (ha : PE X a ta) (hb : PE X b tb) (hs : PlainIx b) : PE X (.Subscript a b pos) (tOp r ta tb) := by
  intro pins s σ H Q I h
  exact Subscript_ (binT ha hb I h fun v u s2 x y H2 I2 rx ry q => hr a b pins s2 σ H2 x y v u Q I2 rx ry q (hs _ _))

def rIxL (K : PySem.W.Frag) : R2 := fun x y H Q => ∃ p xs i v, x = .ref p ∧ y = .int i ∧ SqL K H p xs ∧ atI xs i = some v ∧ Q v H
def rIxT (K : PySem.W.Frag) : R2 := fun x y H Q => ∃ p xs i v, x = .ref p ∧ y = .int i ∧ SqT K H p xs ∧ atI xs i = some v ∧ Q v H
def rIxS : R2 := fun x y H Q => ∃ z i c, x = .str z ∧ y = .int i ∧ z.length ≤ sizeLine ∧ atI z.cps.toList i = some c ∧ Q (.str ⟨#[c]⟩) H
theorem ix_list : IxR X (rIxL X.K) := by
  intro value slice pins s σ H x y v u Q I rx ry h hs
  obtain ⟨p, xs, i, z, rfl, rfl, hq, he, q⟩ := h
  cases rx
  obtain ⟨t, rfl⟩ := ry
  obtain ⟨its, r, pl, hz⟩ := I.list hq
  obtain ⟨j, h1, h2, h3, h4, h5⟩ := atI_get he
  obtain ⟨w, ew, rw'⟩ := r.get h2
  have hl := r.length
  have hn := line63
  have fin : EP X pins σ Q w s := ⟨z, H, I, rw', q⟩
  by_cases h0 : 0 ≤ i
  · have hj : i.toNat = j := by
      rw [seqIndex_of h0 h5] at h1
      exact Option.some.inj h1
    exact item_listR pl.isList h0 (by omega) (by rw [hj]; simpa using ew) fin hs
  · have hj : (i + (its.toArray.size : Int)).toNat = j := by
      rw [seqIndex_neg (by omega) h4] at h1
      rw [List.size_toArray, ← hl]
      exact Option.some.inj h1
    exact subscriptTail_builtinR (x := w) pl.isList.typeIs slot_list_getitem.lookup
      (wpAny_getItem_list_neg (Q := fun r s' => r = w ∧ EP X pins σ Q r s') pl.isList (by omega) (by rw [List.size_toArray] <;> omega) (by omega) (by rw [hj]; simpa using ew) ⟨rfl, fin⟩) hs
theorem ix_tup : IxR X (rIxT X.K) := by
  intro value slice pins s σ H x y v u Q I rx ry h hs
  obtain ⟨p, xs, i, z, rfl, rfl, hq, he, q⟩ := h
  cases rx
  obtain ⟨t, rfl⟩ := ry
  obtain ⟨its, r, pl, hz⟩ := I.tuple hq
  obtain ⟨j, h1, h2, h3, h4, h5⟩ := atI_get he
  obtain ⟨w, ew, rw'⟩ := r.get h2
  have hl := r.length
  have hn := line63
  have fin : EP X pins σ Q w s := ⟨z, H, I, rw', q⟩
  exact subscriptTail_builtinR (x := w) pl.typeIs slot_tuple_getitem.lookup
    (getItem_tuple (j := j) (Q := fun r s' => r = w ∧ EP X pins σ Q r s') pl (by omega) (by omega) (by rw [List.size_toArray, ← hl]; exact h1) (by simpa using ew) ⟨rfl, fin⟩) hs
theorem ix_str : IxR X rIxS := by
  intro value slice pins s σ H x y v u Q I rx ry h hs
  obtain ⟨z, i, c, rfl, rfl, hz, he, q⟩ := h
  obtain ⟨t, rfl⟩ := rx
  obtain ⟨t', rfl⟩ := ry
  obtain ⟨j, h1, h2, h3, h4, h5⟩ := atI_get he
  have hl : z.cps.toList.length = z.length := by simp [Str.length]
  rw [hl] at h1 h4 h5
  have hn := line63
  exact tail_any (typeIs_str s z t) slot_str_getitem.lookup (getItem_str (c := c) (by
    have e1 : decide (i < -(2 ^ 63 : Int)) = false := decide_eq_false (by omega)
    have e2 : decide (i ≥ 2 ^ 63) = false := decide_eq_false (by omega)
    rw [e1, e2, Bool.or_false]) (by rw [h1]; simpa using h2) ⟨.str ⟨#[c]⟩, H, I.tok _, ⟨_, rfl⟩, q⟩) hs
/-- list, tuple or str -/
def rIx (K : PySem.W.Frag) : R2 := fun x y H Q => rIxL K x y H Q ∨ rIxT K x y H Q ∨ rIxS x y H Q
theorem ix_seq : IxR X (rIx X.K) := ix_list.or (ix_tup.or ix_str)

/-! ### xs[i] = v, any sign -/
/-- the list's object behind a store -/
theorem mapSeq_set (its : List Value) (n j : Nat) (u : Value) : Obj.mapSeq (·.setIfInBounds j u) { cls := .type "list", data := .seq its.toArray n } = { cls := .type "list", data := .seq (its.set j u).toArray n } := by
  simp [Obj.mapSeq]
theorem Inv.lst {pins : List (Addr × Obj)} {σ : St} {H : Hp} {s : Shared} {p : Addr} {xs : List V} (I : Inv X pins σ H s) (h : H p = some (.lst xs)) :
    ∃ (its : List Value) (n : Nat), Vals xs its ∧ s.heap.get? p = some { cls := .type "list", data := .seq its.toArray n } ∧ xs.length ≤ sizeLine := by
  obtain ⟨z, its, n, r, e⟩ := I.hok p _ h
  exact ⟨its, n, r, e, z⟩
/-- the list at p is written by an update of its object -/
theorem Inv.lstUpd {pins : List (Addr × Obj)} {σ : St} {H : Hp} {s : Shared} {p : Addr} {xs ys : List V} {its its' : List Value} {n n' : Nat} {f : Obj → Obj} (I : Inv X pins σ H s) (h : H p = some (.lst xs))
    (ho : s.heap.get? p = some { cls := .type "list", data := .seq its.toArray n }) (hf : f { cls := .type "list", data := .seq its.toArray n } = { cls := .type "list", data := .seq its'.toArray n' }) (r : Vals ys its') (hz : ys.length ≤ sizeLine) (t : Nat) :
    Inv X pins σ (upd H p (.lst ys)) { s with heap := s.heap.update p f, toks := t } := by
  have e : (s.heap.update p f).get? p = some { cls := .type "list", data := .seq its'.toArray n' } := by
    rw [Heap.get?_update_self f ho (by rw [hf] <;> rfl), hf]
  refine I.write (x := p) (e := p) (by rw [h]; trivial) (.inl rfl) (fun b u hb q => (Heap.get?_update_other _ _ (Ne.symm hb)).trans q) ⟨_, e⟩ ?_
  exact ⟨hz, its', n', r, e⟩
def rSetL : V → V → V → Hp → (Hp → Prop) → Prop := fun o i v H Q => ∃ p xs k j, o = .ref p ∧ i = .int k ∧ H p = some (.lst xs) ∧ ixN xs.length k = some j ∧ Q (upd H p (.lst (xs.set j v)))
theorem set_list : PSet X rSetL := by
  intro pins s σ H o i v ov iv u Q I ro ri rv h
  obtain ⟨p, xs, k, j, rfl, rfl, hp, hj, q⟩ := h
  cases ro
  obtain ⟨t, rfl⟩ := ri
  obtain ⟨its, n, r, ho, hz⟩ := I.lst hp
  obtain ⟨h1, h2, h3, h4⟩ := ixN_seq hj
  have hl := r.length
  have hn := line63
  have I' : Inv X pins σ (upd H p (.lst (xs.set j v))) { s with heap := s.heap.update p (Obj.mapSeq (·.setIfInBounds j u)) } :=
    I.lstUpd hp ho (mapSeq_set its n j u) (r.set rv j) (by rw [List.length_set]; exact hz) s.toks
  by_cases h0 : 0 ≤ k
  · have hk : k.toNat = j := by
      rw [seqIndex_of h0 h4] at h1
      exact Option.some.inj h1
    exact PySem.W.ki_setAt ho h0 (by omega) (by rw [List.size_toArray, ← hl]; exact h4) (by rw [hk]; exact ⟨_, I', q⟩)
  · have hk : (k + (its.toArray.size : Int)).toNat = j := by
      rw [seqIndex_neg (by omega) h3] at h1
      rw [List.size_toArray, ← hl]
      exact Option.some.inj h1
    exact PySem.W.ki_setBack ho (by omega) (by rw [List.size_toArray, ← hl]; exact h3) (by omega) (by rw [hk]; exact ⟨_, I', q⟩)

/-! ### slices -/
theorem slice_bounds (lo hi : Option Int) (n : Nat) : (sliceBounds lo hi none n).1 = ((HT.sIx n 0 lo : Nat) : Int) ∧ (sliceBounds lo hi none n).2.1 = ((HT.sIx n n hi : Nat) : Int) ∧ (sliceBounds lo hi none n).2.2 = 1 := by
  refine ⟨?_, ?_, rfl⟩
  · cases lo with
    | none => simp [sliceBounds, HT.sIx]
    | some i =>
      simp only [sliceBounds, HT.sIx, Option.getD_none, show (1 : Int) > 0 by decide, if_true]
      by_cases h : i < 0
      · simp only [h, if_true] <;> omega
      · simp only [h, if_false] <;> omega
  · cases hi with
    | none => simp [sliceBounds, HT.sIx]
    | some i =>
      simp only [sliceBounds, HT.sIx, Option.getD_none, show (1 : Int) > 0 by decide, if_true]
      by_cases h : i < 0
      · simp only [h, if_true] <;> omega
      · simp only [h, if_false] <;> omega
theorem slicePick_cut (its : List Value) (lo hi : Option Int) : slicePick its.toArray lo hi none = ((its.drop (HT.sIx its.length 0 lo)).take (HT.sIx its.length its.length hi - HT.sIx its.length 0 lo)).toArray := by
  obtain ⟨h1, h2, h3⟩ := slice_bounds lo hi its.toArray.size
  unfold slicePick
  rw [h1, h2, h3]
  simp only [sliceRange_one, pick_run, List.size_toArray] <;> rfl
/-- xs[lo:hi] of a list: a new list -/
def rSlL (K : PySem.W.Frag) : V → Option Int → Option Int → Hp → VK → Prop := fun x lo hi H Q => ∃ a xs, x = .ref a ∧ SqL K H a xs ∧ ∀ p, H p = none → Q (.ref p) (upd H p (.lst (cutV xs lo hi)))
theorem sl_list : SlR X (rSlL X.K) := by
  intro pins s σ H x v vl vu lo hi sl Q I rx hs pl pu h
  obtain ⟨a, xs, rfl, hx, q⟩ := h
  cases rx
  obtain ⟨its, r, ht, hz⟩ := I.list hx
  have hlen := r.length
  refine ⟨"list", _, slot_list_getitem.lookup, ht.isList.typeIs, ?_⟩
  refine wpAny_getItem_list_slice ht.isList hs pl pu .none (by simp) ?_ (by rw [List.size_toArray] <;> omega)
  rw [slicePick_cut, ← hlen]
  refine ⟨.ref s.heap.objs.size, _, I.laid (t' := s.toks) (o := .lst (cutV xs lo hi)) (fun b ob q => Heap.get?_push_of_some _ q) (Nat.le_refl _) ?_, rfl, q _ (I.hok.fresh (Nat.le_refl _))⟩
  exact ⟨Nat.le_trans (cutV_length xs lo hi) hz, _, 0, (r.drop (HT.sIx xs.length 0 lo)).take (HT.sIx xs.length xs.length hi - HT.sIx xs.length 0 lo), Heap.get?_push_size _ rfl⟩

/-! ### in, not in: flat items -/
def flatV : V → Bool
  | .non => true
  | .bl _ => true
  | .int _ => true
  | .str _ => true
  | _ => false
/-- == of flat values -/
def eqV : V → V → Bool
  | .non, .non => true
  | .bl a, .bl b => a == b
  | .bl a, .int b => (if a then 1 else 0) == b
  | .int a, .bl b => a == (if b then 1 else 0)
  | .int a, .int b => a == b
  | .str a, .str b => a == b
  | _, _ => false
theorem eqAt_V {A : Around} {s : Shared} {y x : V} {u v : Value} (ry : RelV y u) (rx : RelV x v) (fy : flatV y = true) (fx : flatV x = true) : SeqAt.EqAt A s u v (eqV y x) := by
  cases y with
  | non =>
    cases ry
    cases x with
    | non => cases rx; exact SeqAt.EqAt.same _
    | bl b => cases rx; exact SeqAt.EqAt.none_bool b
    | int b => obtain ⟨t, rfl⟩ := rx; exact SeqAt.EqAt.none_int b t
    | str b => obtain ⟨t, rfl⟩ := rx; exact SeqAt.EqAt.none_str b t
    | _ => exact absurd (show false = true from fx) Bool.false_ne_true
  | bl a =>
    cases ry
    cases x with
    | non => cases rx; exact SeqAt.EqAt.bool_none a
    | bl b => cases rx; exact SeqAt.EqAt.bool_bool a b
    | int b => obtain ⟨t, rfl⟩ := rx; exact SeqAt.EqAt.bool_int a b t
    | str b => obtain ⟨t, rfl⟩ := rx; exact SeqAt.EqAt.bool_str a b t
    | _ => exact absurd (show false = true from fx) Bool.false_ne_true
  | int a =>
    obtain ⟨t', rfl⟩ := ry
    cases x with
    | non => cases rx; exact SeqAt.EqAt.int_none a t'
    | bl b => cases rx; exact SeqAt.EqAt.int_bool a t' b
    | int b => obtain ⟨t, rfl⟩ := rx; exact SeqAt.EqAt.int_int a t' b t
    | str b => obtain ⟨t, rfl⟩ := rx; exact SeqAt.EqAt.int_str a t' b t
    | _ => exact absurd (show false = true from fx) Bool.false_ne_true
  | str a =>
    obtain ⟨t', rfl⟩ := ry
    cases x with
    | non => cases rx; exact SeqAt.EqAt.str_none a t'
    | bl b => cases rx; exact SeqAt.EqAt.str_bool a t' b
    | int b => obtain ⟨t, rfl⟩ := rx; exact SeqAt.EqAt.str_int a t' b t
    | str b => obtain ⟨t, rfl⟩ := rx; exact SeqAt.EqAt.str_str a t' b t
    | _ => exact absurd (show false = true from fx) Bool.false_ne_true
  | _ => exact absurd (show false = true from fy) Bool.false_ne_true
/-- the items' answers, read off the values (a value's own answer does not lean on its token) -/
def eqU (x : V) (u : Value) : Bool := match u with
  | .none => eqV .non x
  | .bool b => eqV (.bl b) x
  | .int i _ => eqV (.int i) x
  | .str z _ => eqV (.str z) x
  | _ => false
theorem eqU_of {x y : V} {u : Value} (r : RelV y u) (f : flatV y = true) : eqU x u = eqV y x := by
  cases y with
  | non => cases r; rfl
  | bl b => cases r; rfl
  | int i => obtain ⟨t, rfl⟩ := r; rfl
  | str z => obtain ⟨t, rfl⟩ := r; rfl
  | _ => exact absurd (show false = true from f) Bool.false_ne_true
theorem any_eqU {x : V} : ∀ {xs : List V} {us : List Value}, Vals xs us → xs.all flatV = true → us.any (eqU x) = xs.any fun y => eqV y x
  | _, _, .nil, _ => rfl
  | y :: xs, u :: us, .cons r t, f => by
    rw [List.all_cons, Bool.and_eq_true] at f
    rw [List.any_cons, List.any_cons, eqU_of r f.1, any_eqU t f.2]
theorem mem_eqAt {A : Around} {s : Shared} {x : V} {v : Value} (rx : RelV x v) (fx : flatV x = true) : ∀ {xs : List V} {us : List Value}, Vals xs us → xs.all flatV = true → ∀ u ∈ us, SeqAt.EqAt A s u v (eqU x u)
  | _, _, .nil, _ => fun u hu => by cases hu
  | y :: xs, u :: us, .cons r t, f => fun u' hu => by
    rw [List.all_cons, Bool.and_eq_true] at f
    rcases List.mem_cons.mp hu with rfl | hu
    · rw [eqU_of r f.1]; exact eqAt_V r rx f.1 fx
    · exact mem_eqAt rx fx t f.2 u' hu
def inV (x : V) (xs : List V) : Bool := xs.any fun y => eqV y x
/-- x in a list or tuple of flat items -/
def rIn (K : PySem.W.Frag) (neg : Bool) : R2 := fun x y H Q => ∃ p xs, y = .ref p ∧ (SqL K H p xs ∨ SqT K H p xs) ∧ flatV x = true ∧ xs.all flatV = true ∧ Q (.bl (if neg then !inV x xs else inV x xs)) H
theorem op_in_seq : OpR X (compareOp .In) (rIn X.K false) := by
  intro pins s σ H x y v u Q I rx ry h
  obtain ⟨p, xs, rfl, hq, fx, fs, q⟩ := h
  cases ry
  rcases hq with hq | hq
  · obtain ⟨its, r, pl, hz⟩ := I.list hq
    refine SeqAt.in_listAt (eqU x) pl.isList (fun w hw => mem_eqAt rx fx r fs w (by simpa using hw)) ⟨.bl _, H, I, rfl, ?_⟩
    rw [show its.toArray.any (eqU x) = its.any (eqU x) by simp, any_eqU r fs]
    exact q
  · obtain ⟨its, r, pl, hz⟩ := I.tuple hq
    refine SeqAt.in_tupleAt (eqU x) pl (fun w hw => mem_eqAt rx fx r fs w (by simpa using hw)) ⟨.bl _, H, I, rfl, ?_⟩
    rw [show its.toArray.any (eqU x) = its.any (eqU x) by simp, any_eqU r fs]
    exact q
theorem op_notIn_seq : OpR X (compareOp .NotIn) (rIn X.K true) := by
  intro pins s σ H x y v u Q I rx ry h
  obtain ⟨p, xs, rfl, hq, fx, fs, q⟩ := h
  cases ry
  rcases hq with hq | hq
  · obtain ⟨its, r, pl, hz⟩ := I.list hq
    refine SeqAt.notIn_listAt (eqU x) pl.isList (fun w hw => mem_eqAt rx fx r fs w (by simpa using hw)) ⟨.bl _, H, I, rfl, ?_⟩
    rw [show its.toArray.any (eqU x) = its.any (eqU x) by simp, any_eqU r fs]
    exact q
  · obtain ⟨its, r, pl, hz⟩ := I.tuple hq
    refine SeqAt.notIn_tupleAt (eqU x) pl (fun w hw => mem_eqAt rx fx r fs w (by simpa using hw)) ⟨.bl _, H, I, rfl, ?_⟩
    rw [show its.toArray.any (eqU x) = its.any (eqU x) by simp, any_eqU r fs]
    exact q
theorem op_notIn_str : OpR X (compareOp .NotIn) (fun x y H Q => ∃ i j, x = .str i ∧ y = .str j ∧ Q (.bl (!(!(Builtin.Str.occurrences j i 0 j.length 1).isEmpty))) H) := by
  intro pins s σ H x y v u Q I rx ry h
  obtain ⟨i, j, rfl, rfl, q⟩ := h
  obtain ⟨t, rfl⟩ := rx
  obtain ⟨t', rfl⟩ := ry
  exact notIn_str ⟨.bl _, H, I, rfl, q⟩

/-! ### len, list(x), tuple(x) of any list or tuple that is read -/
theorem call_len_seq : CallR X (.builtin "len") (fun xs H Q => ∃ p ys, xs = [.ref p] ∧ (SqL X.K H p ys ∨ SqT X.K H p ys) ∧ Q (.int ys.length) H) := by
  intro pins s σ H xs us Q I r h
  obtain ⟨p, ys, rfl, hq, q⟩ := h
  obtain ⟨u, rfl, rx⟩ := vals1 r
  cases rx
  have hn := line63
  rcases hq with hq | hq
  · obtain ⟨its, r', pl, hz⟩ := I.list hq
    have hlen := r'.length
    exact Calls.call_len_list pl.isList (by simp only [List.size_toArray] <;> omega) ⟨.int ys.length, H, I.tok _, ⟨s.toks + 1, by rw [List.size_toArray, hlen]⟩, q⟩
  · obtain ⟨its, r', pl, hz⟩ := I.tuple hq
    have hlen := r'.length
    exact len_tuple pl (by simp only [List.size_toArray] <;> omega) ⟨.int ys.length, H, I.tok _, ⟨s.toks + 1, by rw [List.size_toArray, hlen]⟩, q⟩
theorem call_len_str : CallR X (.builtin "len") (fun xs H Q => ∃ z, xs = [.str z] ∧ z.length ≤ sizeLine ∧ Q (.int z.length) H) := by
  intro pins s σ H xs us Q I r h
  obtain ⟨z, rfl, hz, q⟩ := h
  obtain ⟨u, rfl, t, rfl⟩ := vals1 r
  have hn := line63
  exact len_str (by omega) ⟨.int z.length, H, I.tok _, ⟨_, rfl⟩, q⟩
theorem CallR.or {f : Value} {r r' : List V → Hp → VK → Prop} (h : CallR X f r) (h' : CallR X f r') : CallR X f (fun xs H Q => r xs H Q ∨ r' xs H Q) := by
  intro pins s σ H xs us Q I rs q
  rcases q with q | q
  · exact h pins s σ H xs us Q I rs q
  · exact h' pins s σ H xs us Q I rs q
theorem call_list_of : CallR X (.type "list") (fun xs H Q => ∃ p ys, xs = [.ref p] ∧ (SqL X.K H p ys ∨ SqT X.K H p ys) ∧ ∀ l, H l = none → Q (.ref l) (upd H l (.lst ys))) := by
  intro pins s σ H xs us Q I r h
  obtain ⟨p, ys, rfl, hq, q⟩ := h
  obtain ⟨u, rfl, rx⟩ := vals1 r
  cases rx
  have fin : ∀ (its : List Value), Vals ys its → ys.length ≤ sizeLine → ∀ (h' : Heap) (c' : Nat), (∀ b o', s.heap.get? b = some o' → h'.get? b = some o') →
      h'.get? s.heap.objs.size = some { cls := .type "list", dict := none, data := .seq its.toArray c', slots := #[] } → EP X pins σ Q (.ref s.heap.objs.size) { s with heap := h' } := fun its r' hz h' c' kp e =>
    ⟨.ref s.heap.objs.size, _, I.laid (t' := s.toks) kp (Nat.le_refl _) (show ObjOk X.prog X.w _ h' _ (.lst ys) from ⟨hz, its, c', r', e⟩), rfl, q _ (I.hok.fresh (Nat.le_refl _))⟩
  rcases hq with hq | hq
  · obtain ⟨its, r', pl, hz⟩ := I.list hq
    have hlen := r'.length
    obtain ⟨o, ho, hc, n, hd⟩ := pl.isList
    exact call_list_seq p (.inl rfl) ho hc hd (fun h' c' kp e => fin its r' hz h' c' kp e) (by simp only [List.size_toArray] <;> omega)
  · obtain ⟨its, r', pl, hz⟩ := I.tuple hq
    have hlen := r'.length
    obtain ⟨o, ho, hc, n, hd⟩ := pl
    exact call_list_seq p (.inr rfl) ho hc hd (fun h' c' kp e => fin its r' hz h' c' kp e) (by simp only [List.size_toArray] <;> omega)
theorem call_tuple_of : CallR X (.type "tuple") (fun xs H Q => ∃ p ys, xs = [.ref p] ∧ ((SqL X.K H p ys ∧ ∀ l, H l = none → Q (.ref l) (upd H l (.tup ys))) ∨ (SqT X.K H p ys ∧ Q (.ref p) H))) := by
  intro pins s σ H xs us Q I r h
  obtain ⟨p, ys, rfl, h⟩ := h
  obtain ⟨u, rfl, rx⟩ := vals1 r
  cases rx
  rcases h with ⟨hq, q⟩ | ⟨hq, q⟩
  · obtain ⟨its, r', pl, hz⟩ := I.list hq
    have hlen := r'.length
    refine call_tuple_list pl.isList (fun h' kp => ?_) (by simp only [List.size_toArray] <;> omega)
    have I1 : Inv X pins σ H { s with heap := h' } := I.kept (t' := s.toks) kp
    have I2 : Inv X pins σ (upd H h'.objs.size (.tup ys)) { s with heap := h'.push { cls := .type "tuple", data := .seq its.toArray } } :=
      I1.laid (t' := s.toks) (fun b o e => Heap.get?_push_of_some _ e) (Nat.le_refl _) (show ObjOk X.prog X.w _ _ _ (.tup ys) from ⟨hz, its, r', IsTup.new _ _⟩)
    exact ⟨.ref h'.objs.size, _, I2, rfl, q _ (I1.hok.fresh (Nat.le_refl _))⟩
  · obtain ⟨its, r', pl, hz⟩ := I.tuple hq
    exact call_tuple_same pl ⟨.ref p, H, I, rfl, q⟩

/-! ### the call of a builtin's method: o.m(..) -/
/-- the value is of that builtin type -/
def tyV (K : PySem.W.Frag) (T : String) (x : V) (H : Hp) : Prop := match x with
  | .str _ => T = "str"
  | .int _ => T = "int"
  | .ref p => (T = "list" ∧ ∃ xs, SqL K H p xs) ∨ (T = "tuple" ∧ ∃ o, K.lookup p = some o ∧ o.cls = .type "tuple" ∧ o.dict = none) ∨
      (T = "dict" ∧ ((∃ kvs, H p = some (.dK kvs)) ∨ ∃ kvs, H p = some (.dT kvs))) ∨ (T = "set" ∧ ∃ S n, H p = some (.set S n))
  | _ => False
theorem tyV_is {pins : List (Addr × Obj)} {σ : St} {H : Hp} {s : Shared} {T : String} {x : V} {v : Value} (I : Inv X pins σ H s) (r : RelV x v) (ty : tyV X.K T x H) :
    s.TypeIs v T ∧ ∀ a, v = .ref a → ∃ ob, s.heap.get? a = some ob ∧ ob.dict = none := by
  cases x with
  | str z =>
    obtain ⟨t, rfl⟩ := r
    cases (show T = "str" from ty)
    exact ⟨typeIs_str s z t, fun _ e => nomatch e⟩
  | int i =>
    obtain ⟨t, rfl⟩ := r
    cases (show T = "int" from ty)
    exact ⟨typeIs_int s i t, fun _ e => nomatch e⟩
  | ref p =>
    cases r
    rcases ty with ⟨rfl, xs, hq⟩ | ⟨rfl, o, hk, hc, hd⟩ | ⟨rfl, hk⟩ | ⟨rfl, S, n, hk⟩
    · obtain ⟨its, _, pl, _⟩ := I.list hq
      refine ⟨pl.isList.typeIs, fun a e => ?_⟩
      cases e
      obtain ⟨o, n, e, c, hd, _⟩ := pl
      exact ⟨o, e, hd⟩
    · refine ⟨⟨o, I.kIn p o hk, hc⟩, fun a e => ?_⟩
      cases e
      exact ⟨o, I.kIn _ o hk, hd⟩
    · have z : ∃ o, s.heap.get? p = some o ∧ o.ExactDict := by
        rcases hk with ⟨kvs, hk⟩ | ⟨kvs, hk⟩
        · obtain ⟨_, _, _, _, o, _, _, e, ex, _⟩ := I.hok p _ hk
          exact ⟨o, e, ex⟩
        · obtain ⟨_, _, _, _, o, _, _, e, ex, _⟩ := I.hok p _ hk
          exact ⟨o, e, ex⟩
      obtain ⟨o, e, ex⟩ := z
      refine ⟨⟨o, e, ex.1⟩, fun a e2 => ?_⟩
      cases e2
      exact ⟨o, e, ex.2.1⟩
    · obtain ⟨o, _, _, _, e, ex, _⟩ := I.hok p _ hk
      refine ⟨⟨o, e, ex.1⟩, fun a e2 => ?_⟩
      cases e2
      exact ⟨o, e, ex.2.1⟩
  | _ => exact False.elim ty
def tBM0 (K : PySem.W.Frag) (T : String) (r : V → List V → Hp → VK → Prop) (to : TE) : TE := fun σ H Q => to σ H fun x H1 => tyV K T x H1 ∧ r x [] H1 Q
def tBM (K : PySem.W.Frag) (T : String) (r : V → List V → Hp → VK → Prop) (to : TE) (t : TA) : TE := fun σ H Q => to σ H fun x H1 => tyV K T x H1 ∧ t σ H1 fun xs H2 => r x xs H2 Q
variable {o e : Expr} {es : List Expr} {to : TE} {t : TA} {name : Str} {apos cpos : Pos} {T id : String} {r : V → List V → Hp → VK → Prop}
theorem pe_bm0 (pa : PlainAttrs T) (slot : Slot T name id) (hty : typeOf (.builtin id) = pure (.type "method_descriptor")) (hm : MtR X id r) (ho : PE X o to)
    (hbase : attributeBase o name X.env (eval o X.env) = eval o X.env := by rfl) (hline : (apos.endLine == cpos.line) = true := by rfl) : PE X (.Call (.Attribute o name apos) [] [] cpos) (tBM0 X.K T r to) := by
  intro pins s σ H Q I h
  refine wpAny_Call_method0_late hbase hline (thn (ho pins s σ H _ I h) fun v s1 ⟨x, H1, I1, r1, ty, q1⟩ => ?_)
  obtain ⟨h1, h2⟩ := tyV_is I1 r1 ty
  exact ⟨T, id, pa, slot, hty, h1, h2, Calls.callWith_builtin rfl (PySem.evalArgs_none (hm pins s1 σ H1 x [] v [] Q I1 r1 .nil q1))⟩
theorem pe_bm (pa : PlainAttrs T) (slot : Slot T name id) (hty : typeOf (.builtin id) = pure (.type "method_descriptor")) (hm : MtR X id r) (ho : PE X o to) (ha : PA X (e :: es) t)
    (hbase : attributeBase o name X.env (eval o X.env) = eval o X.env := by rfl)
    (hfew : ((backTo cpos (starEach (e :: es) X.env)).all (fun x => !x.1) && (backToKw cpos (keywordEach [] X.env)).all (fun x => x.1.isSome)
      && decide ((e :: es).length + ([] : List Keyword).length + (if ([] : List Keyword).isEmpty then 0 else 1) < 30)) = true := by rfl)
    (hline : (apos.endLine == cpos.line) = true := by rfl) (hs : starEach (e :: es) X.env = (false, eval e X.env) :: starEach es X.env := by rfl) (hplain : (backTo cpos (starEach es X.env)).any (·.1) = false := by rfl) :
    PE X (.Call (.Attribute o name apos) (e :: es) [] cpos) (tBM X.K T r to t) := by
  intro pins s σ H Q I h
  refine wpAny_Call_method_late hbase hfew hline rfl (thn (ho pins s σ H _ I h) fun v s1 ⟨x, H1, I1, r1, ty, q1⟩ => ?_)
  obtain ⟨h1, h2⟩ := tyV_is I1 r1 ty
  refine ⟨T, id, pa, slot, hty, h1, h2, ?_⟩
  have hA := ha cpos pins s1 σ H1 _ I1 q1
  rw [hs] at hA ⊢
  refine Calls.callWith_builtin (by show (false || (backTo cpos (starEach es X.env)).any (·.1)) = false; rw [hplain] <;> rfl) (Calls.evalArgs_plain ?_)
  exact thn hA fun us s2 ⟨vs, H2, I2, r2, q2⟩ => hm pins s2 σ H2 x vs v us Q I2 r1 r2 q2
/- xs.append(e), list.index on a module's tuple .. are MtR facts of 06m -/
end
end L2

namespace L2
open PySem PySem.Spec PyProof.Rows

def MtM (X : Cx) (id : String) (r : V → List V → Hp → VK → Prop) : Prop :=
  ∀ (pins : List (Addr × Obj)) (s : Shared) (σ : St) (H : Hp) (x : V) (xs : List V) (v : Value) (us : List Value) (Q : VK), Inv X pins σ H s → RelV x v → Vals xs us → r x xs H Q →
    wpAny (model X.prog X.w) X.A (call (.builtin id) (v :: us)) (EP X pins σ Q) X.xe s

/-! ### lists of values -/
theorem Vals.one : ∀ {x : V} {us : List Value}, Vals [x] us → ∃ u, us = [u] ∧ RelV x u
  | _, _, .cons r .nil => ⟨_, rfl, r⟩
theorem Vals.two : ∀ {x y : V} {us : List Value}, Vals [x, y] us → ∃ u v, us = [u, v] ∧ RelV x u ∧ RelV y v
  | _, _, _, .cons r (.cons q .nil) => ⟨_, _, rfl, r, q⟩
theorem Vals.zero : ∀ {us : List Value}, Vals [] us → us = []
  | _, .nil => rfl
theorem Vals.dropLast {xs : List V} {us : List Value} (h : Vals xs us) : Vals xs.dropLast us.dropLast := by
  induction h with
  | nil => exact .nil
  | cons r t ih =>
    cases t with
    | nil => exact .nil
    | cons q t' => exact .cons r ih
theorem Vals.eraseIdx : ∀ {xs : List V} {us : List Value} (i : Nat), Vals xs us → Vals (xs.eraseIdx i) (us.eraseIdx i)
  | _, _, _, .nil => .nil
  | _, _, 0, .cons _ t => t
  | _, _, i + 1, .cons r t => .cons r (Vals.eraseIdx i t)
theorem Vals.reverse {xs : List V} {us : List Value} (h : Vals xs us) : Vals xs.reverse us.reverse := by
  induction h with
  | nil => exact .nil
  | cons r t ih => rw [List.reverse_cons, List.reverse_cons]; exact Vals.append ih (.cons r .nil)
theorem Vals.rep {xs : List V} {us : List Value} (h : Vals xs us) : ∀ k : Nat, Vals (List.replicate k xs).flatten (List.replicate k us).flatten
  | 0 => .nil
  | k + 1 => by
    rw [List.replicate_succ, List.replicate_succ, List.flatten_cons, List.flatten_cons]
    exact Vals.append h (Vals.rep h k)
theorem erase_last {α : Type} (l : List α) : l.eraseIdx (l.length - 1) = l.dropLast := by
  induction l with
  | nil => rfl
  | cons a r ih =>
    cases r with
    | nil => rfl
    | cons b r =>
      have e : (a :: b :: r).length - 1 = ((b :: r).length - 1) + 1 := by
        have h1 : (a :: b :: r).length = r.length + 2 := rfl
        have h2 : (b :: r).length = r.length + 1 := rfl
        omega
      rw [e, List.eraseIdx_cons_succ, ih]
      all_goals rfl
theorem len_erase {α : Type} : ∀ (l : List α) (i : Nat), (l.eraseIdx i).length ≤ l.length
  | [], _ => Nat.le_refl _
  | _ :: _, 0 => Nat.le_succ _
  | _ :: r, i + 1 => Nat.succ_le_succ (len_erase r i)
theorem foldl_rep (its : List Value) : ∀ (k : Nat) (acc : List Value),
    List.foldl (fun x1 x2 => x1 ++ x2) acc.toArray (List.replicate k its.toArray) = (acc ++ (List.replicate k its).flatten).toArray
  | 0, acc => by simp
  | k + 1, acc => by
    have e : acc.toArray ++ its.toArray = (acc ++ its).toArray := by simp
    have e2 : (acc ++ its) ++ (List.replicate k its).flatten = acc ++ (List.replicate (k + 1) its).flatten := by
      rw [List.replicate_succ, List.flatten_cons, List.append_assoc]
    rw [← e2, ← foldl_rep its k (acc ++ its), ← e, List.replicate_succ, List.foldl_cons]

section
variable {X : Cx} {pins : List (Addr × Obj)} {σ : St} {H : Hp} {s : Shared} {l b : Addr} {xs ys zs : List V}

/-! ### the two steps: a tracked list is rewritten, a new list is laid -/
theorem Inv.lset {its its' : List Value} {n : Nat} {f : Array Value → Array Value} {t' : Nat} (I : Inv X pins σ H s) (hH : H l = some (.lst xs))
    (e : s.heap.get? l = some { cls := .type "list", data := .seq its.toArray n }) (hf : f its.toArray = its'.toArray) (hv : Vals ys its') (hz : ys.length ≤ sizeLine) :
    Inv X pins σ (upd H l (.lst ys)) { s with heap := s.heap.update l (Obj.mapSeq f), toks := t' } := by
  have q := PySem.IsL.update e f
  rw [hf] at q
  refine I.write (x := l) (e := l) (by rw [hH]; exact trivial) (.inl rfl) (fun b' u hb hu => (Heap.get?_update_other s.heap (Obj.mapSeq f) (Ne.symm hb)).trans hu) ⟨_, q⟩ ?_
  exact ⟨hz, its', _, hv, q⟩
theorem Inv.lnew {its : List Value} {t' : Nat} (I : Inv X pins σ H s) (hv : Vals ys its) (hz : ys.length ≤ sizeLine) :
    Inv X pins σ (upd H s.heap.objs.size (.lst ys)) { s with heap := s.heap.push { cls := .type "list", data := .seq its.toArray }, toks := t' } :=
  I.laid (fun _ _ q => Heap.get?_push_of_some _ q) (Nat.le_refl _) ⟨hz, its, 0, hv, Heap.get?_push_size _ rfl⟩
theorem Inv.fresh (I : Inv X pins σ H s) : H s.heap.objs.size = none := I.hok.fresh (Nat.le_refl _)
theorem Inv.lstM (I : Inv X pins σ H s) (hH : H l = some (.lst xs)) : xs.length ≤ sizeLine ∧ ∃ (its : List Value) (n : Nat), Vals xs its ∧ xs.length = its.length ∧ s.heap.get? l = some { cls := .type "list", data := .seq its.toArray n } := by
  obtain ⟨z, its, n, r, e⟩ := I.hok l _ hH
  exact ⟨z, its, n, r, r.length, e⟩

theorem notLongL {n : Nat} (h : n ≤ sizeLine) : Builtin.List.listTooLong n = false := by
  unfold Builtin.List.listTooLong
  exact decide_eq_false (by omega)
end

section
variable {X : Cx}

/-! ### methods -/
def rAppend : V → List V → Hp → VK → Prop := fun x vs H Q => ∃ l xs y, x = .ref l ∧ vs = [y] ∧ H l = some (.lst xs) ∧ xs.length < sizeLine ∧ Q .non (upd H l (.lst (xs ++ [y])))
theorem mt_append : MtM X "list.append" rAppend := by
  intro pins s σ H x vs v us Q I rx rv h
  obtain ⟨l, xs, y, rfl, rfl, hH, hz, q⟩ := h
  cases rx
  obtain ⟨u, rfl, ru⟩ := rv.one
  obtain ⟨z, its, n, r, hl, e⟩ := I.lstM hH
  refine call_meets F.slot_list_append ⟨_, e, rfl⟩ F.entry_list_append (F.args_list_append_2 _ _) (PySem.list_append l its.toArray n u (by rw [List.size_toArray]; omega)) ⟨e, ?_⟩
  refine ⟨.non, _, I.lset (its' := its ++ [u]) hH e (by simp) (r.append (.cons ru .nil)) ?_, rfl, q⟩
  rw [List.length_append, List.length_singleton]
  omega

def rExtend : V → List V → Hp → VK → Prop := fun x vs H Q => ∃ l b xs zs, x = .ref l ∧ vs = [.ref b] ∧ H l = some (.lst xs) ∧ H b = some (.lst zs) ∧ xs.length + zs.length ≤ sizeLine ∧ Q .non (upd H l (.lst (xs ++ zs)))
theorem mt_extend : MtM X "list.extend" rExtend := by
  intro pins s σ H x vs v us Q I rx rv h
  obtain ⟨l, b, xs, zs, rfl, rfl, hH, hB, hz, q⟩ := h
  cases rx
  obtain ⟨u, rfl, ru⟩ := rv.one
  cases ru
  obtain ⟨z, its, n, r, hl, e⟩ := I.lstM hH
  obtain ⟨z2, its2, n2, r2, hl2, e2⟩ := I.lstM hB
  have hsz : its.toArray.size + its2.toArray.size ≤ sizeLine := by rw [List.size_toArray, List.size_toArray]; omega
  have hlong : ¬ (!its.toArray.isEmpty && Builtin.List.listTooLong (its.toArray.size + its2.toArray.size)) = true := by
    rw [notLongL hsz, Bool.and_false]
    exact Bool.false_ne_true
  refine call_meets F.slot_list_extend ⟨_, e, rfl⟩ F.entry_list_extend (F.args_list_extend_2 _ _)
    (AutoSeq1.list_extend_list_list_0 l its.toArray n b its2.toArray n2 hlong (by rw [List.size_toArray]; omega) (by omega)) ⟨e, e2, ?_⟩
  refine ⟨.non, _, I.lset (its' := its ++ its2) hH e (by simp) (r.append r2) ?_, rfl, q⟩
  rw [List.length_append]
  omega

def rPop : V → List V → Hp → VK → Prop := fun x vs H Q => ∃ l xs y, x = .ref l ∧ vs = [] ∧ H l = some (.lst xs) ∧ xs[xs.length - 1]? = some y ∧ Q y (upd H l (.lst xs.dropLast))
theorem mt_pop : MtM X "list.pop" rPop := by
  intro pins s σ H x vs v us Q I rx rv h
  obtain ⟨l, xs, y, rfl, rfl, hH, hy, q⟩ := h
  cases rx
  have hus := rv.zero
  subst hus
  obtain ⟨z, its, n, r, hl, e⟩ := I.lstM hH
  obtain ⟨u, hu, ru⟩ := r.get hy
  have hy' : its.toArray[its.toArray.size - 1]? = some u := by
    show its.toArray[its.length - 1]? = some u
    rw [← Array.getElem?_toList, ← hl]
    exact hu
  refine call_meets F.slot_list_pop ⟨_, e, rfl⟩ F.entry_list_pop (F.args_list_pop_1 _) (MeetsSeq.list_pop_last l its.toArray n u hy' (by rw [List.size_toArray]; omega)) ⟨e, ?_⟩
  refine ⟨y, _, I.lset (its' := its.dropLast) hH e ?_ r.dropLast ?_, ru, q⟩
  · show its.toArray.eraseIdxIfInBounds (its.toArray.size - 1) = its.dropLast.toArray
    rw [List.size_toArray, List.eraseIdxIfInBounds_toArray, erase_last]
  · rw [List.length_dropLast]
    omega

def rPopAt : V → List V → Hp → VK → Prop := fun x vs H Q => ∃ l xs i k y, x = .ref l ∧ vs = [.int i] ∧ H l = some (.lst xs) ∧ -(2 ^ 63) ≤ i ∧ i < 2 ^ 63 ∧ seqIndex? i xs.length = some k ∧ xs[k]? = some y ∧ Q y (upd H l (.lst (xs.eraseIdx k)))
theorem mt_popAt : MtM X "list.pop" rPopAt := by
  intro pins s σ H x vs v us Q I rx rv h
  obtain ⟨l, xs, i, k, y, rfl, rfl, hH, h1, h2, hk, hy, q⟩ := h
  cases rx
  obtain ⟨u, rfl, ru⟩ := rv.one
  obtain ⟨t, rfl⟩ := ru
  obtain ⟨z, its, n, r, hl, e⟩ := I.lstM hH
  obtain ⟨w, hw, rw'⟩ := r.get hy
  refine call_meets F.slot_list_pop ⟨_, e, rfl⟩ F.entry_list_pop (F.args_list_pop_2 _ _)
    (MeetsSeq.list_pop_at l its.toArray n i t k w (fitsIndex_both h1 h2) (by rw [List.size_toArray, ← hl]; exact hk) (by rw [← Array.getElem?_toList]; exact hw) (by rw [List.size_toArray]; omega)) ⟨e, ?_⟩
  refine ⟨y, _, I.lset (its' := its.eraseIdx k) hH e ?_ (r.eraseIdx k) ?_, rw', q⟩
  · show its.toArray.eraseIdxIfInBounds k = (its.eraseIdx k).toArray
    rw [List.eraseIdxIfInBounds_toArray]
  · have := len_erase xs k
    omega

def rReverse : V → List V → Hp → VK → Prop := fun x vs H Q => ∃ l xs, x = .ref l ∧ vs = [] ∧ H l = some (.lst xs) ∧ Q .non (upd H l (.lst xs.reverse))
theorem mt_reverse : MtM X "list.reverse" rReverse := by
  intro pins s σ H x vs v us Q I rx rv h
  obtain ⟨l, xs, rfl, rfl, hH, q⟩ := h
  cases rx
  have hus := rv.zero
  subst hus
  obtain ⟨z, its, n, r, hl, e⟩ := I.lstM hH
  refine call_meets F.slot_list_reverse ⟨_, e, rfl⟩ F.entry_list_reverse (F.args_list_reverse_1 _) (AutoSeq1.list_reverse_list_0 l its.toArray n (by rw [List.size_toArray]; omega)) ⟨e, ?_⟩
  refine ⟨.non, _, I.lset (its' := its.reverse) hH e (by simp) r.reverse ?_, rfl, q⟩
  rw [List.length_reverse]
  omega

def rClear : V → List V → Hp → VK → Prop := fun x vs H Q => ∃ l xs, x = .ref l ∧ vs = [] ∧ H l = some (.lst xs) ∧ Q .non (upd H l (.lst []))
theorem mt_clear : MtM X "list.clear" rClear := by
  intro pins s σ H x vs v us Q I rx rv h
  obtain ⟨l, xs, rfl, rfl, hH, q⟩ := h
  cases rx
  have hus := rv.zero
  subst hus
  obtain ⟨z, its, n, r, hl, e⟩ := I.lstM hH
  refine call_meets F.slot_list_clear ⟨_, e, rfl⟩ F.entry_list_clear (F.args_list_clear_1 _) (AutoSeq1.list_clear_list_0 l its.toArray n (by rw [List.size_toArray]; omega)) ⟨e, ?_⟩
  exact ⟨.non, _, I.lset (its' := []) (ys := []) hH e rfl .nil (Nat.zero_le _), rfl, q⟩

/-! ### list + list, list += list, list * int -/
def rCat : R2 := fun x y H Q => ∃ l b xs zs, x = .ref l ∧ y = .ref b ∧ H l = some (.lst xs) ∧ H b = some (.lst zs) ∧ xs.length + zs.length ≤ sizeLine ∧ ∀ p, H p = none → Q (.ref p) (upd H p (.lst (xs ++ zs)))
theorem op_cat : OpR X (binaryOp .Add) rCat := by
  intro pins s σ H x y v u Q I rx ry h
  obtain ⟨l, b, xs, zs, rfl, rfl, hH, hB, hz, q⟩ := h
  cases rx
  cases ry
  obtain ⟨z, its, n, r, hl, e⟩ := I.lstM hH
  obtain ⟨z2, its2, n2, r2, hl2, e2⟩ := I.lstM hB
  refine PySem.P.add_list e e2 ?_ (by rw [List.size_toArray, List.size_toArray]; omega)
  have ea : its.toArray ++ its2.toArray = (its ++ its2).toArray := by simp
  rw [ea]
  exact ⟨.ref _, _, I.lnew (t' := s.toks) (r.append r2) (by rw [List.length_append]; omega), rfl, q _ I.fresh⟩
/-- a list times an int (a negative one is nothing) -/
def rRep : R2 := fun x y H Q => ∃ l k xs, x = .ref l ∧ y = .int k ∧ H l = some (.lst xs) ∧ -(2 ^ 63) ≤ k ∧ k < 2 ^ 63 ∧ xs.length * k.toNat ≤ sizeLine ∧
  ∀ p, H p = none → Q (.ref p) (upd H p (.lst (List.replicate k.toNat xs).flatten))
theorem len_rep {α : Type} (xs : List α) (k : Nat) : (List.replicate k xs).flatten.length = k * xs.length := by
  induction k with
  | zero => simp
  | succ k ih => rw [List.replicate_succ, List.flatten_cons, List.length_append, ih, Nat.succ_mul, Nat.add_comm]
theorem op_rep : OpR X (binaryOp .Mult) rRep := by
  intro pins s σ H x y v u Q I rx ry h
  obtain ⟨l, k, xs, rfl, rfl, hH, h1, h2, hz, q⟩ := h
  cases rx
  obtain ⟨t, rfl⟩ := ry
  obtain ⟨z, its, n, r, hl, e⟩ := I.lstM hH
  have hlen : its.toArray.size * k.toNat ≤ sizeLine := by rw [List.size_toArray, ← hl]; exact hz
  have hcap : ¬ its.toArray.size * k.toNat > (2 ^ 63 - 1) / 8 := by
    have : (sizeLine : Nat) ≤ (2 ^ 63 - 1) / 8 := by decide
    omega
  have hfit : ¬ (!Builtin.List.listFitsIndex k) = true := by
    rw [fitsIndex_both h1 h2]
    exact Bool.false_ne_true
  have hlong : ¬ Builtin.List.listTooLong (its.toArray.size * k.toNat) = true := by
    rw [notLongL hlen]
    exact Bool.false_ne_true
  have hnew : List.foldl (fun x1 x2 => x1 ++ x2) #[] (List.replicate (if its.toArray.isEmpty = true then 0 else k.toNat) its.toArray) = (List.replicate k.toNat its).flatten.toArray := by
    have f0 : ∀ m : Nat, List.foldl (fun x1 x2 => x1 ++ x2) #[] (List.replicate m its.toArray) = (List.replicate m its).flatten.toArray := fun m => by
      have := foldl_rep its m []
      rw [List.nil_append] at this
      exact this
    rw [f0]
    cases its with
    | nil => simp
    | cons a r' => rw [if_neg (by simp)]
  refine wpAny_binaryOp_repeat_ref (T := "list") (U := "int") (by decide) ⟨_, e, rfl⟩ (fun s' => typeIs_int s' k t) noFill_list_mul F.fills_int_mul F.slot_int_rmul repeat_list F.slot_int_index.lookup
    (call_meets F.slot_int_rmul (typeIs_int s k t) F.entry_int_rmul (F.args_int_rmul_2 _ _) (int___rmul___int_list k t l its.toArray n)
      ⟨e, rfl, ⟨_, e, rfl⟩, call_meets F.slot_list_mul ⟨_, e, rfl⟩ F.entry_list_mul (F.args_list_mul_2 _ _) (AutoListH.list___mul___list_int_3 l its.toArray n k t hfit hcap hlong) ⟨e, ?_⟩⟩)
  rw [hnew]
  exact ⟨.ref _, _, I.lnew (t' := s.toks) (r.rep k.toNat) (by rw [len_rep, Nat.mul_comm]; exact hz), rfl, q _ I.fresh⟩

/-! ### del xs[i] -/
theorem del_list {pins : List (Addr × Obj)} {s : Shared} {σ : St} {H : Hp} {l : Addr} {xs : List V} {i : Int} {t : Tok} {k : Nat} {Q : Unit → Shared → Prop} (I : Inv X pins σ H s) (hH : H l = some (.lst xs))
    (h1 : -(2 ^ 63) ≤ i) (h2 : i < 2 ^ 63) (hk : seqIndex? i xs.length = some k) (h : ∀ s', Inv X pins σ (upd H l (.lst (xs.eraseIdx k))) s' → Q () s') :
    wpAny (model X.prog X.w) X.A (delItem (.ref l) (.int i t)) Q X.xe s := by
  obtain ⟨z, its, n, r, hl, e⟩ := I.lstM hH
  refine PySem.P.delItem_list (k := k) e (fitsIndex_both h1 h2) (by rw [List.size_toArray, ← hl]; exact hk) (h _ ?_) (by rw [List.size_toArray]; omega)
  refine I.lset (its' := its.eraseIdx k) (t' := s.toks) hH e ?_ (r.eraseIdx k) ?_
  · show its.toArray.eraseIdxIfInBounds k = (its.eraseIdx k).toArray
    rw [List.eraseIdxIfInBounds_toArray]
  · have := len_erase xs k
    omega
end

/-! ### xs[a:b] = ys -/
section
variable {prog : Program} {w : World} {A : Around} {E : Value → Shared → Prop} {s : Shared}
theorem splice_eq (its its2 : List Value) (a c : Nat) : its.toArray.extract 0 a ++ its2.toArray ++ its.toArray.extract c its.toArray.size = (its.take a ++ its2 ++ its.drop c).toArray := by
  apply Array.toList_inj.mp
  first
    | (simp
       exact List.take_of_length_le (by simp))
    | simp [List.take_of_length_le]
    | simp
theorem bounds_run {a c n : Nat} (hac : a ≤ c) (hc : c ≤ n) : sliceBounds (some (a : Int)) (some (c : Int)) none n = ((a : Int), (c : Int), 1) := by
  simp only [sliceBounds, Option.getD_none]
  have h1 : ¬ ((a : Int) < 0) := by omega
  have h2 : ¬ ((c : Int) < 0) := by omega
  simp only [h1, h2, if_false, show (1 : Int) > 0 by decide, if_true]
  congr 1
  · omega
  · congr 1; omega
set_option maxRecDepth 100000 in
/-- list.__setitem__ with a slice of step one and another list -/
theorem setItem_slice {l b sl : Addr} {items new : Array Value} {n n2 : Nat} {vl vu : Value} {a c : Nat} {Q : Unit → Shared → Prop}
    (e : s.heap.get? l = some { cls := .type "list", data := .seq items n }) (e2 : s.heap.get? b = some { cls := .type "list", data := .seq new n2 }) (hne : l ≠ b)
    (hs : s.heap.IsSliceOf sl vl vu .none) (pl : IsPart vl (some (a : Int))) (pu : IsPart vu (some (c : Int))) (hac : a ≤ c) (hc : c ≤ items.size)
    (hsz : items.size + new.size ≤ sizeLine) (h : Q () { s with heap := s.heap.update l (Obj.mapSeq fun xs => xs.extract 0 a ++ new ++ xs.extract c xs.size) }) :
    wpAny (model prog w) A (setItem (.ref l) (.ref sl) (.ref b)) Q E s := by
  have hl : s.heap.IsList l items := PySem.IsL.isList e
  have hb : s.heap.IsList b new := PySem.IsL.isList e2
  obtain ⟨os, hos, hcs, hds⟩ := id hs
  have hTs : s.TypeIs (.ref sl) "slice" := ⟨os, hos, hcs⟩
  have hstep : ¬ ((rawPart none == rawInt 0) = true) := Bool.false_ne_true
  have hsame : Builtin.List.listSameRef (.ref l) (.ref b) = false := by
    unfold Builtin.List.listSameRef
    exact beq_eq_false_iff_ne.mpr hne
  have hmax : (max (a : Int) (c : Int)).toNat = c := by omega
  have hz' : ((fun xs : Array Value => xs.extract 0 a ++ new ++ xs.extract c xs.size) items).size ≤ sizeLine + 1 := by
    simp only [Array.size_append, Array.size_extract]
    omega
  unfold setItem
  try with_reducible refine wpAny_holding ?_
  first | refine wpAny_bind (wpAny_pure ?_) | skip
  refine wpAny_bind (wpAny_sequenceKey hl.typeIs (by decide) ?_)
  refine wpAny_bind (wpAny_callSpecial?_slot (name := Str.ofString "__setitem__") hl.typeIs slot_list_setitem
    (wpAny_call_entry slot_list_setitem hl.typeIs entry_list_setitem ?_ (args_list_setitem _ _ _)))
  show wpAny _ _ (Builtin.List.listSubscript? (.ref sl) >>= _) _ _ s
  refine wpAny_bind ?_
  unfold Builtin.List.listSubscript?
  refine wpAny_bind (wpAny_specialOf hTs slice_no_index ?_)
  simp only [Option.isNone_none, if_true]
  refine wpAny_pure ?_
  show wpAny _ _ (typeOf (.ref sl) >>= _) _ _ s
  refine wpAny_bind (wpAny_typeOf hTs ?_)
  first
    | rw [if_neg (by decide)]
    | refine PySem.W.KFB.if_not (by decide) ?_
  rw [listSliceParts_eq]
  refine wpAny_bind (wpAny_bind (wpAny_field hos hds (x := .none) rfl (wpAny_bind (wpAny_listPart .none ?_))))
  rw [if_neg hstep]
  refine wpAny_bind (wpAny_field hos hds (x := vl) rfl (wpAny_bind (wpAny_listPart pl ?_)))
  refine wpAny_bind (wpAny_field hos hds (x := vu) rfl (wpAny_bind (wpAny_listPart pu (wpAny_pure ?_))))
  first
    | simp only [hsame, Bool.false_eq_true, if_false]
    | refine PySem.W.KFB.if_not hsame ?_
    | (dsimp only
       rw [if_neg (by rw [hsame]; exact Bool.false_ne_true)])
  refine wpAny_bind (m := Builtin.List.listAllItems (.ref b) "must assign iterable to extended slice") ?_
  unfold Builtin.List.listAllItems
  refine wpAny_bind (wpAny_typeOf hb.typeIs ?_)
  first
    | refine PySem.W.KFB.if_so (by decide) ?_
    | rw [if_pos (by decide)]
    | simp only [beq_self_eq_true, Bool.true_or, if_true]
  unfold Builtin.List.listItems
  refine wpAny_bind (wpAny_seqItems e2 rfl (wpAny_pure ?_))
  refine wpAny_bind (wpAny_bind (wpAny_seqItems e rfl (wpAny_pure ?_)))
  refine wpAny_bind (wpAny_of_eq ((sliceIndices_raw (some (a : Int)) (some (c : Int)) none items.size (by simp)).trans (congrArg (pure : Int × Int × Int → Sem (Int × Int × Int)) (bounds_run hac hc))) ?_)
  show wpAny _ _ (if ((1 : Int) == 1) = true then _ else _) _ _ s
  rw [if_pos (by decide)]
  refine wpAny_bind (wpAny_rule ?_)
  first
    | simp only [notLongL hsz, Bool.false_eq_true, if_false]
    | refine PySem.W.KFB.if_not (notLongL hsz) ?_
  first | refine wpAny_bind (wpAny_pure ?_) | skip
  show wpAny _ _ (updateSeq l (fun xs => xs.extract 0 ((a : Int)).toNat ++ new ++ xs.extract (max (a : Int) (c : Int)).toNat xs.size) >>= _) _ _ s
  rw [hmax, Int.toNat_natCast]
  refine wpAny_bind (wpAny_updateSeq (hz := Nat.le_trans (Nat.le_add_right _ _) hsz) (_hz' := hz') e rfl ?_)
  refine wpAny_bind (wpAny_letGo ?_)
  first
    | exact wpAny_bind (wpAny_pure (wpAny_pure ⟨.none, rfl, wpAny_pure h⟩))
    | exact wpAny_pure ⟨.none, rfl, wpAny_pure h⟩
end

section
variable {X : Cx}
/-- xs[a:c] = ys of another list, at the value level: sl is the slice object that was just made -/
theorem set_slice {pins : List (Addr × Obj)} {s : Shared} {σ : St} {H : Hp} {l b sl : Addr} {xs ys : List V} {a c : Int} {vl vu : Value} {Q : Unit → Shared → Prop} (I : Inv X pins σ H s)
    (hH : H l = some (.lst xs)) (hB : H b = some (.lst ys)) (hne : l ≠ b) (hs : s.heap.IsSliceOf sl vl vu .none) (ra : RelV (.int a) vl) (rc : RelV (.int c) vu) (h0 : 0 ≤ a) (hac : a ≤ c) (hc : c ≤ xs.length)
    (hz : xs.length + ys.length ≤ sizeLine) (h : ∀ s', Inv X pins σ (upd H l (.lst (xs.take a.toNat ++ ys ++ xs.drop c.toNat))) s' → Q () s') :
    wpAny (model X.prog X.w) X.A (setItem (.ref l) (.ref sl) (.ref b)) Q X.xe s := by
  obtain ⟨ta, rfl⟩ := ra
  obtain ⟨tc, rfl⟩ := rc
  obtain ⟨z, its, n, r, hl, e⟩ := I.lstM hH
  obtain ⟨z2, its2, n2, r2, hl2, e2⟩ := I.lstM hB
  obtain ⟨a', rfl⟩ := Int.eq_ofNat_of_zero_le h0
  obtain ⟨c', rfl⟩ := Int.eq_ofNat_of_zero_le (Int.le_trans h0 hac)
  simp only [Int.toNat_natCast] at h
  refine setItem_slice (a := a') (c := c') e e2 hne hs (.int _ _) (.int _ _) (by omega) (by rw [List.size_toArray]; omega) (by rw [List.size_toArray, List.size_toArray]; omega) (h _ ?_)
  refine I.lset (its' := its.take a' ++ its2 ++ its.drop c') (t' := s.toks) hH e ?_ (Vals.append (Vals.append (r.take _) r2) (r.drop _)) ?_
  · exact splice_eq its its2 a' c'
  · rw [List.length_append, List.length_append, List.length_take, List.length_drop]
    omega
end
end L2

namespace L2
open PySem PySem.Spec PyProof.Rows

/-! ### lists of pairs as tables -/
section
variable {κ : Type} [DecidableEq κ]
def valV (kvs : List (κ × V)) (k : κ) : Option V := (kvs.find? fun kv => decide (kv.1 = k)).map (·.2)
/-- in its place, or at the end -/
def putK (kvs : List (κ × V)) (k : κ) (v : V) : List (κ × V) :=
  if (kvs.any fun kv => decide (kv.1 = k)) = true then kvs.map (fun kv => if kv.1 = k then (kv.1, v) else kv) else kvs ++ [(k, v)]
def dropK (kvs : List (κ × V)) (k : κ) : List (κ × V) := kvs.filter fun kv => decide (kv.1 ≠ k)

theorem valV_nil {k : κ} : valV ([] : List (κ × V)) k = none := rfl
theorem valV_pos {p : κ × V} {r : List (κ × V)} {k : κ} (e : p.1 = k) : valV (p :: r) k = some p.2 := by simp [valV, List.find?_cons, e]
theorem valV_neg {p : κ × V} {r : List (κ × V)} {k : κ} (e : ¬ p.1 = k) : valV (p :: r) k = valV r k := by simp [valV, List.find?_cons, e]
theorem valV_any (k : κ) : ∀ kvs : List (κ × V), (kvs.any fun kv => decide (kv.1 = k)) = (valV kvs k).isSome
  | [] => rfl
  | p :: r => by
    rw [List.any_cons]
    by_cases e : p.1 = k
    · simp only [valV_pos e, decide_eq_true e, Bool.true_or, Option.isSome_some]
    · rw [valV_neg e, decide_eq_false e, Bool.false_or]; exact valV_any k r
theorem valV_map (k j : κ) (y : V) : ∀ kvs : List (κ × V), valV (kvs.map fun kv => if kv.1 = k then (kv.1, y) else kv) j = (valV kvs j).map fun x => if j = k then y else x
  | [] => rfl
  | p :: r => by
    have ih := valV_map k j y r
    rw [List.map_cons]
    by_cases h : p.1 = k
    · rw [if_pos h]
      by_cases e : p.1 = j
      · rw [valV_pos (p := (p.1, y)) e, valV_pos e, Option.map_some, if_pos (e.symm.trans h)]
      · rw [valV_neg (p := (p.1, y)) e, valV_neg e, ih]
    · rw [if_neg h]
      by_cases e : p.1 = j
      · rw [valV_pos (p := p) e, valV_pos e, Option.map_some, if_neg (fun z => h (e.trans z))]
      · rw [valV_neg (p := p) e, valV_neg e, ih]
theorem valV_snoc (k j : κ) (y : V) : ∀ kvs : List (κ × V), valV kvs k = none → valV (kvs ++ [(k, y)]) j = if j = k then some y else valV kvs j
  | [], _ => by
    by_cases e : k = j
    · rw [if_pos e.symm]; exact valV_pos (p := (k, y)) e
    · rw [if_neg (fun z => e z.symm)]; exact valV_neg (p := (k, y)) e
  | p :: r, hn => by
    rw [List.cons_append]
    have hk : ¬ p.1 = k := fun z => by rw [valV_pos z] at hn; cases hn
    rw [valV_neg hk] at hn
    have ih := valV_snoc k j y r hn
    by_cases e : p.1 = j
    · rw [valV_pos e, valV_pos e, if_neg (fun z => hk (e.trans z))]
    · rw [valV_neg e, valV_neg e, ih]
theorem valV_put (kvs : List (κ × V)) (k j : κ) (y : V) : valV (putK kvs k y) j = if j = k then some y else valV kvs j := by
  unfold putK
  by_cases a : (kvs.any fun kv => decide (kv.1 = k)) = true
  · rw [if_pos a, valV_map]
    rw [valV_any] at a
    by_cases e : j = k
    · obtain ⟨x, hx⟩ := Option.isSome_iff_exists.mp a
      rw [if_pos e, e, hx, Option.map_some, if_pos rfl]
    · rw [if_neg e]
      cases valV kvs j with
      | none => rfl
      | some x => rw [Option.map_some, if_neg e]
  · rw [if_neg a]
    refine valV_snoc k j y kvs ?_
    rw [valV_any] at a
    cases q : valV kvs k with
    | none => rfl
    | some x => rw [q] at a; exact (a rfl).elim
theorem length_putK (kvs : List (κ × V)) (k : κ) (v : V) : (putK kvs k v).length ≤ kvs.length + 1 := by
  unfold putK
  split
  · rw [List.length_map]; omega
  · rw [List.length_append, List.length_cons, List.length_nil]; omega
theorem putK_new {kvs : List (κ × V)} {k : κ} (v : V) (h : valV kvs k = none) : putK kvs k v = kvs ++ [(k, v)] := by
  unfold putK
  rw [valV_any, h]
  exact if_neg (by decide)

theorem RelO.isSome_eq {o : Option V} {u : Option Value} (r : RelO o u) : o.isSome = u.isSome := by
  cases o with
  | none => cases u with
    | none => rfl
    | some _ => exact (show False from r).elim
  | some _ => cases u with
    | none => exact (show False from r).elim
    | some _ => rfl
theorem RelO.getD {o : Option V} {u : Option Value} {d : V} {d' : Value} (r : RelO o u) (rd : RelV d d') : RelV (o.getD d) (u.getD d') := by
  cases o with
  | none => cases u with
    | none => exact rd
    | some _ => exact (show False from r).elim
  | some _ => cases u with
    | none => exact (show False from r).elim
    | some _ => exact r

/-- raw tables of the same keys -/
theorem KV.val {kvs : List (κ × V)} {vs : List (κ × Value)} (r : KV kvs vs) (k : κ) : RelO (valV kvs k) (valueAt vs k) := by
  unfold KV at r
  induction r with
  | nil => exact True.intro
  | @cons p q ps qs h t ih =>
    obtain ⟨h1, h2⟩ := h
    by_cases e : p.1 = k
    · have e' : q.1 = k := h1.symm.trans e
      have b : valueAt (q :: qs) k = some q.2 := by simp [valueAt, List.find?_cons, e']
      rw [valV_pos e, b]; exact h2
    · have e' : ¬ q.1 = k := fun z => e (h1.trans z)
      have b : valueAt (q :: qs) k = valueAt qs k := by simp [valueAt, List.find?_cons, e']
      rw [valV_neg e, b]; exact ih
theorem KV.any {kvs : List (κ × V)} {vs : List (κ × Value)} (r : KV kvs vs) (k : κ) : (kvs.any fun kv => decide (kv.1 = k)) = vs.any fun kv => decide (kv.1 = k) := by
  unfold KV at r
  induction r with
  | nil => rfl
  | cons h t ih => rw [List.any_cons, List.any_cons, ih, h.1]
theorem KV.repl {kvs : List (κ × V)} {vs : List (κ × Value)} (r : KV kvs vs) (k : κ) {y : V} {u : Value} (ry : RelV y u) :
    KV (kvs.map fun kv => if kv.1 = k then (kv.1, y) else kv) (vs.map fun kv => if kv.1 = k then (kv.1, u) else kv) := by
  unfold KV at r ⊢
  induction r with
  | nil => exact .nil
  | @cons p q ps qs h t ih =>
    rw [List.map_cons, List.map_cons]
    refine .cons ?_ ih
    obtain ⟨h1, h2⟩ := h
    by_cases e : p.1 = k
    · rw [if_pos e, if_pos (h1.symm.trans e)]; exact ⟨h1, ry⟩
    · rw [if_neg e, if_neg (fun z => e (h1.trans z))]; exact ⟨h1, h2⟩
theorem KV.put {kvs : List (κ × V)} {vs : List (κ × Value)} (r : KV kvs vs) (k : κ) {y : V} {u : Value} (ry : RelV y u) : KV (putK kvs k y) (stored vs k u) := by
  unfold putK stored
  rw [r.any k]
  by_cases e : (vs.any fun kv => decide (kv.1 = k)) = true
  · rw [if_pos e, if_pos e]; exact r.repl k ry
  · rw [if_neg e, if_neg e]; exact Paired.snoc r ⟨rfl, ry⟩
theorem KV.drop {kvs : List (κ × V)} {vs : List (κ × Value)} (r : KV kvs vs) (k : κ) : KV (dropK kvs k) (without vs k) := by
  unfold KV at r ⊢
  unfold dropK without
  induction r with
  | nil => exact .nil
  | @cons p q ps qs h t ih =>
    obtain ⟨h1, h2⟩ := h
    rw [List.filter_cons, List.filter_cons]
    by_cases e : p.1 = k
    · have a : ¬ decide (p.1 ≠ k) = true := by simp [e]
      have b : ¬ decide (q.1 ≠ k) = true := by simp [h1.symm.trans e]
      rw [if_neg a, if_neg b]; exact ih
    · have e' : ¬ q.1 = k := fun z => e (h1.trans z)
      have a : decide (p.1 ≠ k) = true := by simp [e]
      have b : decide (q.1 ≠ k) = true := by simp [e']
      rw [if_pos a, if_pos b]; exact .cons ⟨h1, h2⟩ ih
theorem KV.keys {kvs : List (κ × V)} {vs : List (κ × Value)} (r : KV kvs vs) : kvs.map (·.1) = vs.map (·.1) := by
  unfold KV at r
  induction r with
  | nil => rfl
  | cons h t ih => rw [List.map_cons, List.map_cons, ih, h.1]
theorem KV.length {kvs : List (κ × V)} {vs : List (κ × Value)} (r : KV kvs vs) : kvs.length = vs.length := Paired.length r
theorem dropK_le (kvs : List (κ × V)) (k : κ) : (dropK kvs k).length ≤ kvs.length := List.length_filter_le _ _
end


/-! ### a tracked dict, its keys ints and texts or tuples of these -/
theorem kV_is {P : Program} {w : World} {k : Key} {u : Value} (r : RelV (kV k) u) : (mixKind P w).is k u = true := by
  cases k with
  | inl i => obtain ⟨t, e⟩ := (show ∃ t, u = Value.int i t from r); subst e; exact mixKind_int P w i t
  | inr x => obtain ⟨t, e⟩ := (show ∃ t, u = Value.str x t from r); subst e; exact mixKind_str P w x t
theorem kV_inj {a b : Key} (e : kV a = kV b) : a = b := by
  cases a with
  | inl i => cases b with
    | inl j => have e' : V.int i = V.int j := e; injection e' with e'; rw [e']
    | inr y => exact nomatch (show V.int i = V.str y from e)
  | inr x => cases b with
    | inl j => exact nomatch (show V.str x = V.int j from e)
    | inr y => have e' : V.str x = V.str y := e; injection e' with e'; rw [e']
theorem kVs_inj : ∀ {a b : List Key}, a.map kV = b.map kV → a = b
  | [], [], _ => rfl
  | [], _ :: _, e => by simp at e
  | _ :: _, [], e => by simp at e
  | x :: xs, y :: ys, e => by
    rw [List.map_cons, List.map_cons] at e
    injection e with e1 e2
    rw [kV_inj e1, kVs_inj e2]
theorem items_are {P : Program} {w : World} : ∀ {ks : List Key} {us : List Value}, Vals (ks.map kV) us → ItemsAre (mixKind P w) ks us
  | [], _, r => by rw [List.map_nil] at r; cases r; exact .nil
  | k :: ks, _, r => by
    rw [List.map_cons] at r
    cases r with
    | cons h t => exact .cons (kV_is h) (items_are t)

/-- raw entries of a dict with tuple keys -/
abbrev KT (H : Hp) : List (List Key × V) → List (List Key × Addr × Value) → Prop := Paired fun p q => p.1 = q.1 ∧ H q.2.1 = some (.tup (p.1.map kV)) ∧ RelV p.2 q.2.2
theorem KT.val {H : Hp} {kvs : List (List Key × V)} {xs : List (List Key × Addr × Value)} (r : KT H kvs xs) (k : List Key) : RelO (valV kvs k) ((atKey xs k).map (·.2)) := by
  induction r with
  | nil => exact True.intro
  | @cons p q ps qs h t ih =>
    obtain ⟨h1, _, h2⟩ := h
    by_cases e : p.1 = k
    · have e' : q.1 = k := h1.symm.trans e
      have b : atKey (q :: qs) k = some q.2 := by simp [atKey, List.find?_cons, e']
      rw [valV_pos e, b]; exact h2
    · have e' : ¬ q.1 = k := fun z => e (h1.trans z)
      have b : atKey (q :: qs) k = atKey qs k := by simp [atKey, List.find?_cons, e']
      rw [valV_neg e, b]; exact ih
theorem KT.repl {H : Hp} {kvs : List (List Key × V)} {xs : List (List Key × Addr × Value)} (r : KT H kvs xs) (k : List Key) {y : V} {u : Value} (ry : RelV y u) :
    KT H (kvs.map fun kv => if kv.1 = k then (kv.1, y) else kv) (xs.map (putAt k u)) := by
  induction r with
  | nil => exact .nil
  | @cons p q ps qs h t ih =>
    rw [List.map_cons, List.map_cons]
    refine .cons ?_ ih
    obtain ⟨h1, h2, h3⟩ := h
    unfold putAt
    by_cases e : p.1 = k
    · rw [if_pos e, if_pos (h1.symm.trans e)]; exact ⟨h1, h2, ry⟩
    · rw [if_neg e, if_neg (fun z => e (h1.trans z))]; exact ⟨h1, h2, h3⟩
theorem KT.put {H : Hp} {kvs : List (List Key × V)} {xs : List (List Key × Addr × Value)} (r : KT H kvs xs) (k : List Key) {b : Addr} {y : V} {u : Value} (hb : H b = some (.tup (k.map kV))) (ry : RelV y u) :
    KT H (putK kvs k y) (storedH xs k b u) := by
  have e : (kvs.any fun kv => decide (kv.1 = k)) = (atKey xs k).isSome := by
    rw [valV_any, (r.val k).isSome_eq, Option.isSome_map]
  unfold putK storedH
  rw [e]
  by_cases q : (atKey xs k).isSome = true
  · rw [if_pos q, if_pos q]; exact r.repl k ry
  · rw [if_neg q, if_neg q]; exact Paired.snoc r ⟨rfl, hb, ry⟩
theorem KT.keeps {H H' : Hp} {kvs : List (List Key × V)} {xs : List (List Key × Addr × Value)} (r : KT H kvs xs) (ht : ∀ b ys, H b = some (.tup ys) → H' b = some (.tup ys)) : KT H' kvs xs :=
  Paired.mapP r fun _ _ z => ⟨z.1, ht _ _ z.2.1, z.2.2⟩

section
variable {P : Program} {w : World} {H : Hp} {h : Heap} {a : Addr}
theorem rd_of {u : HO} (ok : HOk P w H h) (e : Rd H a u) : ObjOk P w H h a u := e.ok ok
theorem dk_rd {kvs : List (Key × V)} (ok : HOk P w H h) (e : Rd H a (.dK kvs)) : kvs.length ≤ sizeLine ∧ (a == sysModules) = false ∧ ∃ vs, KV kvs vs ∧ h.DictOf (mixKind P w) a vs :=
  show ObjOk P w H h a (.dK kvs) from rd_of ok e
theorem dk_of {kvs : List (Key × V)} (ok : HOk P w H h) (e : H a = some (.dK kvs)) : kvs.length ≤ sizeLine ∧ (a == sysModules) = false ∧ ∃ vs, KV kvs vs ∧ h.DictOf (mixKind P w) a vs := dk_rd ok (.inl e)
/-- a tracked tuple of ints and texts is a key -/
theorem key_of {ks : List Key} (ok : HOk P w H h) (e : H a = some (.tup (ks.map kV))) : (tupleKind (mixKind P w)).is h ks a := by
  obtain ⟨_, its, r, o, h1, h2, n, h3⟩ := (show ObjOk P w H h a (.tup (ks.map kV)) from ok a _ e)
  exact ⟨o, its.toArray, n, h1, h2, h3, by simpa using items_are r⟩
theorem dt_rd {kvs : List (List Key × V)} (ok : HOk P w H h) (e : Rd H a (.dT kvs)) : kvs.length ≤ sizeLine ∧ (a == sysModules) = false ∧
    ∃ xs, KT H kvs xs ∧ h.DictOfH (tupleKind (mixKind P w)) a xs := by
  obtain ⟨z, y, xs, r, o, es, ep, h1, h2, h3, h4, h5⟩ := (show ObjOk P w H h a (.dT kvs) from rd_of ok e)
  refine ⟨z, y, xs, r, o, es, ep, h1, h2, h3, h4, fun x hx => ?_, h5⟩
  have all : ∀ {l : List (List Key × V)} {m : List (List Key × Addr × Value)}, KT H l m → ∀ x ∈ m, (tupleKind (mixKind P w)).is h x.1 x.2.1 := by
    intro l m q
    induction q with
    | nil => intro x hx; exact nomatch hx
    | @cons p q ps qs hq t ih =>
      intro x hx
      rcases List.mem_cons.mp hx with e | hx
      · subst e
        exact key_of ok (by rw [← hq.1]; exact hq.2.1)
      · exact ih x hx
  exact all r x hx
theorem dt_of {kvs : List (List Key × V)} (ok : HOk P w H h) (e : H a = some (.dT kvs)) : kvs.length ≤ sizeLine ∧ (a == sysModules) = false ∧
    ∃ xs, KT H kvs xs ∧ h.DictOfH (tupleKind (mixKind P w)) a xs := dt_rd ok (.inl e)
end

/-- what the dict at a holds at the key y -/
def DGet (H : Hp) (a : Addr) (y : V) (r : Option V) : Prop :=
  (∃ kvs k, Rd H a (.dK kvs) ∧ y = kV k ∧ r = valV kvs k) ∨ ∃ kvs k b, Rd H a (.dT kvs) ∧ y = .ref b ∧ H b = some (.tup (k.map kV)) ∧ r = valV kvs k
/-- the heap behind a[y] = v -/
def DPut (H : Hp) (a : Addr) (y v : V) (H' : Hp) : Prop :=
  (∃ kvs k, H a = some (.dK kvs) ∧ y = kV k ∧ kvs.length < sizeLine ∧ H' = upd H a (.dK (putK kvs k v))) ∨
  ∃ kvs k b, H a = some (.dT kvs) ∧ y = .ref b ∧ H b = some (.tup (k.map kV)) ∧ kvs.length < sizeLine ∧ H' = upd H a (.dT (putK kvs k v))
theorem DGet.k {H : Hp} {a : Addr} {kvs : List (Key × V)} {k : Key} (e : H a = some (.dK kvs)) : DGet H a (kV k) (valV kvs k) := .inl ⟨kvs, k, .inl e, rfl, rfl⟩
theorem DGet.t {H : Hp} {a b : Addr} {kvs : List (List Key × V)} {k : List Key} (e : H a = some (.dT kvs)) (eb : H b = some (.tup (k.map kV))) : DGet H a (.ref b) (valV kvs k) := .inr ⟨kvs, k, b, .inl e, rfl, eb, rfl⟩
theorem DPut.k {H : Hp} {a : Addr} {kvs : List (Key × V)} {k : Key} {v : V} (e : H a = some (.dK kvs)) (hl : kvs.length < sizeLine) : DPut H a (kV k) v (upd H a (.dK (putK kvs k v))) := .inl ⟨kvs, k, e, rfl, hl, rfl⟩
theorem DPut.t {H : Hp} {a b : Addr} {kvs : List (List Key × V)} {k : List Key} {v : V} (e : H a = some (.dT kvs)) (eb : H b = some (.tup (k.map kV))) (hl : kvs.length < sizeLine) :
    DPut H a (.ref b) v (upd H a (.dT (putK kvs k v))) := .inr ⟨kvs, k, b, e, rfl, eb, hl, rfl⟩


section
variable {X : Cx} {pins : List (Addr × Obj)} {σ : St} {H : Hp} {s : Shared} {a : Addr} {y v : V} {u r : Value} {o : Option V} {A : Around} {E : Value → Shared → Prop}

theorem Inv.big (I : Inv X pins σ H s) : sysModules < s.heap.objs.size := by
  have h : mainGlobals < s.heap.objs.size := (I.mod.glob.keeps I.bk).lt
  exact Nat.lt_trans (by decide) h

/-- d[y], there -/
theorem d_getItem {Q : Value → Shared → Prop} (hu : A.units + 1 < cLine) (I : Inv X pins σ H s) (g : DGet H a y (some v)) (ry : RelV y u) (h : ∀ w' s', Inv X pins σ H s' → RelV v w' → Q w' s') :
    wpAny (model X.prog X.w) A (getItem (.ref a) u) Q E s := by
  rcases g with ⟨kvs, k, e, ey, l⟩ | ⟨kvs, k, b, e, ey, eb, l⟩
  · subst ey
    obtain ⟨z, hd, vs, rel, dd⟩ := dk_rd I.hok e
    obtain ⟨w', hw, rw'⟩ := RelO.some_of (v := v) (o := valueAt vs k) (by rw [l]; exact rel.val k)
    exact wpAny_getItem_of (kV_is ry) dd.mapOf hw (h w' _ (I.tok _) rw')
  · subst ey
    cases (show u = Value.ref b from ry)
    obtain ⟨z, hd, xs, rel, dd⟩ := dt_rd I.hok e
    obtain ⟨w', hw, rw'⟩ := RelO.some_of (v := v) (o := (atKey xs k).map (·.2)) (by rw [l]; exact rel.val k)
    obtain ⟨p, hp, hp2⟩ := Option.map_eq_some_iff.mp hw
    refine wpAny_getItem_heap (tupleKind_room_in1 hu) (key_of I.hok eb) dd hp ?_
    rw [hp2]
    exact h w' _ (I.tok _) rw'
/-- y in d -/
theorem d_in {Q : Value → Shared → Prop} (hu : A.units + 1 < cLine) (I : Inv X pins σ H s) (g : DGet H a y o) (ry : RelV y u) (h : ∀ s', Inv X pins σ H s' → Q (.bool o.isSome) s') :
    wpAny (model X.prog X.w) A (compareOp .In u (.ref a)) Q E s := by
  rcases g with ⟨kvs, k, e, ey, l⟩ | ⟨kvs, k, b, e, ey, eb, l⟩
  · subst ey
    obtain ⟨z, hd, vs, rel, dd⟩ := dk_rd I.hok e
    refine wpAny_in_of (kV_is ry) hd dd.mapOf ?_
    rw [← (rel.val k).isSome_eq, ← l]
    exact h _ (I.tok _)
  · subst ey
    cases (show u = Value.ref b from ry)
    obtain ⟨z, hd, xs, rel, dd⟩ := dt_rd I.hok e
    refine wpAny_in_heap (tupleKind_room_in1 hu) (key_of I.hok eb) hd dd ?_
    have q := (rel.val k).isSome_eq
    rw [Option.isSome_map] at q
    rw [← q, ← l]
    exact h _ (I.tok _)
theorem d_notIn {Q : Value → Shared → Prop} (hu : A.units + 1 < cLine) (I : Inv X pins σ H s) (g : DGet H a y o) (ry : RelV y u) (h : ∀ s', Inv X pins σ H s' → Q (.bool (!o.isSome)) s') :
    wpAny (model X.prog X.w) A (compareOp .NotIn u (.ref a)) Q E s := by
  rcases g with ⟨kvs, k, e, ey, l⟩ | ⟨kvs, k, b, e, ey, eb, l⟩
  · subst ey
    obtain ⟨z, hd, vs, rel, dd⟩ := dk_rd I.hok e
    refine wpAny_notIn_of (kV_is ry) hd dd.mapOf ?_
    rw [← (rel.val k).isSome_eq, ← l]
    exact h _ (I.tok _)
  · subst ey
    cases (show u = Value.ref b from ry)
    obtain ⟨z, hd, xs, rel, dd⟩ := dt_rd I.hok e
    refine wpAny_notIn_heap (tupleKind_room_in1 hu) (key_of I.hok eb) hd dd ?_
    have q := (rel.val k).isSome_eq
    rw [Option.isSome_map] at q
    rw [← q, ← l]
    exact h _ (I.tok _)
/-- a dict's object is replaced -/
theorem d_write {h' : Heap} {t' : Nat} {ob : HO} (I : Inv X pins σ H s) (mu : Mut (H a)) (hs : Heap.SameBut a s.heap h') (he : ∃ q, h'.get? a = some q) (new : ObjOk X.prog X.w (upd H a ob) h' a ob) :
    Inv X pins σ (upd H a ob) { s with heap := h', toks := t' } :=
  I.write (x := a) (e := a) mu (.inl rfl) (fun b q hb z => (hs.2 b hb).trans z) he new
theorem dk_new {P : Program} {w : World} {H' : Hp} {h' : Heap} {kvs : List (Key × V)} {vs : List (Key × Value)} (z : kvs.length ≤ sizeLine) (hd : (a == sysModules) = false) (rel : KV kvs vs) (dd : h'.DictOf (mixKind P w) a vs) :
    ObjOk P w H' h' a (.dK kvs) := ⟨z, hd, vs, rel, dd⟩
/-- d[y] = v -/
theorem d_setItem {H' : Hp} {Q : Unit → Shared → Prop} (hu : A.units + 1 < cLine) (I : Inv X pins σ H s) (g : DPut H a y v H') (ry : RelV y u) (rv : RelV v r) (h : ∀ s', Inv X pins σ H' s' → Q () s') :
    wpAny (model X.prog X.w) A (setItem (.ref a) u r) Q E s := by
  rcases g with ⟨kvs, k, e, ey, l, eH⟩ | ⟨kvs, k, b, e, ey, eb, l, eH⟩
  · subst ey eH
    obtain ⟨z, hd, vs, rel, dd⟩ := dk_of I.hok e
    have hz : vs.length ≤ sizeLine := by rw [← rel.length]; exact z
    have hl : (putK kvs k v).length ≤ sizeLine := by have := length_putK kvs k v; omega
    refine wpAny_setItem_pairs (hsz := hz) (kV_is ry) dd fun h' dd' hs => h _ ?_
    have he : ∃ q, h'.get? a = some q := let ⟨q, _, _, hq, _⟩ := dd'; ⟨q, hq⟩
    exact d_write I (by rw [e]; exact True.intro) hs he (dk_new hl hd (rel.put k rv) dd')
  · subst ey eH
    cases (show u = Value.ref b from ry)
    obtain ⟨z, hd, xs, rel, dd⟩ := dt_of I.hok e
    have hz : xs.length ≤ sizeLine := by rw [← Paired.length rel]; exact z
    have hl : (putK kvs k v).length ≤ sizeLine := by have := length_putK kvs k v; omega
    refine wpAny_setItem_heap (hsz := hz) (tupleKind_room_in1 hu) (key_of I.hok eb) dd fun h' dd' hs => h _ ?_
    obtain ⟨q, es, ep, hq, h2, h3, h4, _, h5⟩ := dd'
    refine d_write I (by rw [e]; exact True.intro) hs ⟨q, hq⟩ ⟨hl, hd, _, (rel.put k eb rv).keeps fun c ys ec => ?_, q, es, ep, hq, h2, h3, h4, h5⟩
    rw [upd_ne (ne_of ec e (fun z => nomatch z))]
    exact ec
end

section
variable {X : Cx} {pins : List (Addr × Obj)} {σ : St} {H : Hp} {s : Shared} {a : Addr} {kvs : List (Key × V)} {k : Key} {u : Value} {A : Around} {E : Value → Shared → Prop}
/-- del d[k] -/
theorem d_delItem {Q : Unit → Shared → Prop} (I : Inv X pins σ H s) (e : H a = some (.dK kvs)) (ry : RelV (kV k) u) (l : (valV kvs k).isSome = true) (h : ∀ s', Inv X pins σ (upd H a (.dK (dropK kvs k))) s' → Q () s') :
    wpAny (model X.prog X.w) A (delItem (.ref a) u) Q E s := by
  obtain ⟨z, hd, vs, rel, dd⟩ := dk_of I.hok e
  refine wpAny_delItem_slot dd.typeIs (by decide) PySem.F.slot_dict_delitem
    (call_meetsIn PySem.F.slot_dict_delitem dd.typeIs PySem.F.entry_dict_delitem (PySem.F.args_dict_delitem_2 _ _) (meets_dict_delitem_pairs (mixKind X.prog X.w) a (kV_is ry)) ⟨vs, dd, by rw [← rel.length]; exact z, by rw [← (rel.val k).isSome_eq]; exact l, fun h' dd' hs => h _ ?_⟩)
  have he : ∃ q, h'.get? a = some q := let ⟨q, _, _, hq, _⟩ := dd'; ⟨q, hq⟩
  exact d_write I (by rw [e]; exact True.intro) hs he (dk_new (Nat.le_trans (dropK_le kvs k) z) hd (rel.drop k) dd')
/-- d.pop(k[, x]), there -/
theorem d_pop {v : V} {more : List Value} {Q : Value → Shared → Prop} (I : Inv X pins σ H s) (e : H a = some (.dK kvs)) (ry : RelV (kV k) u) (l : valV kvs k = some v) (hm : more = [] ∨ ∃ x, more = [x])
    (h : ∀ w' s', Inv X pins σ (upd H a (.dK (dropK kvs k))) s' → RelV v w' → Q w' s') : wpAny (model X.prog X.w) A (call (.builtin "dict.pop") (.ref a :: u :: more)) Q E s := by
  obtain ⟨z, hd, vs, rel, dd⟩ := dk_of I.hok e
  obtain ⟨w', hw, rw'⟩ := RelO.some_of (v := v) (o := valueAt vs k) (by rw [← l]; exact rel.val k)
  have hp : (keyPart u).isSome = true := by
    cases k with
    | inl i => obtain ⟨t, q⟩ := (show ∃ t, u = Value.int i t from ry); subst q; rfl
    | inr x => obtain ⟨t, q⟩ := (show ∃ t, u = Value.str x t from ry); subst q; rfl
  have ha : argsOk "dict.pop" ⟨.ref a :: u :: more, []⟩ := by
    rcases hm with q | ⟨x, q⟩
    · subst q; exact PySem.F.args_dict_pop_2 _ _
    · subst q; exact PySem.F.args_dict_pop_3 _ _ _
  refine call_meetsIn PySem.F.slot_dict_pop dd.typeIs PySem.F.entry_dict_pop ha (meets_dict_pop_there (mixKind X.prog X.w) a (kV_is ry) more hm hp)
    ⟨vs, w', dd, by rw [← rel.length]; exact z, hw, fun h' dd' hs => h w' _ ?_ rw'⟩
  have he : ∃ q, h'.get? a = some q := let ⟨q, _, _, hq, _⟩ := dd'; ⟨q, hq⟩
  exact d_write I (by rw [e]; exact True.intro) hs he (dk_new (Nat.le_trans (dropK_le kvs k) z) hd (rel.drop k) dd')
/-- d.pop(k, x), not there -/
theorem d_popD {r : Value} {Q : Value → Shared → Prop} (I : Inv X pins σ H s) (e : H a = some (.dK kvs)) (ry : RelV (kV k) u) (l : valV kvs k = none) (h : ∀ s', Inv X pins σ H s' → Q r s') :
    wpAny (model X.prog X.w) A (call (.builtin "dict.pop") [.ref a, u, r]) Q E s := by
  obtain ⟨z, hd, vs, rel, dd⟩ := dk_of I.hok e
  have hn : valueAt vs k = none := RelO.none_of (by rw [← l]; exact rel.val k)
  have hp : (keyPart u).isSome = true := by
    cases k with
    | inl i => obtain ⟨t, q⟩ := (show ∃ t, u = Value.int i t from ry); subst q; rfl
    | inr x => obtain ⟨t, q⟩ := (show ∃ t, u = Value.str x t from ry); subst q; rfl
  exact call_meetsIn PySem.F.slot_dict_pop dd.typeIs PySem.F.entry_dict_pop (PySem.F.args_dict_pop_3 _ _ _) (meets_dict_pop_default (mixKind X.prog X.w) a (kV_is ry) hd hp r) ⟨vs, dd, hn, h _ (I.tok _)⟩
/-- d.clear() -/
theorem d_clear {Q : Value → Shared → Prop} (I : Inv X pins σ H s) (e : H a = some (.dK kvs)) (h : ∀ s', Inv X pins σ (upd H a (.dK [])) s' → Q .none s') : wpAny (model X.prog X.w) A (call (.builtin "dict.clear") [.ref a]) Q E s := by
  obtain ⟨z, hd, vs, rel, dd⟩ := dk_of I.hok e
  refine call_meetsIn PySem.F.slot_dict_clear dd.typeIs PySem.F.entry_dict_clear (PySem.F.args_dict_clear_1 _) (meets_dict_clear (mixKind X.prog X.w) a) ⟨vs, dd, by rw [← rel.length]; exact z, fun h' dd' hs => h _ ?_⟩
  have he : ∃ q, h'.get? a = some q := let ⟨q, _, _, hq, _⟩ := dd'; ⟨q, hq⟩
  exact d_write (t' := s.toks) I (by rw [e]; exact True.intro) hs he (dk_new (Nat.zero_le _) hd .nil dd')
/-- len(d) -/
theorem d_len {Q : Value → Shared → Prop} (I : Inv X pins σ H s) (e : Rd H a (.dK kvs)) (h : ∀ t s', Inv X pins σ H s' → Q (.int kvs.length t) s') : wpAny (model X.prog X.w) A (call (.builtin "len") [.ref a]) Q E s := by
  obtain ⟨z, hd, vs, rel, dd⟩ := dk_rd I.hok e
  refine call_len_dict hd dd (by rw [← rel.length]; rw [sizeLine_eq] at z; omega) ?_
  rw [← rel.length]
  exact h _ _ (I.tok _)
/-- if d -/
theorem d_truth {Q : Bool → Shared → Prop} (I : Inv X pins σ H s) (e : Rd H a (.dK kvs)) (h : ∀ s', Inv X pins σ H s' → Q (!kvs.isEmpty) s') : wpAny (model X.prog X.w) A (truthy (.ref a)) Q E s := by
  obtain ⟨z, hd, vs, rel, dd⟩ := dk_rd I.hok e
  refine wpAny_truthy_dict hd dd (by rw [← rel.length]; rw [sizeLine_eq] at z; omega) ?_
  have q : kvs.isEmpty = vs.isEmpty := by cases rel <;> rfl
  rw [← q]
  exact h _ (I.tok _)
end


/-! ### readings and rules -/
/-- the element of a subscription, not a slice -/
def NoSl (i : Expr) : Prop := ∀ ov iv, subscripted i false ov iv = operate [ov, iv] (getItem ov iv)
theorem subD_of {prog : Program} {w : World} {A : Around} {E : Value → Shared → Prop} {s : Shared} {env : Env} {value slice : Expr} {pos : Pos} {T id : String} {Q : Value → Shared → Prop}
    (hl : typeLookup (.type T) "__getitem__" = pure (some (.builtin id))) (hs : NoSl slice)
    (h : wpAny (model prog w) A (eval value env) (fun o s₁ => wpAny (model prog w) A (eval slice env) (fun i s₂ => s₂.TypeIs o T ∧ wpAny (model prog w) A (getItem o i) Q E s₂) E s₁) E s) :
    wpAny (model prog w) A (eval (.Subscript value slice pos) env) Q E s := by
  refine Subscript_ (wpAny_mono h (fun o s₁ h₁ => wpAny_mono h₁ (fun i s₂ h₂ => ?_) fun _ _ x => x) fun _ _ x => x)
  obtain ⟨hT, h₂⟩ := h₂
  unfold subscriptTail
  refine wpAny_bind ?_
  rw [getitemInPython_of_ne hT.not_modules]
  refine wpAny_bind (wpAny_specialOf hT hl ?_)
  have fin : wpAny (model prog w) A (subscripted slice false o i) (fun r s₃ => wpAny (model prog w) A (letTemporaryGo value o r >>= fun _ => pure r) Q E s₃) E s₂ := by
    rw [hs o i]
    exact wpAny_operating (wpAny_mono h₂ (fun r s₃ h₃ => wpAny_bind (wpAny_letTemporaryGo (wpAny_pure h₃))) fun _ _ x => x)
  first
    | exact wpAny_pure (wpAny_bind fin)
    | exact wpAny_bind (wpAny_pure (wpAny_bind fin))
    | exact wpAny_bind fin

theorem dict_typeIs {X : Cx} {pins : List (Addr × Obj)} {σ : St} {H : Hp} {s : Shared} {a : Addr} {y : V} {o : Option V} (I : Inv X pins σ H s) (g : DGet H a y o) : s.TypeIs (.ref a) "dict" := by
  rcases g with ⟨kvs, k, e, _, _⟩ | ⟨kvs, k, b, e, _, _, _⟩
  · obtain ⟨_, _, vs, _, dd⟩ := dk_rd I.hok e
    exact dd.typeIs
  · obtain ⟨_, _, xs, _, dd⟩ := dt_rd I.hok e
    exact dd.typeIs
theorem dict_noDict {X : Cx} {pins : List (Addr × Obj)} {σ : St} {H : Hp} {s : Shared} {a : Addr} {y : V} {o : Option V} (I : Inv X pins σ H s) (g : DGet H a y o) :
    ∀ b, Value.ref a = .ref b → ∃ ob, s.heap.get? b = some ob ∧ ob.dict = none := fun b q => by
  cases q
  rcases g with ⟨kvs, k, e, _, _⟩ | ⟨kvs, k, b, e, _, _, _⟩
  · obtain ⟨_, _, vs, _, ob, _, _, h1, h2, _⟩ := dk_rd I.hok e
    exact ⟨ob, h1, h2.2.1⟩
  · obtain ⟨_, _, xs, _, ob, _, _, h1, h2, _⟩ := dt_rd I.hok e
    exact ⟨ob, h1, h2.2.1⟩

/-- d[y] -/
def tDGet (td ty : TE) : TE := fun σ H Q => td σ H fun x H1 => ty σ H1 fun y H2 => ∃ a v, x = .ref a ∧ DGet H2 a y (some v) ∧ Q v H2
/-- y in d, y not in d -/
def tDIn (ty td : TE) : TE := fun σ H Q => ty σ H fun y H1 => td σ H1 fun x H2 => ∃ a o, x = .ref a ∧ DGet H2 a y o ∧ Q (.bl o.isSome) H2
def tDNotIn (ty td : TE) : TE := fun σ H Q => ty σ H fun y H1 => td σ H1 fun x H2 => ∃ a o, x = .ref a ∧ DGet H2 a y o ∧ Q (.bl (!o.isSome)) H2
/-- d[y] = v -/
def sDPut (td ty tv : TE) : TS := fun D σ H => tv σ H fun v H1 => td σ H1 fun x H2 => ty σ H2 fun y H3 => ∃ a H4, x = .ref a ∧ DPut H3 a y v H4 ∧ D.nx σ H4
/-- d[y] op= v -/
def sDAug (td ty tv : TE) (rd : V → V → Hp → VK → Prop) : TS := fun D σ H => td σ H fun x H1 => ty σ H1 fun y H2 => ∃ a v, x = .ref a ∧ DGet H2 a y (some v) ∧
  tv σ H2 fun y2 H3 => rd v y2 H3 fun z H4 => ∃ H5, DPut H4 a y z H5 ∧ D.nx σ H5
/-- del d[y] -/
def sDDel (td ty : TE) : TS := fun D σ H => td σ H fun x H1 => ty σ H1 fun y H2 => ∃ a kvs k, x = .ref a ∧ H2 a = some (.dK kvs) ∧ y = kV k ∧ (valV kvs k).isSome = true ∧ D.nx σ (upd H2 a (.dK (dropK kvs k)))

section
variable {X : Cx} {o i e value : Expr} {pos pos' tpos : Pos} {td ty tv : TE}
theorem pe_dget (hu : X.A.units + 1 < cLine) (ho : PE X o td) (hi : PE X i ty) (hs : NoSl i) : PE X (.Subscript o i pos) (tDGet td ty) := by
  intro pins s σ H Q I h
  refine subD_of PySem.F.slot_dict_getitem.lookup hs (thn (ho pins s σ H _ I h) fun u s1 ⟨x, H1, I1, rx, q1⟩ => thn (hi pins s1 σ H1 _ I1 q1) fun iv s2 ⟨y, H2, I2, ry, a, v, ex, g, q2⟩ => ?_)
  subst ex
  obtain rfl : u = Value.ref a := rx
  exact ⟨dict_typeIs I2 g, d_getItem hu I2 g ry fun w' s3 I3 rw' => ⟨v, H2, I3, rw', q2⟩⟩
theorem pc_din (hu : X.A.units + 1 < cLine) (hi : PE X i ty) (ho : PE X o td) : PC X .In i o (tDIn ty td) := by
  intro pins s σ H Q I h
  refine thn (hi pins s σ H _ I h) fun iv s1 ⟨y, H1, I1, ry, q1⟩ => thn (ho pins s1 σ H1 _ I1 q1) fun u s2 ⟨x, H2, I2, rx, a, ov, ex, g, q2⟩ => ?_
  subst ex
  obtain rfl : u = Value.ref a := rx
  exact d_in hu I2 g ry fun s3 I3 => ⟨.bl ov.isSome, H2, I3, rfl, q2⟩
theorem pc_dnotin (hu : X.A.units + 1 < cLine) (hi : PE X i ty) (ho : PE X o td) : PC X .NotIn i o (tDNotIn ty td) := by
  intro pins s σ H Q I h
  refine thn (hi pins s σ H _ I h) fun iv s1 ⟨y, H1, I1, ry, q1⟩ => thn (ho pins s1 σ H1 _ I1 q1) fun u s2 ⟨x, H2, I2, rx, a, ov, ex, g, q2⟩ => ?_
  subst ex
  obtain rfl : u = Value.ref a := rx
  exact d_notIn hu I2 g ry fun s3 I3 => ⟨.bl (!ov.isSome), H2, I3, rfl, q2⟩
theorem ps_dput (hu : X.A.units + 1 < cLine) (ho : PE X o td) (hi : PE X i ty) (hv : PE X value tv) (hs : swapsWith value (some (.Subscript o i pos')) pos.line X.env = pure false) :
    PS X (.Assign [.Subscript o i pos'] value pos) (sDPut td ty tv) := by
  intro pins s σ H D I h
  refine wpAny_Assign_Subscript (thn (hv pins s σ H _ I h) fun r s1 ⟨v, H1, I1, rv, q1⟩ => thn (ho pins s1 σ H1 _ I1 q1) fun u s2 ⟨x, H2, I2, rx, q2⟩ => thn (hi pins s2 σ H2 _ I2 q2) fun iv s3 ⟨y, H3, I3, ry, a, H4, ex, g, q3⟩ => ?_) hs
  subst ex
  obtain rfl : u = Value.ref a := rx
  exact d_setItem hu I3 g ry rv fun s4 I4 => ⟨σ, H4, I4, q3⟩
theorem ps_daug {op : Operator} {rd : V → V → Hp → VK → Prop} (hu : X.A.units + 1 < cLine) (ho : PE X o td) (hi : PE X i ty) (hv : PE X value tv) (hop : InOp X op rd)
    (ha : ∀ ov iv new, augStore i ov iv new = (do holding [new, ov, iv] (setItem ov iv new); release [new, ov, iv] []; pure .next)) : PS X (.AugAssign (.Subscript o i tpos) op value pos) (sDAug td ty tv rd) := by
  intro pins s σ H D I h
  refine wpAny_AugAssign_SubscriptAny (thn (ho pins s σ H _ I h) fun u s1 ⟨x, H1, I1, rx, q1⟩ => thn (hi pins s1 σ H1 _ I1 q1) fun iv s2 ⟨y, H2, I2, ry, a, v, ex, g, q2⟩ => ?_) ha
  subst ex
  obtain rfl : u = Value.ref a := rx
  refine d_getItem hu I2 g ry fun w' s3 I3 rw' => thn (hv pins s3 σ H2 _ I3 q2) fun w2 s4 ⟨y2, H3, I4, ry2, q3⟩ => thn (hop pins s4 σ H3 v y2 w' w2 _ I4 rw' ry2 q3) fun w3 s5 ⟨z, H4, I5, rz, H5, g5, q4⟩ => ?_
  exact d_setItem hu I5 g5 ry rz fun s6 I6 => ⟨σ, H5, I6, q4⟩
theorem ps_ddel (ho : PE X o td) (hi : PE X i ty) : PS X (.Delete [.Subscript o i tpos] pos) (sDDel td ty) := by
  intro pins s σ H D I h
  refine wpAny_Delete (wpAny_deleteEach_cons (wpAny_delete_Subscript (thn (ho pins s σ H _ I h) fun u s1 ⟨x, H1, I1, rx, q1⟩ => thn (hi pins s1 σ H1 _ I1 q1) fun iv s2 ⟨y, H2, I2, ry, a, kvs, k, ex, e, ey, l, q2⟩ => ?_)))
  subst ex ey
  obtain rfl : u = Value.ref a := rx
  exact d_delItem I2 e ry l fun s3 I3 => wpAny_deleteEach_nil ⟨σ, _, I3, q2⟩
end


/-! ### displays -/
theorem dk_empty {P : Program} {w : World} {H : Hp} (h : Heap) (hb : sysModules < h.objs.size) : ObjOk P w H (h.push { cls := .type "dict", data := .dict #[] }) h.objs.size (.dK []) :=
  ⟨Nat.zero_le _, beq_eq_false_iff_ne.mpr (Ne.symm (Nat.ne_of_lt hb)), [], .nil, Heap.DictOf.new h⟩
theorem dt_empty {P : Program} {w : World} {H : Hp} (h : Heap) (hb : sysModules < h.objs.size) : ObjOk P w H (h.push { cls := .type "dict", data := .dict #[] }) h.objs.size (.dT []) :=
  ⟨Nat.zero_le _, beq_eq_false_iff_ne.mpr (Ne.symm (Nat.ne_of_lt hb)), [], .nil, _, #[], 0, Heap.get?_push_size _ rfl, ⟨rfl, rfl, rfl⟩, rfl, rfl, List.nodup_nil⟩
/-- {}, to be a dict of the kind that is wanted -/
def tDNewK : TE := fun _ H Q => ∀ p, H p = none → Q (.ref p) (upd H p (.dK []))
def tDNewT : TE := fun _ H Q => ∀ p, H p = none → Q (.ref p) (upd H p (.dT []))
section
variable {X : Cx} {pos : Pos}
theorem pe_dnewK : PE X (.Dict [] [] pos) tDNewK := fun pins s σ H Q I h =>
  wpAny_Dict_empty ⟨.ref s.heap.objs.size, _, I.laid (a := s.heap.objs.size) (o := .dK []) (t' := s.toks) (fun _ _ q => Heap.get?_push_of_some _ q) (Nat.le_refl _) (dk_empty s.heap I.big), rfl, h _ (I.hok.fresh (Nat.le_refl _))⟩
theorem pe_dnewT : PE X (.Dict [] [] pos) tDNewT := fun pins s σ H Q I h =>
  wpAny_Dict_empty ⟨.ref s.heap.objs.size, _, I.laid (a := s.heap.objs.size) (o := .dT []) (t' := s.toks) (fun _ _ q => Heap.get?_push_of_some _ q) (Nat.le_refl _) (dt_empty s.heap I.big), rfl, h _ (I.hok.fresh (Nat.le_refl _))⟩
end

/-- the pairs of a display, from the left -/
def tPairs : List (TE × TE) → St → Hp → (List (V × V) → Hp → Prop) → Prop
  | [], _, H, Q => Q [] H
  | (tk, tv) :: r, σ, H, Q => tk σ H fun x H1 => tv σ H1 fun y H2 => tPairs r σ H2 fun ps H3 => Q ((x, y) :: ps) H3
abbrev VV : List (V × V) → List (Value × Value) → Prop := Paired fun p q => RelV p.1 q.1 ∧ RelV p.2 q.2
def PPs (X : Cx) (pos : Pos) (keys : List (Option Expr)) (values : List Expr) (trs : List (TE × TE)) : Prop :=
  ∀ (pins : List (Addr × Obj)) (s : Shared) (σ : St) (H : Hp) (Q : List (V × V) → Hp → Prop), Inv X pins σ H s → tPairs trs σ H Q →
    wpAny (model X.prog X.w) X.A (evalPairs (pairTrees keys values X.env pos)) (fun vs s' => ∃ ps H', Inv X pins σ H' s' ∧ VV ps vs ∧ Q ps H') X.xe s
theorem pps_nil {X : Cx} {pos : Pos} : PPs X pos [] [] [] := fun pins s σ H Q I h => pairTrees_nil_walk ⟨[], H, I, .nil, h⟩
theorem pps_cons {X : Cx} {pos : Pos} {k v : Expr} {ks : List (Option Expr)} {vs : List Expr} {tk tv : TE} {trs : List (TE × TE)} (hk : PE X k tk) (hv : PE X v tv) (hr : PPs X pos ks vs trs) :
    PPs X pos (some k :: ks) (v :: vs) ((tk, tv) :: trs) := fun pins s σ H Q I h =>
  pairTrees_cons_walk (thn (hk pins s σ H _ I h) fun u s1 ⟨x, H1, I1, rx, q1⟩ => thn (hv pins s1 σ H1 _ I1 q1) fun w2 s2 ⟨y, H2, I2, ry, q2⟩ =>
    thn (hr pins s2 σ H2 _ I2 q2) fun ws s3 ⟨ps, H3, I3, rel, q3⟩ => ⟨(x, y) :: ps, H3, I3, .cons ⟨rx, ry⟩ rel, q3⟩)

def mergeK (kvs more : List (Key × V)) : List (Key × V) := more.foldl (fun acc kv => putK acc kv.1 kv.2) kvs
theorem KV.merge : ∀ {more : List (Key × V)} {rs : List (Key × Value)} {kvs : List (Key × V)} {vs : List (Key × Value)}, KV more rs → KV kvs vs → KV (mergeK kvs more) (merged vs rs) := by
  intro more rs kvs vs r
  unfold KV at r
  induction r generalizing kvs vs with
  | nil => intro q; exact q
  | @cons p q ps qs h t ih =>
    intro r0
    have e : KV (putK kvs p.1 p.2) (stored vs q.1 q.2) := by
      have := r0.put p.1 h.2
      rw [← h.1]; exact this
    exact ih e
theorem length_mergeK : ∀ (more kvs : List (Key × V)), (mergeK kvs more).length ≤ kvs.length + more.length
  | [], kvs => by show kvs.length ≤ kvs.length + 0; omega
  | p :: r, kvs => by
    have h1 := length_mergeK r (putK kvs p.1 p.2)
    have h2 := length_putK kvs p.1 p.2
    show (mergeK (putK kvs p.1 p.2) r).length ≤ _
    rw [List.length_cons]; omega
theorem carries_of {P : Program} {w : World} : ∀ {kvs : List (Key × V)} {ws : List (Value × Value)}, VV (kvs.map fun kv => (kV kv.1, kv.2)) ws → ∃ rs, Carries (mixKind P w) ws rs ∧ KV kvs rs
  | [], _, r => by rw [List.map_nil] at r; cases r; exact ⟨[], True.intro, .nil⟩
  | p :: kvs, _, r => by
    rw [List.map_cons] at r
    cases r with
    | @cons a b as bs h t =>
      obtain ⟨rs, c, q⟩ := carries_of (P := P) (w := w) t
      obtain ⟨b1, b2⟩ := b
      exact ⟨(p.1, b2) :: rs, ⟨kV_is h.1, rfl, c⟩, .cons ⟨rfl, h.2⟩ q⟩
/-- {k: v, ..} with keys ints and texts; the new dict stands empty while the pairs are made -/
def tDisp (trs : List (TE × TE)) : TE := fun σ H Q => ∀ p, H p = none → tPairs trs σ (upd H p (.dK [])) fun ps H2 => H2 p = some (.dK []) ∧ ∃ kvs : List (Key × V), ps = kvs.map (fun kv => (kV kv.1, kv.2)) ∧ kvs.length ≤ 15 ∧ Q (.ref p) (upd H2 p (.dK (mergeK [] kvs)))
theorem pe_disp {X : Cx} {pos : Pos} {keys : List (Option Expr)} {values : List Expr} {trs : List (TE × TE)} (h : PPs X pos keys values trs) (hall : keys.all (·.isSome) = true) (hl : keys.length = values.length) (h0 : keys ≠ [])
    (h15 : keys.length ≤ 15) : PE X (.Dict keys values pos) (tDisp trs) := by
  intro pins s σ H Q I q
  have hn := I.hok.fresh (Nat.le_refl s.heap.objs.size)
  have I1 := I.laid (a := s.heap.objs.size) (o := .dK []) (h' := s.heap.push { cls := .type "dict", data := .dict #[] }) (t' := s.toks) (fun _ _ q => Heap.get?_push_of_some _ q) (Nat.le_refl _) (dk_empty s.heap I.big)
  refine wpAny_Dict_walk (knd := mixKind X.prog X.w) hall hl h0 h15 (thn (h pins _ σ _ _ I1 (q _ hn)) fun ws s2 ⟨ps, H2, I2, rel, e, kvs, ep, lk, q2⟩ => ?_)
  subst ep
  obtain ⟨rs, c, rk⟩ := carries_of (P := X.prog) (w := X.w) rel
  obtain ⟨z, hd, vs0, r0, dd⟩ := dk_of I2.hok e
  cases r0
  refine ⟨rs, c, dd, fun h' dd' hs => ⟨.ref s.heap.objs.size, _, ?_, rfl, q2⟩⟩
  have hz : (mergeK [] kvs).length ≤ sizeLine := by
    have h1 := length_mergeK kvs []
    rw [List.length_nil] at h1
    rw [sizeLine_eq]; omega
  have he : ∃ q, h'.get? s.heap.objs.size = some q := let ⟨q, _, _, hq, _⟩ := dd'; ⟨q, hq⟩
  exact d_write I2 (by rw [e]; exact True.intro) hs he (dk_new hz hd (rk.merge .nil) dd')


/-! ### methods -/
/-- a method call o.m(e) of a built-in, with one argument: what must be seen of the text -/
structure M1 (X : Cx) (o : Expr) (m : Str) (apos : Pos) (e : Expr) (cpos : Pos) : Prop where
  base : attributeBase o m X.env (eval o X.env) = eval o X.env
  few : ((backTo cpos (starEach [e] X.env)).all (fun x => !x.1) && (backToKw cpos (keywordEach [] X.env)).all (fun x => x.1.isSome)
    && decide (([e] : List Expr).length + ([] : List Keyword).length + (if ([] : List Keyword).isEmpty then 0 else 1) < 30)) = true
  line : (apos.endLine == cpos.line) = true
  trees : backTo cpos (starEach [e] X.env) = [(false, eval e X.env)]
structure M2 (X : Cx) (o : Expr) (m : Str) (apos : Pos) (e f : Expr) (cpos : Pos) : Prop where
  base : attributeBase o m X.env (eval o X.env) = eval o X.env
  few : ((backTo cpos (starEach [e, f] X.env)).all (fun x => !x.1) && (backToKw cpos (keywordEach [] X.env)).all (fun x => x.1.isSome)
    && decide (([e, f] : List Expr).length + ([] : List Keyword).length + (if ([] : List Keyword).isEmpty then 0 else 1) < 30)) = true
  line : (apos.endLine == cpos.line) = true
  trees : backTo cpos (starEach [e, f] X.env) = [(false, eval e X.env), (false, eval f X.env)]

/-- a is a dict, whatever its keys -/
def IsD (H : Hp) (a : Addr) : Prop := (∃ kvs, Rd H a (.dK kvs)) ∨ ∃ kvs, Rd H a (.dT kvs)
theorem isD_at {X : Cx} {pins : List (Addr × Obj)} {σ : St} {H : Hp} {s : Shared} {a : Addr} (I : Inv X pins σ H s) (d : IsD H a) :
    s.TypeIs (.ref a) "dict" ∧ (∀ b, Value.ref a = .ref b → ∃ ob, s.heap.get? b = some ob ∧ ob.dict = none) ∧ (a == sysModules) = false := by
  rcases d with ⟨kvs, e⟩ | ⟨kvs, e⟩
  · obtain ⟨_, hd, vs, _, dd⟩ := dk_rd I.hok e
    refine ⟨dd.typeIs, fun b q => ?_, hd⟩
    cases q
    obtain ⟨ob, _, _, h1, h2, _⟩ := dd
    exact ⟨ob, h1, h2.2.1⟩
  · obtain ⟨_, hd, xs, _, dd⟩ := dt_rd I.hok e
    refine ⟨dd.typeIs, fun b q => ?_, hd⟩
    cases q
    obtain ⟨ob, _, _, h1, h2, _⟩ := dd
    exact ⟨ob, h1, h2.2.1⟩

section
variable {X : Cx} {pins : List (Addr × Obj)} {σ : St} {H : Hp} {s : Shared} {a : Addr} {y d : V} {u r : Value} {o : Option V} {A : Around} {E : Value → Shared → Prop}
/-- d.get(y) -/
theorem d_get1 {Q : Value → Shared → Prop} (hu : A.units + 1 < cLine) (I : Inv X pins σ H s) (g : DGet H a y o) (ry : RelV y u) (h : ∀ w' s', Inv X pins σ H s' → RelV (o.getD .non) w' → Q w' s') :
    wpAny (model X.prog X.w) A (call (.builtin "dict.get") [.ref a, u]) Q E s := by
  rcases g with ⟨kvs, k, e, ey, l⟩ | ⟨kvs, k, b, e, ey, eb, l⟩
  · subst ey
    obtain ⟨z, hd, vs, rel, dd⟩ := dk_rd I.hok e
    refine call_meetsIn PySem.F.slot_dict_get dd.typeIs PySem.F.entry_dict_get (PySem.F.args_dict_get_2 _ _) (meets_dict_get (mixKind X.prog X.w) a (kV_is ry) hd) ⟨_, dd.mapOf, h _ _ (I.tok _) ?_⟩
    rw [l]
    exact (rel.val k).getD rfl
  · subst ey
    cases (show u = Value.ref b from ry)
    obtain ⟨z, hd, xs, rel, dd⟩ := dt_rd I.hok e
    refine call_meetsIn PySem.F.slot_dict_get dd.typeIs PySem.F.entry_dict_get (PySem.F.args_dict_get_2 _ _) (meetsH_dict_get (tupleKind (mixKind X.prog X.w)) a b hd) ⟨tupleKind_room_in1 hu, k, xs, key_of I.hok eb, dd, h _ _ (I.tok _) ?_⟩
    rw [l]
    exact (rel.val k).getD rfl
/-- d.get(y, x) -/
theorem d_get2 {Q : Value → Shared → Prop} (hu : A.units + 1 < cLine) (I : Inv X pins σ H s) (g : DGet H a y o) (ry : RelV y u) (rd : RelV d r) (h : ∀ w' s', Inv X pins σ H s' → RelV (o.getD d) w' → Q w' s') :
    wpAny (model X.prog X.w) A (call (.builtin "dict.get") [.ref a, u, r]) Q E s := by
  rcases g with ⟨kvs, k, e, ey, l⟩ | ⟨kvs, k, b, e, ey, eb, l⟩
  · subst ey
    obtain ⟨z, hd, vs, rel, dd⟩ := dk_rd I.hok e
    refine call_meetsIn PySem.F.slot_dict_get dd.typeIs PySem.F.entry_dict_get (PySem.F.args_dict_get_3 _ _ _) (meets_dict_get_default (mixKind X.prog X.w) a (kV_is ry) hd r) ⟨_, dd.mapOf, h _ _ (I.tok _) ?_⟩
    rw [l]
    exact (rel.val k).getD rd
  · subst ey
    cases (show u = Value.ref b from ry)
    obtain ⟨z, hd, xs, rel, dd⟩ := dt_rd I.hok e
    refine call_meetsIn PySem.F.slot_dict_get dd.typeIs PySem.F.entry_dict_get (PySem.F.args_dict_get_3 _ _ _) (meetsH_dict_get_default (tupleKind (mixKind X.prog X.w)) a b hd r) ⟨tupleKind_room_in1 hu, k, xs, key_of I.hok eb, dd, h _ _ (I.tok _) ?_⟩
    rw [l]
    exact (rel.val k).getD rd
end

def tDGet1 (td ty : TE) : TE := fun σ H Q => td σ H fun x H1 => ∃ a, x = .ref a ∧ IsD H1 a ∧ ty σ H1 fun y H2 => ∃ o, DGet H2 a y o ∧ Q (o.getD .non) H2
def tDGet2 (td ty tx : TE) : TE := fun σ H Q => td σ H fun x H1 => ∃ a, x = .ref a ∧ IsD H1 a ∧ ty σ H1 fun y H2 => tx σ H2 fun z H3 => ∃ o, DGet H3 a y o ∧ Q (o.getD z) H3
/-- d.pop(k): there; d.pop(k, x): there or not -/
def tDPop1 (td ty : TE) : TE := fun σ H Q => td σ H fun x H1 => ∃ a, x = .ref a ∧ IsD H1 a ∧ ty σ H1 fun y H2 => ∃ kvs k v, H2 a = some (.dK kvs) ∧ y = kV k ∧ valV kvs k = some v ∧ Q v (upd H2 a (.dK (dropK kvs k)))
def tDPop2 (td ty tx : TE) : TE := fun σ H Q => td σ H fun x H1 => ∃ a, x = .ref a ∧ IsD H1 a ∧ ty σ H1 fun y H2 => tx σ H2 fun z H3 => ∃ kvs k, H3 a = some (.dK kvs) ∧ y = kV k ∧
  (∀ v, valV kvs k = some v → Q v (upd H3 a (.dK (dropK kvs k)))) ∧ (valV kvs k = none → Q z H3)
section
variable {X : Cx} {o e f : Expr} {apos cpos : Pos} {td ty tx : TE}
theorem pe_dget1 (hu : X.A.units + 1 < cLine) (ho : PE X o td) (he : PE X e ty) (m : M1 X o "get" apos e cpos) : PE X (.Call (.Attribute o "get" apos) [e] [] cpos) (tDGet1 td ty) := by
  intro pins s σ H Q I h
  refine wpAny_Call_method m.base m.few m.line PySem.F.plainAttrs_dict PySem.F.slot_dict_get PySem.F.type_dict_get (thn (ho pins s σ H _ I h) fun u s1 ⟨x, H1, I1, rx, a, ex, d, q1⟩ => ?_)
  subst ex
  obtain rfl : u = Value.ref a := rx
  obtain ⟨t1, t2, _⟩ := isD_at I1 d
  refine ⟨t1, t2, ?_⟩
  rw [m.trees]
  refine Calls.callWith_builtin rfl (Calls.evalArgs_plain (Calls.spliced_cons (thn (he pins s1 σ H1 _ I1 q1) fun iv s2 ⟨y, H2, I2, ry, ov, g, q2⟩ => Calls.spliced_nil ?_)))
  exact d_get1 hu I2 g ry fun w' s3 I3 rw' => ⟨_, H2, I3, rw', q2⟩
theorem pe_dget2 (hu : X.A.units + 1 < cLine) (ho : PE X o td) (he : PE X e ty) (hf : PE X f tx) (m : M2 X o "get" apos e f cpos) : PE X (.Call (.Attribute o "get" apos) [e, f] [] cpos) (tDGet2 td ty tx) := by
  intro pins s σ H Q I h
  refine wpAny_Call_method m.base m.few m.line PySem.F.plainAttrs_dict PySem.F.slot_dict_get PySem.F.type_dict_get (thn (ho pins s σ H _ I h) fun u s1 ⟨x, H1, I1, rx, a, ex, d, q1⟩ => ?_)
  subst ex
  obtain rfl : u = Value.ref a := rx
  obtain ⟨t1, t2, _⟩ := isD_at I1 d
  refine ⟨t1, t2, ?_⟩
  rw [m.trees]
  refine Calls.callWith_builtin rfl (Calls.evalArgs_plain (Calls.spliced_cons (thn (he pins s1 σ H1 _ I1 q1) fun iv s2 ⟨y, H2, I2, ry, q2⟩ =>
    Calls.spliced_cons (thn (hf pins s2 σ H2 _ I2 q2) fun fv s3 ⟨z, H3, I3, rz, ov, g, q3⟩ => Calls.spliced_nil ?_))))
  exact d_get2 hu I3 g ry rz fun w' s4 I4 rw' => ⟨_, H3, I4, rw', q3⟩
theorem pe_dpop1 (ho : PE X o td) (he : PE X e ty) (m : M1 X o "pop" apos e cpos) : PE X (.Call (.Attribute o "pop" apos) [e] [] cpos) (tDPop1 td ty) := by
  intro pins s σ H Q I h
  refine wpAny_Call_method m.base m.few m.line PySem.F.plainAttrs_dict PySem.F.slot_dict_pop PySem.F.type_dict_pop (thn (ho pins s σ H _ I h) fun u s1 ⟨x, H1, I1, rx, a, ex, d, q1⟩ => ?_)
  subst ex
  obtain rfl : u = Value.ref a := rx
  obtain ⟨t1, t2, _⟩ := isD_at I1 d
  refine ⟨t1, t2, ?_⟩
  rw [m.trees]
  refine Calls.callWith_builtin rfl (Calls.evalArgs_plain (Calls.spliced_cons (thn (he pins s1 σ H1 _ I1 q1) fun iv s2 ⟨y, H2, I2, ry, kvs, k, v, ea, ey, l, q2⟩ => Calls.spliced_nil ?_)))
  subst ey
  exact d_pop I2 ea ry l (.inl rfl) fun w' s3 I3 rw' => ⟨v, _, I3, rw', q2⟩
theorem pe_dpop2 (ho : PE X o td) (he : PE X e ty) (hf : PE X f tx) (m : M2 X o "pop" apos e f cpos) : PE X (.Call (.Attribute o "pop" apos) [e, f] [] cpos) (tDPop2 td ty tx) := by
  intro pins s σ H Q I h
  refine wpAny_Call_method m.base m.few m.line PySem.F.plainAttrs_dict PySem.F.slot_dict_pop PySem.F.type_dict_pop (thn (ho pins s σ H _ I h) fun u s1 ⟨x, H1, I1, rx, a, ex, d, q1⟩ => ?_)
  subst ex
  obtain rfl : u = Value.ref a := rx
  obtain ⟨t1, t2, _⟩ := isD_at I1 d
  refine ⟨t1, t2, ?_⟩
  rw [m.trees]
  refine Calls.callWith_builtin rfl (Calls.evalArgs_plain (Calls.spliced_cons (thn (he pins s1 σ H1 _ I1 q1) fun iv s2 ⟨y, H2, I2, ry, q2⟩ =>
    Calls.spliced_cons (thn (hf pins s2 σ H2 _ I2 q2) fun fv s3 ⟨z, H3, I3, rz, kvs, k, ea, ey, q3, q4⟩ => Calls.spliced_nil ?_))))
  subst ey
  cases l : valV kvs k with
  | some v => exact d_pop I3 ea ry l (.inr ⟨fv, rfl⟩) fun w' s4 I4 rw' => ⟨v, _, I4, rw', q3 v l⟩
  | none => exact d_popD I3 ea ry l fun s4 I4 => ⟨z, H3, I4, rz, q4 l⟩
end

/-! ### dict(d): a copy -/
section
variable {X : Cx} {pins : List (Addr × Obj)} {σ : St} {H : Hp} {s : Shared} {a : Addr} {kvs : List (Key × V)} {A : Around} {E : Value → Shared → Prop}
theorem d_copyOf {Q : Value → Shared → Prop} (I : Inv X pins σ H s) (e : Rd H a (.dK kvs)) (h : ∀ p s', H p = none → Inv X pins σ (upd H p (.dK kvs)) s' → Q (.ref p) s') : wpAny (model X.prog X.w) A (call (.type "dict") [.ref a]) Q E s := by
  obtain ⟨z, hd, vs, rel, dd⟩ := dk_rd I.hok e
  refine kt_call_dict hd dd (by rw [← rel.length]; exact z) fun h' dd' hs => ?_
  refine h _ _ (I.hok.fresh (Nat.le_refl _)) (I.laid (a := s.heap.objs.size) (o := .dK kvs) (t' := s.toks) (fun b q hq => ?_) (Nat.le_refl _) (dk_new z (beq_eq_false_iff_ne.mpr (Ne.symm (Nat.ne_of_lt I.big))) rel dd'))
  exact (hs.2 b (Nat.ne_of_lt (Heap.lt_size hq))).trans (Heap.get?_push_of_some _ hq)
end


section
variable {X : Cx} {pins : List (Addr × Obj)} {σ : St} {H : Hp} {s : Shared} {a : Addr} {y : V} {u : Value} {A : Around} {E : Value → Shared → Prop}
/-- d[y], not there: a KeyError -/
theorem d_missing {Q : Value → Shared → Prop} (hu : A.units + 1 < cLine) (hh : A.handled = none) (I : Inv X pins σ H s) (g : DGet H a y none) (ry : RelV y u)
    (h : ∀ h' e t', Heap.NewExc s.heap h' e "KeyError" → E (.ref e) { s with heap := h', toks := t' }) : wpAny (model X.prog X.w) A (getItem (.ref a) u) Q E s := by
  rcases g with ⟨kvs, k, e, ey, l⟩ | ⟨kvs, k, b, e, ey, eb, l⟩
  · subst ey
    obtain ⟨z, hd, vs, rel, dd⟩ := dk_rd I.hok e
    have hn : valueAt vs k = none := RelO.none_of (by rw [l]; exact rel.val k)
    exact wpAny_getItem_missing_of (kV_is ry) hd hh dd.mapOf hn fun h' ex ne => h h' ex _ ne
  · subst ey
    cases (show u = Value.ref b from ry)
    obtain ⟨z, hd, xs, rel, dd⟩ := dt_rd I.hok e
    have hn : (atKey xs k).map (·.2) = none := RelO.none_of (by rw [l]; exact rel.val k)
    exact wpAny_getItem_missing_heap (tupleKind_room_in1 hu) (key_of I.hok eb) hd hh dd (Option.map_eq_none_iff.mp hn) fun h' ex ne => h h' ex _ ne
end
end L2



namespace Att
open PySem PySem.W PySem.Calls PyProof.Rows

/-! ### the script -/
theorem ints_of_wellAll {P : Params} {h : Heap} : ∀ (ns : List Int) (vs : List Value), WellAll P h vs (ns.map WData.int) → IntsAre vs ns := by
  intro ns
  induction ns with
  | nil =>
    intro vs w
    rw [List.map_nil] at w
    cases w
    exact .nil
  | cons n ns ih =>
    intro vs w
    rw [List.map_cons] at w
    cases w with
    | cons a b =>
      cases a
      exact .cons _ _ (ih _ b)

theorem script_of {l : OpenLaw} {n : Nat} (hn : l.most = some n) {P : Params} {h : Heap} {args : List WData} {vals : List Value}
    (hpre : l.row.toRowW.claim.pre args = true) (hwl : WellAll P h vals args) :
    ∃ a vs ns, vals = [Value.ref a] ∧ args = [WData.list (ns.map WData.int)] ∧ h.get? a = some { cls := .type "list", data := .seq vs.toArray } ∧ IntsAre vs ns ∧ ns.length ≤ n := by
  have hsh : WShape.hasAll [] args [.list .int] = true := (pre_splitW hpre).1
  have hc : l.pre.holds [] { args := args } = true := (pre_splitW hpre).2
  obtain ⟨d, r, rfl, h1, h2⟩ := hasAllW_cons hsh
  obtain rfl := hasAllW_nil h2
  obtain ⟨xs, rfl, h3⟩ := hasW_list h1
  obtain ⟨ns, rfl⟩ := items_int h3
  have hlen : ns.length ≤ n := by
    unfold OpenLaw.pre at hc
    have h4 : (WTm.not (.lt (.lit (.int (n : Int))) (.len (.arg 0)))).holds [] { args := [.list (ns.map .int)] } = true := by
      have h4 := (holds_andW hc).1
      rw [hn] at h4
      exact h4
    have h5 := condW_of h4 (w_not (w_lt w_lit (w_len_list (w_arg rfl))))
    rw [List.length_map] at h5
    refine Nat.le_of_not_lt fun q => ?_
    have q' : (n : Int) < ((ns.length : Nat) : Int) := by omega
    first
      | (rw [decide_eq_true q'] at h5; exact absurd h5 (by decide))
      | (simp at h5; omega)
  cases hwl with
  | cons w1 w2 =>
    cases w2
    cases w1 with
    | list ho hall => exact ⟨_, _, ns, rfl, rfl, ho, ints_of_wellAll ns _ hall, hlen⟩

theorem post_true (l : OpenLaw) (args : List WData) : l.row.toRowW.claim.post args (.bool true) args = true :=
  postW_of (r := l.row.toRowW) (X := (true == true))
    (show WShape.has [] (.bool true) .bool = true by first | rfl | decide | simp [WShape.has, WShape.arms, WShape.armsAll])
    (show (WTm.eq .res (.lit (.bool true))).value [] { args := args, res := some (.bool true), after := args } = some (.bool (true == true)) from w_eq_bool (w_res rfl) w_lit) rfl

/-! ### the attachment: holds_open's last premise (the goal 'hc' behind k_head) from a wpAny of the law's body -/
theorem attach {l : OpenLaw} {n : Nat} {q : Program} {loose : List Str} {XP : (Str → Option Value) → Heap → Prop} {YP : World → Heap → Prop} {d : DefRec} {x : Str}
    (hn : l.most = some n) (hdf : d.params.defaults = [])
    (hbind : ∀ pm cd doc v : Value, bindArgs (docDef d.name d.params d.body d.scope pm cd doc) ⟨[v], []⟩ = pure [(x, v)])
    (hx : d.scope.names.lookup x = some .local ∨ d.scope.names.lookup x = some .cell)
    (hk : d.scope.kind = .function) (hco : d.scope.isCoroutine = false) (hgen : d.scope.isGenerator = false)
    (body : ∀ (w : World) (s₀ s₁ s : Shared) (mg mb : Str → Option Value) (fa : Addr) (o : Obj) (pm cd doc : Value) (a : Addr) (vs : List Value) (ns : List Int),
      Ground q loose [] XP w s₀ mg mb s₁.heap → YP w s₁.heap →
      s₁.heap.get? fa = some o → o.data = .func (docDef d.name d.params d.body d.scope pm cd doc) → s₁.heap.CodeRec cd d.name → mg d.name = some (.ref fa) →
      s₁.heap.get? a = some { cls := .type "list", data := .seq vs.toArray } → IntsAre vs ns → ns.length ≤ n →
      s.gens = #[] → s.os = s₁.os →
      Fr s₁.heap s₁.heap.objs.size s.heap (bindL (envOfC d.name d.scope s₁.heap.objs.size fa cd).kindOf [(x, .ref a)] fun _ => none) →
      Cl s₁.heap.objs.size (cellsFrom (s₁.heap.objs.size + 1) d.scope.names []) s.heap (bindC (envOfC d.name d.scope s₁.heap.objs.size fa cd).kindOf [(x, .ref a)] fun _ => none) →
      wpAny (model l.prog w) (callerA.deeper (envOfC d.name d.scope s₁.heap.objs.size fa cd)) (execs d.body (envOfC d.name d.scope s₁.heap.objs.size fa cd))
        (fun f s' => f = .ret (.bool true) ∧ OldK s₁.heap s'.heap ∧ s'.os = s₁.os ∧ AllBare s'.gens) (fun _ _ => False) s) :
    WalkO q loose XP YP l.row.toRowW d [] (fun f vs => PySem.call f vs) := by
  intro w s₀ s₁ mg mb G Y fa o pm cd doc dV kV ho hd hcd hD hmg hg args vals as hpre hlay hrd hwl hlo
  obtain rfl : dV = .none := Dflts.none hD hdf
  obtain rfl : kV = .none := Dflts.noKw hD
  obtain ⟨a, vs, ns, rfl, rfl, hobj, hints, hlen⟩ := script_of hn hpre hwl
  refine enter_call ?_
  refine call_cells_ret (o := o) (by rw [depth_caller]; decide) ho (fd_plain hd) G.T.nolimit hcd (hbind pm cd doc (.ref a)) (fun y hy => ?_) (fun h₁ tk F X => ?_) hco hgen hk
  · obtain rfl : y = (x, Value.ref a) := List.mem_singleton.mp hy
    rcases hx with e | e
    · exact .inl e
    · exact .inr ⟨e, cellsFrom_some _ _ _ (.inl e)⟩
  · refine wpAny_mono (body w s₀ s₁ { s₁ with heap := h₁, toks := tk } mg mb fa o pm cd doc a vs ns G Y ho (fd_plain hd) hcd hmg hobj hints hlen hg rfl F X) (fun f s' hq => ?_) (fun _ _ hq => hq)
    obtain ⟨rfl, h2, h3, h4⟩ := hq
    exact ⟨.inl ⟨.bool true, .bool true, [], rfl, fun _ => rfl, .bool true, post_true l _, fun _ => ⟨List.Pairwise.nil, fun _ hm => (nomatch hm)⟩⟩, h2, h3, h4⟩

/-- the same from a codeAny of the CALL (for a layer whose function contracts speak of calls) -/
theorem attach_call {l : OpenLaw} {n : Nat} {q : Program} {loose : List Str} {XP : (Str → Option Value) → Heap → Prop} {YP : World → Heap → Prop} {d : DefRec}
    (hn : l.most = some n) (hdf : d.params.defaults = [])
    (call : ∀ (w : World) (s₀ s₁ : Shared) (mg mb : Str → Option Value) (fa : Addr) (o : Obj) (pm cd doc : Value) (a : Addr) (vs : List Value) (ns : List Int),
      Ground q loose [] XP w s₀ mg mb s₁.heap → YP w s₁.heap →
      s₁.heap.get? fa = some o → o.data = .func (docDef d.name d.params d.body d.scope pm cd doc) → s₁.heap.CodeRec cd d.name → mg d.name = some (.ref fa) →
      s₁.heap.get? a = some { cls := .type "list", data := .seq vs.toArray } → IntsAre vs ns → ns.length ≤ n → s₁.gens = #[] →
      codeAny (model l.prog w) callerA (.call (.ref fa) ⟨[.ref a], []⟩) (fun r s' => r = .ok (.ret (.bool true)) ∧ OldK s₁.heap s'.heap ∧ s'.os = s₁.os ∧ AllBare s'.gens) s₁) :
    WalkO q loose XP YP l.row.toRowW d [] (fun f vs => PySem.call f vs) := by
  intro w s₀ s₁ mg mb G Y fa o pm cd doc dV kV ho hd hcd hD hmg hg args vals as hpre hlay hrd hwl hlo
  obtain rfl : dV = .none := Dflts.none hD hdf
  obtain rfl : kV = .none := Dflts.noKw hD
  obtain ⟨a, vs, ns, rfl, rfl, hobj, hints, hlen⟩ := script_of hn hpre hwl
  refine enter_call (codeAny_mono (call w s₀ s₁ mg mb fa o pm cd doc a vs ns G Y ho (fd_plain hd) hcd hmg hobj hints hlen hg) fun r s' hq => ?_)
  obtain ⟨rfl, h2, h3, h4⟩ := hq
  exact ⟨.inl ⟨.bool true, .bool true, [], rfl, fun _ => rfl, .bool true, post_true l _, fun _ => ⟨List.Pairwise.nil, fun _ hm => (nomatch hm)⟩⟩, h2, h3, h4⟩

/-- the same where the top left finished generators (o_head chose holds_openN): nothing may have changed at all and no generator may be left -/
theorem attachN {l : OpenLaw} {n : Nat} {q : Program} {loose : List Str} {XP : (Str → Option Value) → Heap → Prop} {YP : World → Heap → Prop} {d : DefRec} {x : Str}
    (hn : l.most = some n) (hdf : d.params.defaults = [])
    (hbind : ∀ pm cd doc v : Value, bindArgs (docDef d.name d.params d.body d.scope pm cd doc) ⟨[v], []⟩ = pure [(x, v)])
    (hx : d.scope.names.lookup x = some .local ∨ d.scope.names.lookup x = some .cell)
    (hk : d.scope.kind = .function) (hco : d.scope.isCoroutine = false) (hgen : d.scope.isGenerator = false)
    (body : ∀ (w : World) (s₀ s₁ s : Shared) (mg mb : Str → Option Value) (fa : Addr) (o : Obj) (pm cd doc : Value) (a : Addr) (vs : List Value) (ns : List Int),
      Ground q loose [] XP w s₀ mg mb s₁.heap → YP w s₁.heap →
      s₁.heap.get? fa = some o → o.data = .func (docDef d.name d.params d.body d.scope pm cd doc) → s₁.heap.CodeRec cd d.name → mg d.name = some (.ref fa) →
      s₁.heap.get? a = some { cls := .type "list", data := .seq vs.toArray } → IntsAre vs ns → ns.length ≤ n →
      s.gens = #[] → s.os = s₁.os →
      Fr s₁.heap s₁.heap.objs.size s.heap (bindL (envOfC d.name d.scope s₁.heap.objs.size fa cd).kindOf [(x, .ref a)] fun _ => none) →
      Cl s₁.heap.objs.size (cellsFrom (s₁.heap.objs.size + 1) d.scope.names []) s.heap (bindC (envOfC d.name d.scope s₁.heap.objs.size fa cd).kindOf [(x, .ref a)] fun _ => none) →
      wpAny (model l.prog w) (callerA.deeper (envOfC d.name d.scope s₁.heap.objs.size fa cd)) (execs d.body (envOfC d.name d.scope s₁.heap.objs.size fa cd))
        (fun f s' => f = .ret (.bool true) ∧ (∀ b o, s₁.heap.get? b = some o → s'.heap.get? b = some o) ∧ s'.os = s₁.os ∧ s'.gens = #[]) (fun _ _ => False) s) :
    WalkN q loose XP YP l.row.toRowW d [] (fun f vs => PySem.call f vs) := by
  intro w s₀ s₁ mg mb G Y fa o pm cd doc dV kV ho hd hcd hD hmg hg args vals as hpre hlay hrd hwl hlo
  obtain rfl : dV = .none := Dflts.none hD hdf
  obtain rfl : kV = .none := Dflts.noKw hD
  obtain ⟨a, vs, ns, rfl, rfl, hobj, hints, hlen⟩ := script_of hn hpre hwl
  refine enter_callW ?_
  refine call_cells_ret (o := o) (by rw [depth_caller]; decide) ho (fd_plain hd) G.T.nolimit hcd (hbind pm cd doc (.ref a)) (fun y hy => ?_) (fun h₁ tk F X => ?_) hco hgen hk
  · obtain rfl : y = (x, Value.ref a) := List.mem_singleton.mp hy
    rcases hx with e | e
    · exact .inl e
    · exact .inr ⟨e, cellsFrom_some _ _ _ (.inl e)⟩
  · refine wpAny_mono (body w s₀ s₁ { s₁ with heap := h₁, toks := tk } mg mb fa o pm cd doc a vs ns G Y ho (fd_plain hd) hcd hmg hobj hints hlen hg rfl F X) (fun f s' hq => ?_) (fun _ _ hq => hq)
    obtain ⟨rfl, h2, h3, h4⟩ := hq
    exact ⟨.inl ⟨.bool true, .bool true, [], rfl, fun _ => rfl, .bool true, post_true l _, fun _ => ⟨List.Pairwise.nil, fun _ hm => (nomatch hm)⟩⟩, h2, h3, h4⟩

/-! ### rules over ANY heap (no ledger) from facts about the written part K: the library's own take a ledger (News) for what they write -/
section
variable {prog : Program} {w : World} {A : Around} {E : Value → Shared → Prop} {s : Shared} {K : Frag}

/-- a def of the module, or a method (qual 'C.m'), entered: the frame is the next address; cells behind it -/
theorem call_fn {R : Result → Shared → Prop} {name qual : Str} {params : Arguments} {body : List Stmt} {scope : Scope} {dV kV doc pm cdv ct oc : Value} {an od : Option Addr} {osl : Array (Option Value)} {f : Addr} {args : Args} {binds : List (Str × Value)}
    (X : K.In s.heap) (hlim : s.heap.NoLimit) (ho : K.lookup f = some ⟨oc, od, .func (fnOf name qual params body scope dV kV doc pm an cdv ct), osl⟩) (hcd : codeIn K cdv qual = true) (hroom : A.depth < recursionLimit)
    (hbind : BindsTo s (fnOf name qual params body scope dV kV doc pm an cdv ct) args binds)
    (hkind : (binds.all fun y => scope.names.lookup y.1 == some .local || scope.names.lookup y.1 == some .cell) = true)
    (h : ∀ s₁, InCallC s s.heap.objs.size (bindL (envOfC qual scope s.heap.objs.size f cdv).kindOf binds fun _ => none) (cellsFrom (s.heap.objs.size + 1) scope.names [])
        (bindC (envOfC qual scope s.heap.objs.size f cdv).kindOf binds fun _ => none) s₁ →
      wpAny (model prog w) (A.deeper (envOfC qual scope s.heap.objs.size f cdv)) (execs body (envOfC qual scope s.heap.objs.size f cdv))
        (fun fl s' => R (.ok (.ret (match fl with | .ret v => v | _ => .none))) s')
        (fun e s' => wpAny (model prog w) (A.deeper (envOfC qual scope s.heap.objs.size f cdv)) (leaving (envOfC qual scope s.heap.objs.size f cdv) e) (fun _ s'' => R (.error e) s'') (fun e' s'' => R (.error e') s'') s') s₁)
    (hco : scope.isCoroutine = false) (hgen : scope.isGenerator = false) (hk : scope.kind = .function) : codeAny (model prog w) A (.call (.ref f) args) R s := by
  refine codeAny_call_function hroom (X _ _ ho) rfl hco hgen rfl (codeRec_of X hcd) (hbind _ _ _ _ ?_)
  refine wpAny_newFunctionEnv_cells hk (kindsX hkind _) fun env he s₁ x => ?_
  subst he
  exact ⟨hlim.keeps x.toInCall.keep, codeAny_func (h s₁ x)⟩

/-- C(..): dict at size, instance at size + 1, then __init__ -/
theorem make_obj {R : Result → Shared → Prop} {C fI : Addr} {rest : List Value} {kw : List (Str × Value)}
    (X : K.In s.heap) (hm : makesIn K C = true) (hi : findIn K (.ref C) "__init__" = some (some (.ref fI))) (hf : isFn K (.ref fI) = true)
    (h : codeAny (model prog w) (A.under (.builtin "type.__call__" ⟨.ref C :: rest, kw⟩)) (.call (.ref fI) ⟨.ref (s.heap.objs.size + 1) :: rest, kw⟩) (InitBack (s.heap.objs.size + 1) R)
      { s with heap := (s.heap.push emptyDict).push (instObj C s.heap.objs.size) }) : codeAny (model prog w) A (.call (.ref C) ⟨rest, kw⟩) R s := by
  obtain ⟨hh, g, d, t, os⟩ := s
  exact make_core (makes_of X hm) (looks_findIn X hi) (fun self => bind_fn X self (beq_iff_eq.mp hf)) (.inl rfl) h

/-- x.name where the instance's dict holds the name and the class does not -/
theorem get_field {x C : Addr} {ox : Obj} {es : List DictEntry} {n : Nat} {name : Str} {expr : Bool} {v : Value} {Q : Value → Shared → Prop}
    (X : K.In s.heap) (I : PySem.W.InstAt s.heap x ox C (some (dictOf es n))) (hg : plainGet K C name = true) (hh : hasDictIn K C = true) (ha : findIn K (.ref C) name = some none)
    (hl : getL name es = some (some v)) (hv : handedIn v = true) (h : Q v { s with toks := s.toks + 1 }) : wpAny (model prog w) A (getAttr (.ref x) name expr) Q E s :=
  get_value X I (plainGet_of hg).1 (findObj_own hh ha rfl hl) hv h

/-- x.m(..): the method found in the class -/
theorem get_method {x C f : Addr} {ox : Obj} {es : List DictEntry} {n : Nat} {name : Str} {pl : Sem Bool} {Q : Value × List Value → Shared → Prop}
    (X : K.In s.heap) (I : PySem.W.InstAt s.heap x ox C (some (dictOf es n))) (hg : plainGet K C name = true) (hf : findIn K (.ref C) name = some (some (.ref f))) (ht : isFn K (.ref f) = true)
    (hl : getL name es = some none) (h : Q (.ref f, [.ref x]) s) : wpAny (model prog w) A (getMethod (.ref x) name pl) Q E s :=
  method_fn X I (plainGet_of hg).1 (plainGet_of hg).2 hf (beq_iff_eq.mp ht) (by show (lookIn name (dictOf es n)).map _ = _; rw [lookIn_dict, hl]; rfl) h

/-! the whole heap as the ledger: makes every rule that writes through a ledger a rule over any heap -/
def noObjs (h : Heap) : Heap := { h with objs := #[] }
theorem noObjs_get (h : Heap) (b : Addr) : (noObjs h).get? b = none := by
  cases e : (noObjs h).get? b with
  | none => rfl
  | some o => exact absurd (Heap.lt_size e) (Nat.not_lt_zero _)
def ledger (h : Heap) (L d : Addr) : List (Addr × Obj) := (List.range h.objs.size).filterMap fun a => if a = L ∨ a = d then none else (h.get? a).map fun o => (a, o)
theorem mem_ledger {h : Heap} {L d a : Addr} {o : Obj} : (a, o) ∈ ledger h L d ↔ a ≠ L ∧ a ≠ d ∧ h.get? a = some o := by
  unfold ledger
  rw [List.mem_filterMap]
  constructor
  · rintro ⟨b, _, e⟩
    split at e
    · cases e
    · rename_i hb
      obtain ⟨o', ho, e'⟩ := Option.map_eq_some_iff.mp e
      cases e'
      exact ⟨fun q => hb (.inl q), fun q => hb (.inr q), ho⟩
  · rintro ⟨n1, n2, ho⟩
    refine ⟨a, List.mem_range.mpr (Heap.lt_size ho), ?_⟩
    rw [if_neg (show ¬ (a = L ∨ a = d) from fun q => q.elim n1 n2), ho] <;> rfl
theorem news_ledger {h : Heap} {L d : Addr} {od : Obj} (hne : d ≠ L) (ho : h.get? d = some od) : News (noObjs h) L h ([] ++ (d, od) :: ledger h L d) := by
  rintro ⟨a, o⟩ hp
  rcases List.mem_cons.mp hp with e | hp
  · cases e
    exact ⟨ho, hne, noObjs_get _ _⟩
  · obtain ⟨n1, n2, e⟩ := mem_ledger.mp hp
    exact ⟨e, n1, noObjs_get _ _⟩
theorem fr_all {h : Heap} {L : Addr} {m : Str → Option Value} (n : h.Ns L m) : Fr (noObjs h) L h m :=
  ⟨n, fun b o e => (by rw [noObjs_get] at e; cases e), Nat.zero_le _⟩
/-- Upd of the head entry (for append_K, setItem_K ..) -/
theorem upd_ledger {h : Heap} {L d : Addr} {o o' : Obj} : Upd d o o' ((d, o) :: ledger h L d) ((d, o') :: ledger h L d) :=
  .head fun ⟨_, _⟩ hp => (mem_ledger.mp hp).2.1

/-- x.name = v over any heap: L is any namespace of the heap (the frame's, say): its map stays, its object is not told; all else but the dict stays -/
theorem set_field {x C dx L : Addr} {ox : Obj} {m : Str → Option Value} {es es' : List DictEntry} {n n' : Nat} {name : Str} {v : Value} {Q : Unit → Shared → Prop}
    (X : K.In s.heap) (I : PySem.W.InstAt s.heap x ox C (some (dictOf es n))) (hd : ox.dict = some dx) (hL : s.heap.Ns L m) (hne : dx ≠ L)
    (hs : findIn K (.ref C) "__setattr__" = some (some (.builtin "object.__setattr__"))) (hp : plainOver K C = true) (ht : takerIn K C name = some none) (hh : hasDictIn K C = true) (hl : (getL name es).isSome = true)
    (e : (putL name (PyData.keyHash w.params name) (.str name (s.toks + 1)) v es, putN name es n) = (es', n')) (hz : es'.length ≤ 1000)
    (h : ∀ h' : Heap, h'.Ns L m → h'.get? dx = some (dictOf es' n') → (∀ b o, b ≠ dx → b ≠ L → s.heap.get? b = some o → h'.get? b = some o) → Q () { s with heap := h', toks := s.toks + 2 }) :
    wpAny (model prog w) A (setAttr (.ref x) name v) Q E s := by
  obtain ⟨e1, e2⟩ := Prod.mk.inj e
  have hdx : s.heap.get? dx = some (dictOf es n) := by
    have := I.dict
    rw [hd] at this
    exact this
  refine set_plain X I hs (osa_dict (s := { s with toks := s.toks + 1 }) (h₀ := noObjs s.heap) (L := L) (m := m) (od := dictOf es n) (od' := dictOf es' n') (es := es') (n := n') (pre := []) (post := ledger s.heap L dx)
    (fr_all hL) (news_ledger hne hdx) X I hd hp ht hh hl (fun _ q => nomatch q) (fun ⟨_, _⟩ q => (mem_ledger.mp q).2.1) (by rw [putName_dict, e1, e2]) rfl hz fun h' F' N' => ?_)
  exact h h' F'.ns (N'.get (List.Mem.head _)) fun b o n1 n2 ho => N'.get (List.Mem.tail _ (mem_ledger.mpr ⟨n2, n1, ho⟩))
end
end Att

namespace L2
open PySem PySem.Spec PyProof.Rows

theorem vals_ints : ∀ {vs : List Value} {ns : List Int}, IntsAre vs ns → Vals (ns.map V.int) vs
  | _, _, .nil => .nil
  | _, _, .cons n t h => .cons ⟨t, rfl⟩ (vals_ints h)

/-- nothing is tracked but the script, known to the object (or it is an object of the module) -/
def Only (H : Hp) : Prop := ∀ b, H b = none ∨ ∃ o xs, H b = some (.frz o (.lst xs))

/-- THE HEAD: the law's promise, at the heap behind the top. F, the promise of the law's def, may use that base is part of the heap (so K.In base, base.Ns mainGlobals mg stand in Mod) -/
theorem law_call {P : Program} {w : World} {K : PySem.W.Frag} {mg mb : Str → Option Value} {CX : CXT} {k : Nat} {fa a : Addr} {fd : FuncData} {x : Str} {sp : Sp} {s₁ : Shared} {vs : List Value} {ns : List Int}
    (KX : K.In s₁.heap) (hns : s₁.heap.Ns mainGlobals mg) (hb : s₁.heap.Ns builtinsNs mb) (hbb : ∀ x : Str, x ≠ "__name__" → mb x = bootBuiltins x) (hlim : s₁.heap.NoLimit) (hg : s₁.gens = #[])
    (ha : s₁.heap.get? a = some { cls := .type "list", data := .seq vs.toArray }) (hi : IntsAre vs ns) (hl : ns.length ≤ sizeLine) (hr : Room k callerA)
    (F : ∀ base : Heap, K.In base → base.Ns mainGlobals mg → FnOk P w K mg base CX k fa fd [x] sp) (hbind : ∀ (s : Shared) (u : Value), BindsTo s fd ⟨[u], []⟩ [(x, u)])
    (hsp : ∀ H : Hp, Only H → SqL K H a (ns.map V.int) → sp [.ref a] H (fun v _ => v = .bl true) fun _ _ _ => False)
    (hCX : ∀ H e s', CX [] H s₁ (fun _ _ _ => False) e s' → False) :
    codeAny (model P w) callerA (.call (.ref fa) ⟨[.ref a], []⟩) (fun r s' => r = .ok (.ret (.bool true)) ∧ OldK s₁.heap s'.heap ∧ s'.os = s₁.os ∧ AllBare s'.gens) s₁ := by
  have rv := vals_ints hi
  have lenV := hi.length
  -- from an abstract heap in which nothing but the script may be tracked
  have core : ∀ H : Hp, Only H → SqL K H a (ns.map V.int) → HOk P w H s₁.heap → (∀ b, H b ≠ none → b = a) → (H a ≠ none → K.lookup a = none) →
      codeAny (model P w) callerA (.call (.ref fa) ⟨[.ref a], []⟩) (fun r s' => r = .ok (.ret (.bool true)) ∧ OldK s₁.heap s'.heap ∧ s'.os = s₁.os ∧ AllBare s'.gens) s₁ := by
    intro H hO hS hok hA hK
    have base_of : ∀ {b : Addr} {o : Obj}, s₁.heap.get? b = some o → H b = none → (hidT s₁.heap H).get? b = some o := fun e n => hidT_get e n
    have noA : ∀ {b : Addr} {o : Obj} {es : Array DictEntry} {ep : Nat}, s₁.heap.get? b = some o → o.data = .dict es ep → H b = none := fun {b o es ep} e d => by
      cases q : H b with
      | none => rfl
      | some u =>
        have e' : b = a := hA b (by rw [q]; simp)
        subst e'
        rw [ha] at e; cases e
        have d' : Data.seq vs.toArray _ = Data.dict es ep := d
        cases d'
    have nsK : ∀ {b : Addr} {m : Str → Option Value}, s₁.heap.Ns b m → (hidT s₁.heap H).Ns b m := fun {b m} ⟨o, es, ep, e, d, r⟩ => ⟨o, es, ep, base_of e (noA e d), d, r⟩
    have hKb : K.In (hidT s₁.heap H) := fun b o e => base_of (KX b o e) (by
      cases q : H b with
      | none => rfl
      | some u =>
        have e' : b = a := hA b (by rw [q]; simp)
        subst e'
        rw [hK (by rw [q]; simp)] at e; cases e)
    have hM : Mod K mg (hidT s₁.heap H) := ⟨hKb, nsK hns, ⟨mb, nsK hb, hbb⟩, let ⟨mc, h1, h2⟩ := hlim; ⟨mc, nsK h1, h2⟩⟩
    have e0 : Env0 P w K mg (hidT s₁.heap H) callerA [] s₁ H := ⟨rfl, hM, fun b o e => of_hidT e, Nat.le_of_eq (hidT_size _ _), trivial, fun b hb => absurd (show b ∈ ([] : List Addr) from hb) (by simp), hok, .of_eq hg⟩
    refine codeAny_mono ((F _ hKb (nsK hns)).run callerA [] s₁ H ⟨[.ref a], []⟩ [.ref a] [.ref a] _ _ hr e0 (hbind s₁ (.ref a)) (.cons rfl .nil) (hsp H hO hS)) fun r s' h => ?_
    cases r with
    | error e => exact (hCX H e s' h).elim
    | ok fl =>
      cases fl with
      | next => exact False.elim h
      | brk => exact False.elim h
      | cont => exact False.elim h
      | ret u =>
        obtain ⟨v, H', os, bare, un, hok', r', q⟩ := h
        have q' : v = .bl true := q
        subst q'
        obtain rfl : u = Value.bool true := r'
        refine ⟨rfl, OldK.of_keep fun b o e => ?_, os, bare⟩
        cases q : H b with
        | none => exact un.keep b o e q (by intro z; exact absurd (show b ∈ ([] : List Addr) from z) (by simp)) (by simp)
        | some u =>
          rcases hO b with z | ⟨ob, xs, z⟩
          · rw [q] at z; cases z
          · have z2 := un.frzs b ob _ z
            obtain ⟨e1, _⟩ := hok b _ z
            obtain ⟨e2, _⟩ := hok' b _ z2
            rw [e] at e1; cases e1
            exact e2
  cases hk : K.lookup a with
  | some o =>
    -- the script is one of the module's own objects
    have e := KX a o hk
    rw [ha] at e
    cases e
    refine core (fun _ => none) (fun _ => .inl rfl) (.inr ⟨_, vs.toArray, _, hk, rfl, rfl, rfl, by rw [List.size_toArray, lenV]; exact hl, by simpa using rv⟩) (fun b u z => by have z' : (none : Option HO) = some u := z; cases z') (fun b z => absurd rfl z) fun z => absurd rfl z
  | none =>
    refine core (fun b => if b = a then some (.frz { cls := .type "list", data := .seq vs.toArray } (.lst (ns.map V.int))) else none) (fun b => ?_) (.inl (.inr ⟨{ cls := .type "list", data := .seq vs.toArray }, if_pos rfl⟩)) (fun b u z => ?_) (fun b z => ?_) fun _ => hk
    · by_cases hb : b = a
      · exact .inr ⟨_, _, if_pos hb⟩
      · exact .inl (if_neg hb)
    · by_cases hb : b = a
      · have z' := (if_pos hb).symm.trans z
        cases z'
        subst hb
        exact ⟨ha, by rw [List.length_map]; exact hl, vs, _, rv, ha⟩
      · have z' := (if_neg hb).symm.trans z
        cases z'
    · by_cases hb : b = a
      · exact hb
      · exact absurd (if_neg hb) z
end L2

namespace L2
open PySem PySem.Spec PyProof.Rows

abbrev KOf {K : PySem.W.Frag} {h : Heap} (_ : K.In h) : PySem.W.Frag := K

/-- the goal that k_head leaves (case hc), from the law's promise. F gives the function object fd (K's own) once, then the promise over every base -/
theorem walk_of {l : PySem.W.OpenLaw} {n k : Nat} {q : Program} {loose : List Str} {XP : (Str → Option Value) → Heap → Prop} {YP : World → Heap → Prop} {d : DefRec} {K : Params → PySem.W.Frag} {CX : World → CXT} {sp : World → Sp} {x : Str}
    (hn : l.most = some n) (hn2 : n ≤ sizeLine) (hdf : d.params.defaults = []) (hr : Room k callerA)
    (hY : ∀ (w : World) (h : Heap), YP w h → (K w.params).In h)
    (F : ∀ (w : World) (mg : Str → Option Value) (fa : Addr) (h : Heap), (K w.params).In h → h.Ns mainGlobals mg → mg d.name = some (.ref fa) →
      ∃ fd : FuncData, (∀ (s : Shared) (u : Value), BindsTo s fd ⟨[u], []⟩ [(x, u)]) ∧
        ∀ base : Heap, (K w.params).In base → base.Ns mainGlobals mg → FnOk l.prog w (K w.params) mg base (CX w) k fa fd [x] (sp w))
    (hsp : ∀ (w : World) (H : Hp) (a : Addr) (ns : List Int), ns.length ≤ n → Only H → SqL (K w.params) H a (ns.map V.int) → sp w [.ref a] H (fun v _ => v = .bl true) fun _ _ _ => False)
    (hCX : ∀ (w : World) (H : Hp) (s : Shared) (e : Value) (s' : Shared), CX w [] H s (fun _ _ _ => False) e s' → False) :
    PySem.W.WalkO q loose XP YP l.row.toRowW d [] (fun f vs => PySem.call f vs) := by
  refine Att.attach_call hn hdf fun w s₀ s₁ mg mb fa o pm cd doc a vs ns G Y ho hd hcd hmg hobj hints hlen hg => ?_
  have KX := hY w _ Y
  obtain ⟨fd, hb, hF⟩ := F w mg fa _ KX G.T.g hmg
  exact law_call KX G.T.g G.T.b G.T.builtins G.T.nolimit hg hobj hints (Nat.le_trans hlen hn2) hr hF hb (fun H hO hS => hsp w H a ns hlen hO hS) fun H e s' => hCX w H s₁ e s'
/-- the same where the promise hangs on the written part alone: (sp := My.sp_law), no hole under a binder -/
theorem walk_ofK {l : PySem.W.OpenLaw} {n k : Nat} {q : Program} {loose : List Str} {XP : (Str → Option Value) → Heap → Prop} {YP : World → Heap → Prop} {d : DefRec} {K : Params → PySem.W.Frag} {CX : CXT} {sp : PySem.W.Frag → Sp} {x : Str}
    (hn : l.most = some n) (hn2 : n ≤ sizeLine) (hdf : d.params.defaults = []) (hr : Room k callerA)
    (hY : ∀ (w : World) (h : Heap), YP w h → (K w.params).In h)
    (F : ∀ (w : World) (mg : Str → Option Value) (fa : Addr) (h : Heap), (K w.params).In h → h.Ns mainGlobals mg → mg d.name = some (.ref fa) →
      ∃ fd : FuncData, (∀ (s : Shared) (u : Value), BindsTo s fd ⟨[u], []⟩ [(x, u)]) ∧
        ∀ base : Heap, (K w.params).In base → base.Ns mainGlobals mg → FnOk l.prog w (K w.params) mg base CX k fa fd [x] (sp (K w.params)))
    (hsp : ∀ (K : PySem.W.Frag) (H : Hp) (a : Addr) (ns : List Int), ns.length ≤ n → Only H → SqL K H a (ns.map V.int) → sp K [.ref a] H (fun v _ => v = .bl true) fun _ _ _ => False)
    (hCX : ∀ (H : Hp) (s : Shared) (e : Value) (s' : Shared), CX [] H s (fun _ _ _ => False) e s' → False) :
    PySem.W.WalkO q loose XP YP l.row.toRowW d [] (fun f vs => PySem.call f vs) :=
  walk_of (K := K) (CX := fun _ => CX) (sp := fun w => sp (K w.params)) hn hn2 hdf hr hY F (fun w H a ns h1 h2 h3 => hsp (K w.params) H a ns h1 h2 h3) fun _ H s e s' => hCX H s e s'
end L2

/- THE LAST THEOREM (shape; LID, My.* are yours):
   My.Adr: a structure of the addresses that your layer names (classes, functions); My.Txt K t: a structure (Prop) of the equations over K;
   My.txt_mk : {K} {implicit addresses ..} (e1 : nsIn K mainGlobals "law" = some (some (.ref f))) (e2 : K.lookup f = some ⟨oc, od, .func (fnOf "law" "law" params body scope dV kV doc pm an cdv ct), sl⟩) (e3 : codeIn K cdv "law" = true) .. : ∃ t, My.Txt K t

set_option maxRecDepth 100000 in
set_option maxHeartbeats 0 in
theorem PySem.Challenge.cw_LID_holds : PySem.Challenge.rw_LID.Holds := by
  w_on; o_law; k_head; (case hw => w_witness2)
  k_fill
  refine L2.walk_of (l := PySem.Challenge.rw_LID) (n := 63) (k := 40) (x := "script") (CX := fun w => ..) (sp := fun _ => My.sp_law) rfl (by decide) rfl ⟨rfl, by decide, by decide⟩ (fun w h Y => PySem.W.kIn_of Y) ?F ?S ?C
  case F =>
    intro w mg fa h KX G hmg
    have T : ∃ t, My.Txt (L2.KOf KX) t := by
      dsimp only [L2.KOf]                          -- K must stand as «<heap const> w.params» for k_is
      refine' My.txt_mk ?e1 ?e2 ?e3 ..
      (case e1 => PySem.W.k_is)                    -- in the order: a name -> its address -> its object -> its parts
      (case e2 => PySem.W.k_is)
      ..
    obtain ⟨t, T⟩ := T
    have e0 := hmg.symm.trans (PySem.W.mg_of KX G T.law)
    cases e0                                       -- fa is the law's own address
    exact ⟨_, fun s u => .of_eq rfl, fun base kb nb => My.law_fn T kb nb⟩     -- if «.of_eq rfl» comes too early: refine' ⟨_, ?b, fun base kb nb => My.law_fn T kb nb⟩; exact fun s u => .of_eq rfl
  case S => exact fun w H a ns hl hO hS => ..
  case C => exact ..
(the tactic k_is has no namespace: write k_is) -/

/-! SHORT WORDS over the layer: a def of the text, its body, what a loop and a test want. -/
namespace L2
open PySem PySem.Spec PyProof.Rows

/-! ### the text by places -/
/-- the j-th statement of a class's body -/
def inClass (s : Stmt) (j : Nat) : Stmt := match s with
  | .ClassDef _ _ _ body _ _ _ _ _ _ _ => body.getD j (.Pass ⟨0, 0, 0, 0⟩)
  | _ => .Pass ⟨0, 0, 0, 0⟩
def defArgs (s : Stmt) : Arguments := match s with
  | .FunctionDef _ a _ _ _ _ _ _ _ _ => a
  | _ => { posonlyargs := [], args := [], vararg := none, kwonlyargs := [], kw_defaults := [], kwarg := none, defaults := [] }
def defBody (s : Stmt) : List Stmt := match s with
  | .FunctionDef _ _ b _ _ _ _ _ _ _ => b
  | _ => []
def defScope (s : Stmt) : Scope := match s with
  | .FunctionDef _ _ _ _ _ _ sc _ _ _ => sc
  | _ => { kind := .function, names := [], isGenerator := false, isCoroutine := false }

/-! ### no exception leaves a def -/
abbrev CX0 : CXT := fun _ _ _ _ _ _ => False
abbrev E0 : XK := fun _ _ _ => False
theorem pass0 {X : Cx} : Passes CX0 X E0 := fun _ _ _ _ _ _ _ h => h.elim

/-! ### a def (or method) of the text as it stands behind the top -/
structure Fun (K : PySem.W.Frag) (x qual : Str) (st : Stmt) (f : Addr) (fd : FuncData) : Prop where
  ex : ∃ (oc : Value) (od : Option Addr) (kV doc pm : Value) (an : Option Addr) (cdv ct : Value) (osl : Array (Option Value)),
    fd = PySem.W.fnOf x qual (defArgs st) (defBody st) (defScope st) .none kV doc pm an cdv ct ∧ K.lookup f = some ⟨oc, od, .func fd, osl⟩ ∧ PySem.W.codeIn K cdv qual = true
  kp : PySem.W.keepIn K (.ref f) = true
section
variable {P : Program} {w : World} {K : PySem.W.Frag} {mg : Str → Option Value} {base : Heap}
/-- THE RULE for a def: its body as a term of rules, and the reading of that term -/
theorem Fun.ok {x qual : Str} {st : Stmt} {f : Addr} {fd : FuncData} {N ps : List Str} {k : Nat} {sp : Sp} (F : Fun K x qual st f fd) (S : FnScope N ps (defScope st)) (len : ∀ vs H Q E, sp vs H Q E → vs.length = ps.length)
    (hbody : ∀ (cdv : Value) (A : Around) (outer : List Env) (s : Shared) (H : Hp) (vs : List V) (Q : VK) (E : XK), Room k (A.deeper (envOfC qual (defScope st) s.heap.objs.size f cdv)) → sp vs H Q E →
      ∃ t, PSs (cxOf CX0 P w K mg base N qual (defScope st) f cdv A outer s H E).nox (defBody st) t ∧ t { nx := fun _ H' => Q .non H', rt := Q } (start N vs) H) : FnOk P w K mg base CX0 (k + 1) f fd ps sp := by
  obtain ⟨oc, od, kV, doc, pm, an, cdv, ct, osl, rfl, lk, hcd⟩ := F.ex
  refine fn_of lk hcd S len fun A outer s H vs Q E hr hsp => ?_
  obtain ⟨t, h, q⟩ := hbody cdv A outer s H vs Q E hr hsp
  exact ⟨t, h.nox, q⟩
/-- how its arguments bind (no defaults): h is «fun _ _ _ _ _ _ us hl => match us, hl with | [_, _], _ => rfl», one _ a parameter -/
theorem Fun.binds {x qual : Str} {st : Stmt} {f : Addr} {fd : FuncData} {ps : List Str} (F : Fun K x qual st f fd)
    (h : ∀ (kV doc pm : Value) (an : Option Addr) (cdv ct : Value) (us : List Value), us.length = ps.length → bindArgs (PySem.W.fnOf x qual (defArgs st) (defBody st) (defScope st) .none kV doc pm an cdv ct) ⟨us, []⟩ = pure (ps.zip us)) : Binds K fd ps [] := by
  obtain ⟨oc, od, kV, doc, pm, an, cdv, ct, osl, rfl, lk, hcd⟩ := F.ex
  exact .all (h kV doc pm an cdv ct)
theorem fun_mk {x qual : Str} {st : Stmt} {f : Addr} {oc : Value} {od an : Option Addr} {osl : Array (Option Value)} {kV doc pm cdv ct : Value} (l : K.lookup f = some ⟨oc, od, .func (PySem.W.fnOf x qual (defArgs st) (defBody st) (defScope st) .none kV doc pm an cdv ct), osl⟩)
    (c : PySem.W.codeIn K cdv qual = true) (k : PySem.W.keepIn K (.ref f) = true) : Fun K x qual st f (PySem.W.fnOf x qual (defArgs st) (defBody st) (defScope st) .none kV doc pm an cdv ct) := ⟨⟨oc, od, kV, doc, pm, an, cdv, ct, osl, rfl, l, c⟩, k⟩
end
theorem hu_of {A : Around} {k : Nat} (hr : Room k A) : A.units + 1 < cLine := Nat.lt_of_le_of_lt (Nat.add_le_add_left (by decide : 1 ≤ 64) _) hr.units
theorem small1000 {n : Nat} (h : n ≤ 1000) : n < sizeLine := Nat.lt_of_le_of_lt h (by decide)

/-! ### expressions in short: the name that stands in the i-th slot -/
section
variable {X : Cx}
theorem pv (i : Nat) {x : Str} {pos : Pos} (hN : X.N[i]? = some x := by rfl) (hv : Vis X.env.scope x := by first | exact Or.inl rfl | exact Or.inr (Or.inl rfl) | exact Or.inr (Or.inr rfl)) (hd : (x == ("__debug__" : Str)) = false := by decide)
    (hcd : (x == ("__classdict__" : Str)) = false := by decide) : PE X (.Name x pos) (tVar i) := pe_var hN hv hd hcd
/-- len of a dict -/
theorem call_lenD : CallR X (.builtin "len") (fun xs H Q => ∃ a kvs, xs = [V.ref a] ∧ H a = some (.dK kvs) ∧ Q (.int kvs.length) H) := by
  intro pins s σ H xs us Q I r h
  obtain ⟨a, kvs, rfl, ha, q⟩ := h
  obtain ⟨u, rfl, ru⟩ := vals1 r
  cases ru
  exact d_len I (.inl ha) fun t s' I' => ⟨.int kvs.length, H, I', ⟨t, rfl⟩, q⟩
end

/-! ### tests -/
theorem iteF {A B : Prop} (h : B) : if false = true then A else B := by
  rw [if_neg Bool.false_ne_true]
  exact h
theorem iteT {A B : Prop} (h : A) : if true = true then A else B := by
  rw [if_pos rfl]
  exact h
theorem ite2 {c A B : Prop} [Decidable c] (h1 : c → A) (h2 : ¬ c → B) : if c then A else B := by
  by_cases h : c
  · rw [if_pos h]
    exact h1 h
  · rw [if_neg h]
    exact h2 h
theorem iteNS {c A B : Prop} [Decidable c] (hc : c) (h : B) : if (!decide c) = true then A else B := by
  rw [decide_eq_true hc]
  exact iteF h

/-! ### heaps -/
/-- all that was tracked is as it was -/
def Same (H H' : Hp) : Prop := ∀ b o, H b = some o → H' b = some o
theorem Same.refl (H : Hp) : Same H H := fun _ _ h => h
theorem Same.trans {H H1 H2 : Hp} (a : Same H H1) (b : Same H1 H2) : Same H H2 := fun c o h => b c o (a c o h)
theorem Same.free {H H' : Hp} (e : Same H H') {l : Addr} (h : H' l = Option.none) : H l = Option.none := by
  cases q : H l with
  | none => rfl
  | some o =>
    rw [e l o q] at h
    cases h
theorem Same.seq {K : PySem.W.Frag} {H H' : Hp} {a : Addr} {xs : List V} (e : Same H H') (h : SqL K H a xs) : SqL K H' a xs := by
  rcases h with (h | ⟨o, h⟩) | h
  · exact .inl (.inl (e _ _ h))
  · exact .inl (.inr ⟨o, e _ _ h⟩)
  · exact .inr h

/-! ### a dict's pairs: keys that differ -/
section
variable {κ : Type} [DecidableEq κ]
theorem valV_not {kvs : List (κ × V)} {k : κ} (h : valV kvs k = none) : ¬ k ∈ kvs.map (·.1) := by
  intro m
  obtain ⟨p, hp, e⟩ := List.mem_map.mp m
  have q : (kvs.any fun kv => decide (kv.1 = k)) = true := List.any_eq_true.mpr ⟨p, hp, decide_eq_true e⟩
  rw [valV_any, h] at q
  exact absurd q (by simp)
theorem valV_in {kvs : List (κ × V)} {k : κ} {v : V} (h : valV kvs k = some v) : k ∈ kvs.map (·.1) := by
  have q : (kvs.any fun kv => decide (kv.1 = k)) = true := by
    rw [valV_any, h]
    all_goals rfl
  obtain ⟨p, hp, e⟩ := List.any_eq_true.mp q
  exact List.mem_map.mpr ⟨p, hp, of_decide_eq_true e⟩
theorem nd_snoc : ∀ {l : List κ} {k : κ}, l.Nodup → ¬ k ∈ l → (l ++ [k]).Nodup
  | [], k, _, _ => by simp
  | a :: r, k, h, hk => by
    obtain ⟨h1, h2⟩ := List.nodup_cons.mp h
    show (a :: (r ++ [k])).Nodup
    refine List.nodup_cons.mpr ⟨fun m => ?_, nd_snoc h2 fun m => hk (List.mem_cons.mpr (Or.inr m))⟩
    rcases List.mem_append.mp m with q | q
    · exact h1 q
    · exact hk (List.mem_cons.mpr (Or.inl (List.mem_singleton.mp q).symm))
theorem nd_putK {kvs : List (κ × V)} {k : κ} (v : V) (hn : (kvs.map (·.1)).Nodup) (h : valV kvs k = none) : ((putK kvs k v).map (·.1)).Nodup := by
  rw [putK_new v h, List.map_append]
  exact nd_snoc hn (valV_not h)
theorem dropK_pos {p : κ × V} {r : List (κ × V)} {k : κ} (e : p.1 = k) : dropK (p :: r) k = dropK r k := by
  unfold dropK
  rw [List.filter_cons, if_neg (by simp [e])]
theorem dropK_neg {p : κ × V} {r : List (κ × V)} {k : κ} (e : ¬ p.1 = k) : dropK (p :: r) k = p :: dropK r k := by
  unfold dropK
  rw [List.filter_cons, if_pos (by simp [e])]
theorem dropK_no : ∀ {kvs : List (κ × V)} {k : κ}, ¬ k ∈ kvs.map (·.1) → dropK kvs k = kvs
  | [], _, _ => rfl
  | p :: r, k, h => by
    have h' : ¬ k ∈ r.map (·.1) := fun m => by
      obtain ⟨q, hq, e⟩ := List.mem_map.mp m
      exact h (List.mem_map.mpr ⟨q, List.mem_cons.mpr (Or.inr hq), e⟩)
    rw [dropK_neg fun e => h (List.mem_map.mpr ⟨p, List.mem_cons.mpr (Or.inl rfl), e⟩), dropK_no h']
theorem dropK_mem {kvs : List (κ × V)} {k : κ} {p : κ × V} (h : p ∈ dropK kvs k) : p ∈ kvs := (List.mem_filter.mp h).1
theorem nd_dropK : ∀ {kvs : List (κ × V)} {k : κ}, (kvs.map (·.1)).Nodup → ((dropK kvs k).map (·.1)).Nodup
  | [], _, _ => List.nodup_nil
  | p :: r, k, h => by
    have h : (p.1 :: r.map (·.1)).Nodup := h
    obtain ⟨h1, h2⟩ := List.nodup_cons.mp h
    by_cases e : p.1 = k
    · rw [dropK_pos e]
      exact nd_dropK h2
    · rw [dropK_neg e]
      show (p.1 :: (dropK r k).map (·.1)).Nodup
      refine List.nodup_cons.mpr ⟨fun m => h1 ?_, nd_dropK h2⟩
      obtain ⟨q, hq, eq⟩ := List.mem_map.mp m
      exact List.mem_map.mpr ⟨q, dropK_mem hq, eq⟩
theorem dropK_len : ∀ {kvs : List (κ × V)} {k : κ}, (kvs.map (·.1)).Nodup → k ∈ kvs.map (·.1) → (dropK kvs k).length + 1 = kvs.length
  | [], _, _, m => by simp at m
  | p :: r, k, h, m => by
    have h : (p.1 :: r.map (·.1)).Nodup := h
    have m : k = p.1 ∨ k ∈ r.map (·.1) := List.mem_cons.mp m
    obtain ⟨h1, h2⟩ := List.nodup_cons.mp h
    by_cases e : p.1 = k
    · subst e
      rw [dropK_pos rfl, dropK_no h1]
      all_goals rfl
    · have m' : k ∈ r.map (·.1) := m.resolve_left fun z => e z.symm
      have q := dropK_len h2 m'
      rw [dropK_neg e, List.length_cons, List.length_cons]
      omega
end
end L2

namespace L2
open PySem PySem.Spec PyProof.Rows

section
variable {X : Cx}
/-! ### sum, min, max of a list of ints -/
theorem ints_items {K : PySem.W.Frag} : ∀ {ns : List Int} {its : List Value}, Vals (ns.map V.int) its → ∃ xs : Array (Int × Tok), its.toArray = intItems xs ∧ ns = xs.toList.map (·.1)
  | [], _, .nil => ⟨#[], by simp [intItems], rfl⟩
  | n :: ns, _, .cons r rr => by
    obtain ⟨t, rfl⟩ := r
    obtain ⟨xs, e1, e2⟩ := ints_items (K := K) rr
    refine ⟨(⟨(n, t) :: xs.toList⟩ : Array (Int × Tok)), ?_, by rw [e2]; rfl⟩
    have : (intItems xs).toList = _ := (congrArg Array.toList e1).symm
    unfold intItems at this ⊢
    refine Array.toList_inj.mp ?_
    simp only [Array.toList_map] at this ⊢
    rw [List.map_cons, this]
/-- what stands at a place of the ints -/
theorem num_at {ys : Array (Int × Tok)} {ns : List Int} (en : ns = ys.toList.map (·.1)) {j : Nat} (hj : j < ys.size) : ∃ h : j < ns.length, numAt ys j = ns[j] := by
  subst en
  refine ⟨by simpa using hj, ?_⟩
  simp [numAt, hj]
theorem call_sum (hc : X.calm = true) : CallR X (.builtin "sum") (fun xs H Q => ∃ (p : Addr) (ns : List Int), xs = [.ref p] ∧ SqL X.K H p (ns.map V.int) ∧ Q (.int ns.sum) H) := by
  intro pins s σ H xs us Q I r h
  obtain ⟨p, ns, rfl, hq, q⟩ := h
  obtain ⟨u, rfl, rx⟩ := vals1 r
  cases rx
  obtain ⟨its, r', pl, hz⟩ := I.list hq
  obtain ⟨ys, e, en⟩ := ints_items (K := X.K) r'
  refine sum_intListG (xs := ys) (I.ok.hd hc) (e ▸ pl.isList) fun h' tk t' hk => ⟨.int ns.sum, H, I.kept hk, ⟨t', ?_⟩, q⟩
  rw [preSum_eq, List.take_of_length_le (by simp), en]
theorem call_minL (hc : X.calm = true) : CallR X (.builtin "min") (fun xs H Q => ∃ (p : Addr) (ns : List Int), xs = [.ref p] ∧ SqL X.K H p (ns.map V.int) ∧ ns ≠ [] ∧ ∀ m : Int, m ∈ ns → (∀ a ∈ ns, m ≤ a) → Q (.int m) H) := by
  intro pins s σ H xs us Q I r h
  obtain ⟨p, ns, rfl, hq, hne, q⟩ := h
  obtain ⟨u, rfl, rx⟩ := vals1 r
  cases rx
  obtain ⟨its, r', pl, hz⟩ := I.list hq
  obtain ⟨ys, e, en⟩ := ints_items (K := X.K) r'
  have hsz : 0 < ys.size := by
    rcases Nat.eq_zero_or_pos ys.size with z | z
    · exfalso; apply hne; rw [en]; simp [Array.size_eq_zero_iff.mp z]
    · exact z
  refine min_intList (xs := ys) (I.ok.hd hc) (e ▸ pl.isList) hsz fun v h' tk hv hk => ?_
  obtain ⟨t, rfl⟩ := intItems_at (xs := ys) hv
  have best := argBest_lt (numAt ys) (ys.size - 1)
  obtain ⟨p1, e1⟩ := num_at en (Nat.lt_of_le_of_lt best.1 (show ys.size - 1 < ys.size by omega))
  refine ⟨.int _, H, I.kept hk, ⟨t, rfl⟩, q _ (e1 ▸ List.getElem_mem p1) fun a ha => ?_⟩
  obtain ⟨j, p2, rfl⟩ := List.getElem_of_mem ha
  have lj : j < ys.size := by rw [en] at p2; simpa using p2
  obtain ⟨p3, e3⟩ := num_at en lj
  exact e3 ▸ best.2 j (by omega)
theorem call_maxL (hc : X.calm = true) : CallR X (.builtin "max") (fun xs H Q => ∃ (p : Addr) (ns : List Int), xs = [.ref p] ∧ SqL X.K H p (ns.map V.int) ∧ ns ≠ [] ∧ ∀ m : Int, m ∈ ns → (∀ a ∈ ns, a ≤ m) → Q (.int m) H) := by
  intro pins s σ H xs us Q I r h
  obtain ⟨p, ns, rfl, hq, hne, q⟩ := h
  obtain ⟨u, rfl, rx⟩ := vals1 r
  cases rx
  obtain ⟨its, r', pl, hz⟩ := I.list hq
  obtain ⟨ys, e, en⟩ := ints_items (K := X.K) r'
  have hsz : 0 < ys.size := by
    rcases Nat.eq_zero_or_pos ys.size with z | z
    · exfalso; apply hne; rw [en]; simp [Array.size_eq_zero_iff.mp z]
    · exact z
  refine max_intList (xs := ys) (I.ok.hd hc) (e ▸ pl.isList) hsz fun v h' tk hv hk => ?_
  obtain ⟨t, rfl⟩ := intItems_at (xs := ys) hv
  have best := argBest_gt (numAt ys) (ys.size - 1)
  obtain ⟨p1, e1⟩ := num_at en (Nat.lt_of_le_of_lt best.1 (show ys.size - 1 < ys.size by omega))
  refine ⟨.int _, H, I.kept hk, ⟨t, rfl⟩, q _ (e1 ▸ List.getElem_mem p1) fun a ha => ?_⟩
  obtain ⟨j, p2, rfl⟩ := List.getElem_of_mem ha
  have lj : j < ys.size := by rw [en] at p2; simpa using p2
  obtain ⟨p3, e3⟩ := num_at en lj
  exact e3 ▸ best.2 j (by omega)

/-! ### xs.index(y), flat items -/
def rIndex (K : PySem.W.Frag) : V → List V → Hp → VK → Prop := fun x vs H Q => ∃ (l : Addr) (xs : List V) (y : V) (j : Nat), x = .ref l ∧ vs = [y] ∧ SqL K H l xs ∧ xs.all flatV = true ∧ flatV y = true ∧ j < xs.length ∧
  (∀ z, xs[j]? = some z → eqV z y = true) ∧ (∀ (m : Nat) z, m < j → xs[m]? = some z → eqV z y = false) ∧ Q (.int j) H
theorem mt_index : MtR X "list.index" (rIndex X.K) := by
  intro pins s σ H x vs v us Q I rx rv h
  obtain ⟨l, xs, y, j, rfl, rfl, hq, fx, fy, hj, h1, h2, q⟩ := h
  cases rx
  obtain ⟨u, rfl, ru⟩ := rv.one
  obtain ⟨its, r, pl, hz⟩ := I.list hq
  have hlen := r.length
  obtain ⟨⟨cls, dd, data, sl⟩, ho, hc, n, hd⟩ := pl.isList
  simp only at hc hd
  subst hc hd
  have hu : ∀ (i : Nat) (hi : i < its.toArray.size), ∃ z, xs[i]? = some z ∧ eqU y its.toArray[i] = eqV z y := fun i hi => by
    have hi' : i < its.length := by simpa using hi
    have hx : xs[i]? = some (xs[i]'(by omega)) := List.getElem?_eq_getElem (by omega)
    obtain ⟨w', hw, rw'⟩ := r.get hx
    have e : its.toArray[i] = w' := by
      rw [List.getElem?_eq_getElem hi'] at hw
      simpa using Option.some.inj hw
    refine ⟨_, hx, ?_⟩
    rw [e]
    exact eqU_of rw' (List.all_eq_true.mp fx _ (List.mem_of_getElem? hx))
  have hjs : j < its.toArray.size := by rw [List.size_toArray]; omega
  have hline : sizeLine < 2 ^ 63 - 1 := by decide
  refine call_meets PySem.F.slot_list_index ⟨_, ho, rfl⟩ PySem.F.entry_list_index (PySem.F.args_list_index_2 _ _)
    (SeqAt.list_indexAt l its.toArray n dd sl u (eqU y) j hjs (by omega) ?_ ?_) ⟨ho, fun w' hw => mem_eqAt ru fy r fx w' (by simpa using hw), ⟨.int j, H, I.tok _, ⟨_, rfl⟩, q⟩⟩
  · obtain ⟨z, hz', ez⟩ := hu j hjs
    show eqU y its.toArray[j] = true
    rw [ez]; exact h1 z hz'
  · intro m hm hlt
    obtain ⟨z, hz', ez⟩ := hu m hm
    show eqU y its.toArray[m] = false
    rw [ez]; exact h2 m z hlt hz'

/-! ### sep.join(xs) -/
theorem strs_are : ∀ {ys : List Str} {its : List Value}, Vals (ys.map V.str) its → StrsAre its ys := by
  intro ys
  induction ys with
  | nil => intro its r; cases r; exact .nil
  | cons y r ih =>
    intro its h
    cases h with
    | cons a b =>
      obtain ⟨t, rfl⟩ := a
      exact .cons _ _ (ih b)
def rJoin (K : PySem.W.Frag) : V → List V → Hp → VK → Prop := fun x vs H Q => ∃ (z : Str) (l : Addr) (ys : List Str), x = .str z ∧ vs = [.ref l] ∧ (SqL K H l (ys.map V.str) ∨ SqT K H l (ys.map V.str)) ∧
  (ys.map (·.length)).sum + ys.length * z.length ≤ 16777216 ∧ Q (.str (Txt.join z ys)) H
theorem mt_join : MtR X "str.join" (rJoin X.K) := by
  intro pins s σ H x vs v us Q I rx rv h
  obtain ⟨z, l, ys, rfl, rfl, hq, hz, q⟩ := h
  obtain ⟨t, rfl⟩ := rx
  obtain ⟨u, rfl, ru⟩ := rv.one
  cases ru
  rcases hq with hq | hq
  · obtain ⟨its, r, pl, _⟩ := I.list hq
    exact join_list pl.isList (by simpa using strs_are r) hz fun t' k => ⟨.str _, H, I.tok _, ⟨_, rfl⟩, q⟩
  · obtain ⟨its, r, pl, _⟩ := I.tuple hq
    exact join_tuple pl (by simpa using strs_are r) hz fun t' k => ⟨.str _, H, I.tok _, ⟨_, rfl⟩, q⟩
end
end L2

namespace L2
open PySem PySem.Spec PyProof.Rows

/-! ### values as data; == and != -/
mutual
inductive DatV (K : PySem.W.Frag) (H : Hp) : V → PyData → Prop where
  | non : DatV K H .non .none
  | bl (b : Bool) : DatV K H (.bl b) (.bool b)
  | int (i : Int) : DatV K H (.int i) (.int i)
  | str (x : Str) : DatV K H (.str x) (.str x)
  | lst {a : Addr} {xs : List V} {ds : List PyData} : SqL K H a xs → DatVs K H xs ds → DatV K H (.ref a) (.list ds)
  | tup {a : Addr} {xs : List V} {ds : List PyData} : SqT K H a xs → DatVs K H xs ds → DatV K H (.ref a) (.tuple ds)
inductive DatVs (K : PySem.W.Frag) (H : Hp) : List V → List PyData → Prop where
  | nil : DatVs K H [] []
  | cons {x : V} {d : PyData} {xs : List V} {ds : List PyData} : DatV K H x d → DatVs K H xs ds → DatVs K H (x :: xs) (d :: ds)
end
section
variable {X : Cx} {pins : List (Addr × Obj)} {σ : St} {H : Hp} {s : Shared}
mutual
theorem DatV.reads (I : Inv X pins σ H s) : ∀ {x : V} {d : PyData} {u : Value}, DatV X.K H x d → RelV x u → ∃ as, Reads s.heap u d as
  | _, _, _, .non, r => by cases r; exact ⟨_, .none⟩
  | _, _, _, .bl b, r => by cases r; exact ⟨_, .bool b⟩
  | _, _, _, .int i, r => by obtain ⟨t, rfl⟩ := r; exact ⟨_, .int i t⟩
  | _, _, _, .str x, r => by obtain ⟨t, rfl⟩ := r; exact ⟨_, .str x t⟩
  | _, _, _, .lst hq hs, r => by
    cases r
    obtain ⟨its, rv, ⟨o, n, e, c, _, d⟩, _⟩ := I.list hq
    obtain ⟨as, h⟩ := DatVs.reads I hs rv
    exact ⟨_, .list e c d (by simpa using h)⟩
  | _, _, _, .tup hq hs, r => by
    cases r
    obtain ⟨its, rv, ⟨o, e, c, n, d⟩, _⟩ := I.tuple hq
    obtain ⟨as, h⟩ := DatVs.reads I hs rv
    exact ⟨_, .tuple e c d (by simpa using h)⟩
theorem DatVs.reads (I : Inv X pins σ H s) : ∀ {xs : List V} {ds : List PyData} {us : List Value}, DatVs X.K H xs ds → Vals xs us → ∃ as, ReadsAll s.heap us ds as
  | _, _, _, .nil, .nil => ⟨_, .nil⟩
  | _, _, _, .cons h hs, .cons r rs => by
    obtain ⟨as, h1⟩ := DatV.reads I h r
    obtain ⟨bs, h2⟩ := DatVs.reads I hs rs
    exact ⟨_, .cons h1 h2⟩
end
end
section
variable {X : Cx}
def rEqD (K : PySem.W.Frag) (neg : Bool) : R2 := fun x y H Q => ∃ da db, DatV K H x da ∧ DatV K H y db ∧ da.canLay0 = true ∧ db.canLay0 = true ∧ min da.depth db.depth ≤ 60 ∧ Q (.bl (if neg then !PyData.eqv da db else PyData.eqv da db)) H
theorem op_eqD (hu : X.A.units + 64 < cLine) : OpR X (compareOp .Eq) (rEqD X.K false) := by
  intro pins s σ H x y v u Q I rx ry h
  obtain ⟨da, db, h1, h2, l1, l2, dp, q⟩ := h
  obtain ⟨as, r1⟩ := h1.reads I rx
  obtain ⟨bs, r2⟩ := h2.reads I ry
  exact SeqAt.compareEq_reads r1 r2 l1 l2 (by omega) ⟨.bl _, H, I, rfl, q⟩
theorem op_neD (hu : X.A.units + 64 < cLine) : OpR X (compareOp .NotEq) (rEqD X.K true) := by
  intro pins s σ H x y v u Q I rx ry h
  obtain ⟨da, db, h1, h2, l1, l2, dp, q⟩ := h
  obtain ⟨as, r1⟩ := h1.reads I rx
  obtain ⟨bs, r2⟩ := h2.reads I ry
  exact SeqAt.compareNe_reads r1 r2 l1 l2 (by omega) ⟨.bl _, H, I, rfl, q⟩
/-- xs == [], xs != [] -/
def rEqNil (K : PySem.W.Frag) (neg : Bool) : R2 := fun x y H Q => ∃ (a b : Addr) (xs : List V), x = .ref a ∧ y = .ref b ∧ SqL K H a xs ∧ SqL K H b [] ∧ Q (.bl (if neg then !xs.isEmpty else xs.isEmpty)) H
theorem op_eqNil (hu : X.A.units + 64 < cLine) : OpR X (compareOp .Eq) (rEqNil X.K false) := by
  intro pins s σ H x y v u Q I rx ry h
  obtain ⟨a, b, xs, rfl, rfl, h1, h2, q⟩ := h
  cases rx
  cases ry
  obtain ⟨its, r1, p1, _⟩ := I.list h1
  obtain ⟨its2, r2, p2, _⟩ := I.list h2
  cases r2
  have q' : ∀ b', b' = xs.isEmpty → EP X pins σ Q (.bool b') s := fun b' e => ⟨.bl b', H, I, rfl, by subst e; exact q⟩
  cases r1 with
  | nil => exact SeqAt.RcAt.lists (e := fun _ => true) p1.isList p2.isList rfl (by omega) (fun i h1 _ => by simp at h1) X.prog X.w _ _ (q' _ (by simp))
  | cons r rr => exact SeqAt.RcAt.lists_lengths p1.isList p2.isList (by simp) (by omega) X.prog X.w _ _ (q' _ rfl)
end
end L2

namespace L2
open PySem PySem.Spec PyProof.Rows

section
variable {X : Cx}
/-! ### texts cut -/
def cutS (z : Str) (lo hi : Option Int) : Str := ⟨((z.cps.toList.drop (HT.sIx z.length 0 lo)).take (HT.sIx z.length z.length hi - HT.sIx z.length 0 lo)).toArray⟩
theorem indices_cut (lo hi : Option Int) (n : Nat) : Builtin.Str.strSliceIndices lo hi 1 n = (List.range (HT.sIx n n hi - HT.sIx n 0 lo)).map (HT.sIx n 0 lo + ·) := by
  unfold Builtin.Str.strSliceIndices
  rw [← sliceRange_one]
  have h1 : ∀ (v : Option Int) (d : Nat), d ≤ n → (match v with | none => ((d : Nat) : Int) | some i => if (1 : Int) > 0 then max 0 (min (if i < 0 then i + (n : Int) else i) (n : Int)) else max (-1) (min (if i < 0 then i + (n : Int) else i) ((n : Int) - 1))) = ((HT.sIx n d v : Nat) : Int) := by
    intro v d hd
    cases v with
    | none => rfl
    | some i =>
      simp only [HT.sIx, show (1 : Int) > 0 by decide, if_true]
      by_cases h : i < 0
      · simp only [h, if_true] <;> omega
      · simp only [h, if_false] <;> omega
  have e1 := h1 lo 0 (Nat.zero_le _)
  have e2 := h1 hi n (Nat.le_refl _)
  simp only [show (1 : Int) > 0 by decide, if_true] at e1 e2 ⊢
  rw [← e1, ← e2]
  cases lo <;> cases hi <;> rfl
def rSlS : V → Option Int → Option Int → Hp → VK → Prop := fun x lo hi H Q => ∃ z : Str, x = .str z ∧ z.length ≤ sizeLine ∧ Q (.str (cutS z lo hi)) H
theorem part_pair {v : Value} {o : Option Int} (p : IsPart v o) : ∃ l : Option (Int × Tok), v = partValue l ∧ o = l.map (·.1) := by
  cases p with
  | none => exact ⟨none, rfl, rfl⟩
  | int i t => exact ⟨some (i, t), rfl, rfl⟩
theorem str_len_list (z : Str) : z.cps.toList.length = z.length := by
  rw [Array.length_toList]; rfl
theorem str_ext {a b : Str} (h : a.cps.toList = b.cps.toList) : a = b := by
  obtain ⟨a⟩ := a; obtain ⟨b⟩ := b
  congr
  exact Array.toList_inj.mp h
theorem sl_str : SlR X rSlS := by
  intro pins s σ H x v vl vu lo hi sl Q I rx hs pl pu h
  obtain ⟨z, rfl, hz, q⟩ := h
  obtain ⟨t, rfl⟩ := rx
  obtain ⟨l, rfl, rfl⟩ := part_pair pl
  obtain ⟨u, rfl, rfl⟩ := part_pair pu
  refine ⟨"str", _, PySem.F.slot_str_getitem.lookup, typeIs_str _ z t, ?_⟩
  refine wpAny_getItem_str_slice (l := l) (u := u) (st := none) hs rfl ?_
  have e : slicePicked z l u none = (List.range (HT.sIx z.length z.length (u.map (·.1)) - HT.sIx z.length 0 (l.map (·.1)))).map (HT.sIx z.length 0 (l.map (·.1)) + ·) := indices_cut _ _ _
  have e2 : (⟨((slicePicked z l u none).filterMap (z.cps[·]?)).toArray⟩ : Str) = cutS z (l.map (·.1)) (u.map (·.1)) := by
    rw [e, pick_run]; rfl
  have hle := HT.sIx_le z.length z.length (Nat.le_refl _) (u.map (·.1))
  have hle0 := HT.sIx_le z.length 0 (Nat.zero_le _) (l.map (·.1))
  unfold sliceMade
  split
  · rename_i hc
    have hc' : (slicePicked z l u none).length = z.length := by
      have := (Bool.and_eq_true _ _).mp hc
      exact eq_of_beq this.2
    have e3 : cutS z (l.map (·.1)) (u.map (·.1)) = z := by
      rw [e, List.length_map, List.length_range] at hc'
      apply str_ext
      show ((z.cps.toList.drop _).take _) = z.cps.toList
      have h0 : HT.sIx z.length 0 (l.map (·.1)) = 0 := by omega
      rw [h0] at hc' ⊢
      rw [List.drop_zero, List.take_of_length_le]
      rw [str_len_list]; omega
    rw [e3] at q
    exact ⟨.str z, H, I, ⟨t, rfl⟩, q⟩
  · rw [e2]
    refine ⟨?_, .str _, H, I.tok _, ⟨_, rfl⟩, q⟩
    have : (cutS z (l.map (·.1)) (u.map (·.1))).length ≤ z.length := by
      show ((z.cps.toList.drop _).take _).toArray.size ≤ _
      rw [List.size_toArray, List.length_take, List.length_drop, str_len_list]
      omega
    omega

/-! ### dicts: copies, == -/
theorem call_dictOf : CallR X (.type "dict") (fun xs H Q => ∃ (a : Addr) (kvs : List (Key × V)), xs = [.ref a] ∧ H a = some (.dK kvs) ∧ ∀ p, H p = none → Q (.ref p) (upd H p (.dK kvs))) := by
  intro pins s σ H xs us Q I r h
  obtain ⟨a, kvs, rfl, ha, q⟩ := h
  obtain ⟨u, rfl, ru⟩ := vals1 r
  cases ru
  exact d_copyOf I (.inl ha) fun p s' hp I' => ⟨.ref p, _, I', rfl, q p hp⟩
theorem hits_same {A : Around} {s : Shared} {kvs : List (Key × V)} {kb : List (Key × Value)} (rb : KV kvs kb) (hn : (kvs.map (·.1)).Nodup) :
    ∀ (r : List (Key × V)) (ka : List (Key × Value)), KV r ka → (∀ p ∈ r, p ∈ kvs) → (∀ p ∈ r, flatV p.2 = true ∧ eqV p.2 p.2 = true) → PySem.W.KeqHits A s kb ka true := by
  intro r
  induction r with
  | nil => intro ka h _ _; cases h; exact .nil
  | cons p r ih =>
    intro ka h hm hf
    cases h with
    | cons h1 h2 =>
      rename_i q ka'
      obtain ⟨k, v⟩ := p
      obtain ⟨k', v'⟩ := q
      obtain ⟨e, rv⟩ := h1
      have e : k = k' := e
      subst e
      have hv : valV kvs k = some v := by
        have hp := hm (k, v) List.mem_cons_self
        have : ∀ (l : List (Key × V)), (l.map (·.1)).Nodup → (k, v) ∈ l → valV l k = some v := by
          intro l
          induction l with
          | nil => intro _ h; cases h
          | cons a l il =>
            intro hn hm
            have hn : (a.1 :: l.map (·.1)).Nodup := hn
            obtain ⟨n1, n2⟩ := List.nodup_cons.mp hn
            rcases List.mem_cons.mp hm with z | z
            · subst z; exact valV_pos rfl
            · rw [valV_neg (fun e => n1 (by rw [e]; exact List.mem_map.mpr ⟨_, z, rfl⟩))]; exact il n2 z
        exact this kvs hn hp
      have hr := rb.val k
      rw [hv] at hr
      obtain ⟨y, ey, ry⟩ := hr.some_of
      obtain ⟨f1, f2⟩ := hf (k, v) List.mem_cons_self
      have hE : SeqAt.EqAt A s v' y (eqV v v) := eqAt_V rv ry f1 f1
      rw [f2] at hE
      have := PySem.W.KeqHits.hit ey hE (ih ka' h2 (fun p hp => hm p (List.mem_cons_of_mem _ hp)) fun p hp => hf p (List.mem_cons_of_mem _ hp))
      simpa using this
def rEqDict (v : Bool) : R2 := fun x y H Q => ∃ (a b : Addr) (kvs : List (Key × V)), x = .ref a ∧ y = .ref b ∧ H a = some (.dK kvs) ∧ H b = some (.dK kvs) ∧ (kvs.map (·.1)).Nodup ∧ (∀ p ∈ kvs, flatV p.2 = true ∧ eqV p.2 p.2 = true) ∧ Q (.bl v) H
theorem op_eqDict (hu : X.A.units < cLine) : OpR X (compareOp .Eq) (rEqDict true) := by
  intro pins s σ H x y v u Q I rx ry h
  obtain ⟨a, b, kvs, rfl, rfl, h1, h2, hn, hf, q⟩ := h
  cases rx
  cases ry
  obtain ⟨z1, d1, va, ra, da⟩ := dk_of I.hok h1
  obtain ⟨z2, d2, vb, rb, db⟩ := dk_of I.hok h2
  have hl : va.length = vb.length := by rw [← ra.length, ← rb.length]
  refine PySem.W.keq_eq d1 d2 da db hu (fun _ => hits_same rb hn kvs va ra (fun _ h => h) hf) ⟨.bl _, H, I, rfl, ?_⟩
  rw [hl]; simpa using q
theorem op_neDict (hu : X.A.units < cLine) : OpR X (compareOp .NotEq) (rEqDict false) := by
  intro pins s σ H x y v u Q I rx ry h
  obtain ⟨a, b, kvs, rfl, rfl, h1, h2, hn, hf, q⟩ := h
  cases rx
  cases ry
  obtain ⟨z1, d1, va, ra, da⟩ := dk_of I.hok h1
  obtain ⟨z2, d2, vb, rb, db⟩ := dk_of I.hok h2
  have hl : va.length = vb.length := by rw [← ra.length, ← rb.length]
  refine PySem.W.keq_ne d1 d2 da db hu (fun _ => hits_same rb hn kvs va ra (fun _ h => h) hf) ⟨.bl _, H, I, rfl, ?_⟩
  rw [hl]; simpa using q

/-! ### isinstance(x, T) -/
theorem call_isi : CallR X (.builtin "isinstance") (fun xs H Q => ∃ (x c : V) (t cv : Value) (b : Bool), xs = [x, c] ∧ RelV c cv ∧ TyOf X.K H x t ∧ PySem.W.kitOne X.K t cv = some b ∧ Q (.bl b) H) := by
  intro pins s σ H xs us Q I r h
  obtain ⟨x, c, t, cv, b, rfl, rc, ty, e, q⟩ := h
  obtain ⟨u, w', rfl, r1, r2⟩ := vals2 r
  have : w' = cv := by
    cases c with
    | ref a => cases rc; cases r2; rfl
    | ty n => cases rc; cases r2; rfl
    | non => cases rc; cases r2; rfl
    | bl b => cases rc; cases r2; rfl
    | int i => obtain ⟨z, rfl⟩ := rc; exact absurd e (by unfold PySem.W.kitOne PySem.W.kitCls; cases ty <;> simp)
    | str i => obtain ⟨z, rfl⟩ := rc; exact absurd e (by unfold PySem.W.kitOne PySem.W.kitCls; cases ty <;> simp)
    | byt i => obtain ⟨z, rfl⟩ := rc; exact absurd e (by unfold PySem.W.kitOne PySem.W.kitCls; cases ty <;> simp)
    | flt i => obtain ⟨z, rfl⟩ := rc; exact absurd e (by unfold PySem.W.kitOne PySem.W.kitCls; cases ty <;> simp)
  subst this
  exact isinst_ok I r1 ty e fun tk => ⟨.bl b, H, I.tok _, rfl, q⟩
end
end L2

namespace HT
open PySem PyProof.Rows
section
variable {prog : Program} {w : World} {A : Around} {E : Value → Shared → Prop} {s : Shared}
/-! ### t[::-1] -/
theorem rev_adjust (n : Nat) : Builtin.Slice.sliceAdjust none none (-1) (n : Int) = ((n : Int) - 1, -1) := by
  unfold Builtin.Slice.sliceAdjust
  simp
theorem rev_places (n : Nat) : Builtin.Slice.slicePlaces ((n : Int) - 1) (-1) (-1) = n := by
  unfold Builtin.Slice.slicePlaces
  rw [if_neg (by decide)]
  by_cases h : (n : Int) - 1 > -1
  · rw [if_pos h, show (-(-1) : Int) = 1 by decide, Int.ediv_one]; omega
  · rw [if_neg h]; omega
theorem rev_applied {sl : Addr} {n : Nat} {t : Tok} {Q : Int × Int × Nat → Shared → Prop} (hs : s.heap.IsSliceOf sl .none .none (.int (-1) t)) (h : Q ((n : Int) - 1, -1, n) s) :
    wpAny (model prog w) A (Builtin.Slice.sliceApplied (.ref sl) (pure (n : Int))) Q E s := by
  obtain ⟨os, hos, hcs, hds⟩ := id hs
  unfold Builtin.Slice.sliceApplied Builtin.Slice.sliceFields
  refine wpAny_bind (wpAny_bind (wpAny_field hos hds (x := .none) rfl (wpAny_bind (wpAny_field hos hds (x := .none) rfl (wpAny_bind (wpAny_field hos hds (x := .int (-1) t) rfl (wpAny_pure ?_)))))))
  refine wpAny_bind (slicePart_int ?_)
  show wpAny _ _ (if ((-1 : Int) == 0) = true then _ else _) _ _ s
  rw [if_neg (by decide)]
  refine wpAny_bind (slicePart_none (wpAny_bind (slicePart_none (wpAny_bind (wpAny_pure ?_)))))
  show wpAny _ _ (match Builtin.Slice.sliceAdjust none none (-1) (n : Int) with | (lo, hi) => pure (lo, (-1 : Int), Builtin.Slice.slicePlaces lo hi (-1))) _ _ s
  rw [rev_adjust]
  show wpAny _ _ (pure ((n : Int) - 1, (-1 : Int), Builtin.Slice.slicePlaces ((n : Int) - 1) (-1) (-1))) _ _ s
  rw [rev_places]
  exact wpAny_pure h
theorem rev_pick (xs : Array Value) : ((List.range xs.size).filterMap fun (m : Nat) => xs[(((xs.size : Int) - 1) + (m : Int) * (-1)).toNat]?).toArray = xs.toList.reverse.toArray := by
  congr 1
  have e : ∀ m ∈ List.range xs.size, xs[(((xs.size : Int) - 1) + (m : Int) * (-1)).toNat]? = xs[xs.size - 1 - m]? := by
    intro m hm
    have := List.mem_range.mp hm
    congr 1
    omega
  have fc : ∀ (l : List Nat), (∀ m ∈ l, xs[(((xs.size : Int) - 1) + (m : Int) * (-1)).toNat]? = xs[xs.size - 1 - m]?) → l.filterMap (fun (m : Nat) => xs[(((xs.size : Int) - 1) + (m : Int) * (-1)).toNat]?) = l.filterMap (fun m => xs[xs.size - 1 - m]?) := by
    intro l
    induction l with
    | nil => intro _; rfl
    | cons a l ih =>
      intro h
      rw [List.filterMap_cons, List.filterMap_cons, h a List.mem_cons_self, ih fun m hm => h m (List.mem_cons_of_mem _ hm)]
  rw [fc _ e]
  have e2 : (List.range xs.size).filterMap (fun m => xs[xs.size - 1 - m]?) = ((List.range xs.size).map fun k => xs.size - 1 - k).filterMap (xs[·]?) := by
    rw [List.filterMap_map]; rfl
  rw [e2, PySem.W.krv_range, List.filterMap_reverse, PySem.W.krv_all]
theorem getItem_tuple_rev {t sl : Addr} {items : Array Value} {tk : Tok} {Q : Value → Shared → Prop} (ht : IsTup s.heap t items) (hs : s.heap.IsSliceOf sl .none .none (.int (-1) tk))
    (h : Q (.ref s.heap.objs.size) { s with heap := s.heap.push { cls := .type "tuple", data := .seq items.toList.reverse.toArray } })
    (hsz : items.size ≤ sizeLine) : wpAny (model prog w) A (getItem (.ref t) (.ref sl)) Q E s := by
  have htake : sizeOk (.seq items.toList.reverse.toArray) := by
    show items.toList.reverse.toArray.size ≤ sizeLine
    rw [List.size_toArray, List.length_reverse, Array.length_toList]
    exact hsz
  obtain ⟨os, hos, hcs, hds⟩ := id hs
  have hTs : s.TypeIs (.ref sl) "slice" := ⟨os, hos, hcs⟩
  unfold getItem
  try with_reducible refine wpAny_holding ?_
  first | refine wpAny_bind (wpAny_pure ?_) | skip
  refine wpAny_bind (wpAny_sequenceKey ht.typeIs (by decide) ?_)
  refine wpAny_bind (wpAny_callSpecial?_slot (name := Str.ofString "__getitem__") ht.typeIs PyProof.Rows.slot_tuple_getitem
    (wpAny_call_entry PyProof.Rows.slot_tuple_getitem ht.typeIs entry_tuple_getitem ?_ (args_tuple_getitem _ _)))
  show wpAny _ _ (Builtin.Tuple.tupleItemsOf (.ref t) >>= _) _ _ s
  refine wpAny_bind (tupleItemsOf_ ht ?_)
  refine wpAny_bind (wpAny_typeOf hTs ?_)
  rw [if_pos (by decide)]
  refine wpAny_bind (rev_applied hs ?_)
  have hno : ¬ ((((items.size : Int) - 1) == 0 && (-1 : Int) == 1 && items.size == items.size) = true) := by
    intro q
    rw [Bool.and_eq_true, Bool.and_eq_true] at q
    exact absurd q.1.2 (by decide)
  show wpAny _ _ (if (((items.size : Int) - 1) == 0 && (-1 : Int) == 1 && items.size == items.size) = true then _ else _) _ _ s
  rw [if_neg hno, rev_pick]
  first
    | exact wpAny_bind (m := Builtin.Tuple.tupleExact _) (wpAny_newObj_type (wpAny_pure ⟨_, rfl, wpAny_pure h⟩) htake)
    | exact wpAny_bind (m := Builtin.Tuple.tupleExact _) (wpAny_newObj_type (wpAny_bind (wpAny_pure (wpAny_pure ⟨_, rfl, wpAny_pure h⟩))) htake)
    | exact wpAny_bind (wpAny_bind (m := Builtin.Tuple.tupleExact _) (wpAny_newObj_type (wpAny_pure (wpAny_pure ⟨_, rfl, wpAny_pure h⟩)) htake))
    | exact wpAny_bind (wpAny_bind (m := Builtin.Tuple.tupleExact _) (wpAny_newObj_type (wpAny_pure ⟨_, rfl, wpAny_pure h⟩) htake))
end
end HT
namespace L2
open PySem PySem.Spec PyProof.Rows
section
variable {X : Cx} {e st : Expr} {te ts : TE} {p2 pos : Pos}
def tRevT (K : PySem.W.Frag) (te ts : TE) : TE := fun σ H Q => te σ H fun x H1 => ts σ H1 fun y H2 => ∃ (a : Addr) (xs : List V), x = .ref a ∧ y = .int (-1) ∧ SqT K H2 a xs ∧ ∀ p, H2 p = none → Q (.ref p) (upd H2 p (.tup xs.reverse))
theorem pe_revT (he : PE X e te) (hst : PE X st ts) : PE X (.Subscript e (.Slice none none (some st) p2) pos) (tRevT X.K te ts) := by
  intro pins s σ H Q I h
  refine Subscript_ (thn (he pins s σ H _ I h) fun v s1 ⟨x, H1, I1, r1, q1⟩ => ?_)
  refine wpAny_Slice ?_
  rw [evalPart_none]
  refine wpAny_pure (wpAny_pure ?_)
  rw [evalPart_some]
  refine thn (hst pins s1 σ H1 _ I1 q1) fun vs s2 ⟨y, H2, I2, r2, q2⟩ => ?_
  obtain ⟨a, xs, rfl, rfl, hx, q⟩ := q2
  cases r1
  obtain ⟨t, rfl⟩ := r2
  have I4 : Inv X pins σ H2 { s2 with heap := s2.heap.push { cls := .type "slice", data := .fields #[.none, .none, .int (-1) t] } } := I2.kept (t' := s2.toks) fun b ob q => Heap.get?_push_of_some _ q
  obtain ⟨its, r, ht, hz⟩ := I4.tuple hx
  have hlen : its.toArray.size = xs.length := by rw [List.size_toArray]; exact r.length.symm
  show wpAny (model X.prog X.w) X.A (subscriptTail e (.Slice none none (some st) p2) (.ref a) (.ref s2.heap.objs.size)) (EP X pins σ Q) X.xe { s2 with heap := s2.heap.push { cls := .type "slice", data := .fields #[.none, .none, .int (-1) t] } }
  refine tail_any (ops := [.ref a, .ref s2.heap.objs.size]) ht.typeIs PyProof.Rows.slot_tuple_getitem.lookup ?_ (by with_unfolding_all rfl)
  refine HT.getItem_tuple_rev ht (Heap.IsSliceOf.new ..) ?_ (by rw [hlen]; exact hz)
  refine ⟨.ref _, _, I4.laid (t' := s2.toks) (o := .tup xs.reverse) (fun b ob q => Heap.get?_push_of_some _ q) (Nat.le_refl _) ?_, rfl, q _ (I4.hok.fresh (Nat.le_refl _))⟩
  exact ⟨by rw [List.length_reverse]; exact hz, _, Vals.reverse r, IsTup.new _ _⟩
end

/-! ### for c in a text of plain signs -/
def Its (z : Str) : It := ⟨fun i _ => i < z.length, fun i H x H' => H' = H ∧ ∃ c, z.cps[i]? = some c ∧ x = .str ⟨#[c]⟩, fun i _ => z.length ≤ i⟩
theorem turn_str {P : Program} {w : World} {K : PySem.W.Frag} {tg : Expr} (z : Str) (t : Tok) (it : Addr) : Turn P w K tg (Its z) [it] it (fun i h => h.IsStrIter it "str_ascii_iterator" z t i) where
  mem := by simp
  obj := fun i h st b hb => by
    have e : b = it := by simpa using hb
    subst e
    obtain ⟨o, e, c, d⟩ := st
    exact ⟨o, e, fun v z => by rw [d] at z; cases z⟩
  keep := fun i h h' st k => by
    obtain ⟨o, e, r⟩ := st
    exact ⟨o, k it (by simp) o e, r⟩
  item := by
    intro X hP hw hK hc i pins s σ H E I hf st hg
    subst hP hw hK
    have hg : i < z.length := hg
    obtain ⟨f0, f1, f2, f3, f4, f5⟩ := hf it (by simp)
    have hz : z.cps[i]? = some (z.cps[i]'hg) := Array.getElem?_eq_getElem hg
    refine wpAny_pyNext_ascii_item st hz fun h' st' sb => ?_
    have I1 : Inv X pins σ H { s with heap := h', toks := s.toks + 1 } := I.turned (t' := s.toks + 1) (fun b o hb e => (sb.2 b hb).trans e) f0 f1 f3 f4 f5
    obtain ⟨o, e, c, d⟩ := id st'
    exact ⟨_, rfl, go_of (s := { s with heap := h', toks := s.toks + 1 }) e c d (by decide) ⟨.str ⟨#[z.cps[i]'hg]⟩, H, I1, ⟨_, rfl⟩, ⟨rfl, _, hz, rfl⟩, st', fun b hb => (hf b hb).1⟩⟩
  done := by
    intro X hP hw hK hc i pins s σ H E I hf st hg
    subst hP hw hK
    have hg : z.length ≤ i := hg
    obtain ⟨f0, f1, f2, f3, f4, f5⟩ := hf it (by simp)
    exact wpAny_pyNext_ascii_end (I.ok.hd hc) st (Array.getElem?_eq_none (by exact hg)) fun h' eb => ⟨rfl, I.turned (t' := s.toks) (fun b o hb e => eb b o hb e) f0 f1 f3 f4 f5⟩
  self := fun _ _ _ _ _ st h => wpAny_pyIter_striter_ascii st h
section
variable {X : Cx} {tg : Expr}
def iStr (tl : TE) : TI := fun σ H R => tl σ H fun x H1 => ∃ z : Str, x = .str z ∧ z.cps.all (· < 128) = true ∧ R (Its z) H1
theorem pi_str {l : Expr} {tl : TE} (hl : PE X l tl) : PI X tg l (iStr tl) := by
  intro pins s σ H R I h
  refine thn (hl pins s σ H _ I h) fun v s1 ⟨x, H1, I1, r1, z, e1, ha, q⟩ => ?_
  subst e1
  obtain ⟨t, rfl⟩ := r1
  refine wpAny_pyIter_ascii ha ?_
  have I2 : Inv X pins σ H1 { s1 with heap := s1.heap.push { cls := .type "str_ascii_iterator", data := .fields #[.str z t, .int 0 0] } } := I1.kept (t' := s1.toks) fun b ob q => Heap.get?_push_of_some _ q
  refine ⟨s1.heap.objs.size, [s1.heap.objs.size], _, Its z, H1, rfl, I2, turn_str z t _, ⟨_, Heap.get?_push_size _ rfl, rfl, rfl⟩, fun b hb => ?_, q⟩
  have e : b = s1.heap.objs.size := by simpa using hb
  subst e
  exact I1.fpOk (Nat.le_refl _) (I1.hok.fresh (Nat.le_refl _))
end
end L2

namespace L2
open PySem PySem.Spec PyProof.Rows
/-! ### set(xs) of texts; its len -/
def dedS (acc : List Str) (x : Str) : List Str := if x ∈ acc then acc else acc ++ [x]
def ddS (l : List Str) : List Str := l.foldl dedS []
theorem ddS_snoc (l : List Str) (x : Str) : ddS (l ++ [x]) = dedS (ddS l) x := by unfold ddS; rw [List.foldl_append]; rfl
theorem mem_dedS (acc : List Str) (x y : Str) : y ∈ dedS acc x ↔ y ∈ acc ∨ y = x := by
  unfold dedS
  split
  · rename_i h
    constructor
    · exact .inl
    · rintro (q | q)
      · exact q
      · rw [q]; exact h
  · simp [List.mem_append]
theorem len_dedS (acc : List Str) (x : Str) : (dedS acc x).length = if x ∈ acc then acc.length else acc.length + 1 := by
  unfold dedS
  split <;> simp
theorem ddS_le (l : List Str) : ∀ k, (ddS (l.take k)).length ≤ k := by
  intro k
  induction k with
  | zero => simp [ddS]
  | succ k ih =>
    rw [List.take_add_one]
    cases e : l[k]? with
    | none => simp; omega
    | some x =>
      simp only [Option.toList_some]
      rw [ddS_snoc, len_dedS]
      split <;> omega
theorem dedS_mono (r : List Str) : ∀ acc, acc.length ≤ (r.foldl dedS acc).length ∧ (r.foldl dedS acc).length ≤ acc.length + r.length := by
  induction r with
  | nil => intro acc; simp
  | cons x r ih =>
    intro acc
    have h := ih (dedS acc x)
    rw [len_dedS] at h
    simp only [List.foldl_cons, List.length_cons]
    split at h <;> omega
theorem dedS_nodup : ∀ (r acc : List Str), acc.Nodup → (r.foldl dedS acc).length = acc.length + r.length → (acc ++ r).Nodup := by
  intro r
  induction r with
  | nil => intro acc h _; simpa using h
  | cons x r ih =>
    intro acc h e
    simp only [List.foldl_cons, List.length_cons] at e
    have hb := dedS_mono r (dedS acc x)
    rw [len_dedS] at hb
    by_cases hx : x ∈ acc
    · rw [if_pos hx] at hb; omega
    · have e1 : dedS acc x = acc ++ [x] := by unfold dedS; rw [if_neg hx]
      rw [e1] at e
      have := ih (acc ++ [x]) (nd_snoc h hx) (by rw [e]; simp; omega)
      simpa using this
theorem ddS_nodup {l : List Str} (h : (ddS l).length = l.length) : l.Nodup := by
  have := dedS_nodup l [] List.nodup_nil (by simpa [ddS] using h)
  simpa using this
theorem ddS_of_nodup {l : List Str} (h : l.Nodup) : (ddS l).length = l.length := by
  have : ∀ (r acc : List Str), (acc ++ r).Nodup → r.foldl dedS acc = acc ++ r := by
    intro r
    induction r with
    | nil => intro acc _; simp
    | cons x r ih =>
      intro acc hn
      have hx : ¬ x ∈ acc := fun m => by
        have := (List.nodup_append.mp hn).2.2 x m x List.mem_cons_self
        exact this rfl
      simp only [List.foldl_cons]
      have e1 : dedS acc x = acc ++ [x] := by unfold dedS; rw [if_neg hx]
      rw [e1, ih (acc ++ [x]) (by simpa using hn)]
      simp
  unfold ddS
  rw [this l [] (by simpa using h)]
  simp

theorem strSet_congr {P : Program} {w : World} {h : Heap} {a : Addr} {S S' : Str → Bool} {n n' : Nat} (z : h.SetOf (PySem.strKind P w) a S n) (e : ∀ k, S k = S' k) (en : n = n') : h.SetOf (PySem.strKind P w) a S' n' := by
  have : S = S' := funext e
  subst this en
  exact z
section
variable {prog : Program} {w : World} {A : Around} {R : Result → Shared → Prop} {J : Addr} {fp wr : List Addr} {G : Array GenState → Array GenState → Prop} {n : Nat} {P : Nat → Value → Prop} {St : Nat → Shared → Prop}
theorem strs_loop (W : WalksS prog w A.in1 J fp wr G n P St) (a : Addr) (haf : a ∉ fp) (ys : List Str) (hys : ys.length = n) (hp : ∀ i v, P i v → ∃ x t, ys[i]? = some x ∧ v = .str x t) (hb : n + 1 < scanBound) :
    ∀ (k i : Nat) (s : Shared), n - i = k → i ≤ n → St i s → s.heap.SetOf (PySem.strKind prog w) a (fun x => decide (x ∈ ddS (ys.take i))) (ddS (ys.take i)).length →
      (∀ s', Moved (a :: wr) G s s' → s'.heap.SetOf (PySem.strKind prog w) a (fun x => decide (x ∈ ddS ys)) (ddS ys).length → R (.ok (.ret .none)) s') →
      codeAny (model prog w) A (.builtin "set.update.loop" ⟨[.ref a, .ref J], []⟩) R s := by
  have haw : a ∉ wr := fun z => haf (W.sub _ z)
  have hsub : ∀ b ∈ wr, b ∈ a :: wr := fun b z => List.mem_cons_of_mem _ z
  intro k
  induction k with
  | zero =>
    intro i s hk hi st hS hR
    have ei : i = n := by omega
    subst ei
    rw [List.take_of_length_le (by omega)] at hS
    refine codeAny_builtin PyProof.Rows.F.entry_set_update_loop ?_
    rw [Around.under_plainId PyProof.Rows.F.plain_set_update_loop _]
    show wpAny _ A.in1 (pyNext (.ref J) >>= _) _ _ s
    refine wpAny_bind (W.done s _ _ st fun s' mv => ?_)
    show wpAny _ A.in1 (ret Value.none) _ _ s'
    obtain ⟨o, es, ep, t, ho, rest⟩ := hS
    exact wpAny_pure (hR s' (mv.mono hsub) ⟨o, es, ep, t, mv.heap a _ haw ho, rest⟩)
  | succ k ih =>
    intro i s hk hi st hS hR
    have hlt : i < n := by omega
    refine codeAny_builtin PyProof.Rows.F.entry_set_update_loop ?_
    rw [Around.under_plainId PyProof.Rows.F.plain_set_update_loop _]
    show wpAny _ A.in1 (pyNext (.ref J) >>= _) _ _ s
    refine wpAny_bind (W.item i s _ _ hlt st fun v s' hv st' mv => ?_)
    obtain ⟨x, t, hx, rfl⟩ := hp i v hv
    have hS1 : s'.heap.SetOf (PySem.strKind prog w) a (fun x => decide (x ∈ ddS (ys.take i))) (ddS (ys.take i)).length := by
      obtain ⟨o, es, ep, tb, ho, rest⟩ := hS
      exact ⟨o, es, ep, tb, mv.heap a _ haw ho, rest⟩
    show wpAny _ A.in1 (holding [Value.str x t] (setAdd a (.str x t)) >>= _) _ _ s'
    refine wpAny_bind (wpAny_holding ?_)
    unfold setAdd
    refine wpAny_holding ?_
    have hk' : (PySem.strKind prog w).is x (.str x t) = true := by simp [PySem.strKind, Value.isStrOf]
    refine wpAny_bind ((PySem.strKind prog w).pyHash (k := x) hk' ?_)
    have hroom : (ddS (ys.take i)).length + 1 < scanBound := by have := ddS_le ys i; omega
    refine wpAny_setAddHashed_of (knd := strKind prog w) (s := { s' with toks := s'.toks + 1 }) hk' rfl hS1 hroom fun h' sb hS2 => ?_
    have et : ys.take (i + 1) = ys.take i ++ [x] := by rw [List.take_add_one, hx]; rfl
    have hS3 : h'.SetOf (PySem.strKind prog w) a (fun x => decide (x ∈ ddS (ys.take (i + 1)))) (ddS (ys.take (i + 1))).length := by
      refine strSet_congr hS2 (fun y => ?_) ?_
      · rw [et, ddS_snoc]
        have := mem_dedS (ddS (ys.take i)) x y
        by_cases h1 : y ∈ ddS (ys.take i) <;> by_cases h2 : y = x <;> simp only [h1, h2, true_or, or_true, or_false, false_or] at this <;> simp [this, h1, h2]
        all_goals (subst h2; simp [this])
      · rw [et, ddS_snoc, len_dedS]
        by_cases h1 : x ∈ ddS (ys.take i) <;> simp [h1]
    refine wpAny_pure ⟨plainId_quiet PyProof.Rows.F.plain_set_update_loop _, ih (i + 1) _ (by omega) hlt (W.frame _ s' _ _ st' (Nat.le_succ _) fun b hb o e => ?_) hS3 fun s'' mv'' hS'' => ?_⟩
    · rw [sb.2 b (fun z : b = a => haf (by rw [← z]; exact hb))]; exact e
    · refine hR s'' (Moved.trans W.gtrans ((mv.mono hsub).then_heap (Nat.le_succ _) fun b o hb e => ?_) mv'') hS''
      rw [sb.2 b (fun z : b = a => hb (by rw [z]; exact List.mem_cons_self))]; exact e
end
end L2

namespace PySem
open PyProof.Rows L2
section
variable {prog : Program} {w : World} {A : Around}
/-- set(x): the new object is made, then its own __init__ runs -/
theorem make_set {E : Value → Shared → Prop} {s : Shared} {x : Value} {Q : Value → Shared → Prop}
    (fill : ∀ g, wpAny (model prog w) A.in1.in1 (Builtin.«set.__init__» ⟨[.ref s.heap.objs.size, x], []⟩)
      (fun f s1 => f = .done (.ret .none) ∧ Q (.ref s.heap.objs.size) s1) E { s with heap := s.heap.push { cls := .type "set", dict := none, data := .set #[] 0 (.fresh 0 0 g) } }) :
    wpAny (model prog w) A (call (.type "set") [x]) Q E s := by
  obtain ⟨c, r, mro⟩ := F.called_set.mro
  refine wpAny_call (codeAny_of_tree (wpAny_pure ⟨Code.quiet_builtin _ (by decide +kernel), codeAny_builtin F.entry_type_call ?_⟩))
  have it := F.called_set
  have body : wpAny (model prog w) A.in1 (Builtin.«type.__call__» ⟨[.type "set", x], []⟩) (fun f s1 => match f with | .done f => wants Q E (.ok f) s1 | .again c' => c'.quiet = true ∧ codeAny (model prog w) A c' (wants Q E) s1) (fun e s1 => wants Q E (.error e) s1) s := by
    unfold Builtin.«type.__call__»
    dsimp only
    rw [it.notType]
    simp only [Bool.false_eq_true, if_false, it.canCreate]
    refine wpAny_bind (wpAny_of_eq (F.typeCall_set_1 x) (wpAny_bind (wpAny_of_eq mro ?_)))
    rw [if_neg (show ¬ (c :: r).isEmpty = true from Bool.false_ne_true)]
    refine wpAny_bind (wpAny_of_eq it.made (wpAny_bind (wpAny_pure (wpAny_bind (wpAny_holding (wpAny_call (code_set_new_1 x fun g => ?_)))))))
    have isSet : Shared.TypeIs { s with heap := s.heap.push { cls := .type "set", dict := none, data := .set #[] 0 (.fresh 0 0 g) } } (.ref s.heap.objs.size) "set" := ⟨_, Heap.get?_push_size _ rfl, rfl⟩
    refine wpAny_bind (wpAny_isInstance isSet it.sub ?_)
    rw [if_neg (show ¬ (!true) = true from Bool.false_ne_true)]
    refine wpAny_bind (wpAny_holding (wpAny_callSpecial?_slot isSet it.init (wpAny_call (codeAny_call_builtin it.init.plain F.entry_set_init (check_set_init_1 isSet ?_)))))
    refine wpAny_mono (fill g) (fun f s1 q => ?_) fun _ _ q => q
    obtain ⟨rfl, q⟩ := q
    exact wpAny_pure q
  exact body
/-- the items of a list into a set: the loop over its iterator -/
theorem fill_from {E : Value → Shared → Prop} {s : Shared} {S l : Addr} {its : Array Value} {Q : Unit → Shared → Prop} (hl : s.heap.IsList l its)
    (loop : codeAny (model prog w) A (.builtin "set.update.loop" ⟨[.ref S, .ref s.heap.objs.size], []⟩) (fun r s1 => match r with | .ok (.ret _) => Q () s1 | .ok _ => False | .error e => E e s1)
      { s with heap := s.heap.push { cls := .type "list_iterator", data := .fields #[.ref l, .int 0 0] } }) :
    wpAny (model prog w) A (Builtin.Frozenset.updateFrom "set.__init__" S (.ref l)) Q E s := by
  have noset : wpAny (model prog w) A (Builtin.Frozenset.isAnySet (.ref l)) (fun b s1 => b = false ∧ s1 = s) E s :=
    wpAny_bind (wpAny_isInstance hl.typeIs F.sub_list_set (wpAny_isInstance hl.typeIs F.sub_list_frozenset ⟨rfl, rfl⟩))
  refine wpAny_bind (wpAny_mono noset (fun b s1 q => ?_) fun _ _ q => q)
  obtain ⟨rfl, rfl⟩ := q
  refine wpAny_bind (wpAny_typeOf hl.typeIs (wpAny_bind (wpAny_pyIter_list hl (wpAny_bind (wpAny_runValue ?_)))))
  exact codeAny_mono loop fun r s1 q => by
    match r, q with
    | .ok (.ret v), q => exact wpAny_pure q
    | .error e, q => exact q
abbrev newSetO (g : Bool) : Obj := { cls := .type "set", dict := none, data := .set #[] 0 (.fresh 0 0 g) }
/-- set.__init__ of a set that is still as it was made -/
theorem init_fill {E : Value → Shared → Prop} {s : Shared} {S : Addr} {g : Bool} {x : Value} {Q : Fin → Shared → Prop} (hS : s.heap.get? S = some (newSetO g))
    (fill : wpAny (model prog w) A (Builtin.Frozenset.updateFrom "set.__init__" S x) (fun _ s1 => Q (.done (.ret .none)) s1) E s) :
    wpAny (model prog w) A (Builtin.«set.__init__» ⟨[.ref S, x], []⟩) Q E s := by
  unfold Builtin.«set.__init__»
  generalize Builtin.Frozenset.updateFrom = up at fill ⊢
  wp_walk
  exact wpAny_mono fill (fun _ _ q => wpAny_pure q) fun _ _ q => q
theorem strs_len {us : List Value} {zs : List Str} (z : StrsAre us zs) : zs.length = us.length := by
  induction z with
  | nil => rfl
  | cons _ _ _ ih => rw [List.length_cons, List.length_cons, ih]
theorem strs_get {us : List Value} {zs : List Str} (z : StrsAre us zs) : ∀ {i : Nat} {v : Value}, us[i]? = some v → ∃ x t, zs[i]? = some x ∧ v = .str x t := by
  induction z with
  | nil => intro i v e; cases e
  | cons x t _ ih =>
    intro i v e
    match i, e with
    | 0, e => exact ⟨x, t, rfl, (Option.some.inj e).symm⟩
    | i + 1, e => exact ih (i := i) e
/-- only the heap and the count of texts are new -/
theorem same_but {s s' : Shared} (a : s'.gens = s.gens) (b : s'.drawn = s.drawn) (c : s'.os = s.os) : s' = { s with heap := s'.heap, toks := s'.toks } := by
  cases s
  cases s'
  cases a
  cases b
  cases c
  rfl
set_option maxHeartbeats 800000 in
/-- a new set of a list of texts -/
theorem call_set_strs {E : Value → Shared → Prop} {s : Shared} {l : Addr} {items : Array Value} {ys : List Str} {Q : Value → Shared → Prop} (hh : A.handled = none) (hl : s.heap.IsList l items) (hi : StrsAre items.toList ys) (hb : items.size + 1 < scanBound)
    (h : ∀ (h' : Heap) (tk : Nat), h'.SetOf (PySem.strKind prog w) s.heap.objs.size (fun x => decide (x ∈ ddS ys)) (ddS ys).length → (∀ b o, b < s.heap.objs.size → s.heap.get? b = some o → h'.get? b = some o) →
      Q (.ref s.heap.objs.size) { s with heap := h', toks := tk }) : wpAny (model prog w) A (call (.type "set") [.ref l]) Q E s := by
  refine make_set fun g => init_fill (Heap.get?_push_size _ rfl) (fill_from (hl.push _) ?_)
  -- where things lie: the set, then its iterator
  have two : (s.heap.push (newSetO g)).objs.size = s.heap.objs.size + 1 := Heap.size_push ..
  have lt : l < s.heap.objs.size := by
    obtain ⟨o, e, _⟩ := hl
    exact Heap.lt_size e
  have ne1 : l ≠ (s.heap.push (newSetO g)).objs.size := by
    rw [two]
    exact Nat.ne_of_lt (Nat.lt_succ_of_lt lt)
  have ne2 : s.heap.objs.size ∉ [(s.heap.push (newSetO g)).objs.size, l] := fun z => by
    rw [two] at z
    rcases List.mem_cons.mp z with q | q
    · exact Nat.ne_of_lt (Nat.lt_succ_self _) q
    · exact Nat.ne_of_gt lt (List.mem_singleton.mp q)
  have len : ys.length = items.size := by rw [strs_len hi, Array.length_toList]
  have item : ∀ (i : Nat) (v : Value), items[i]? = some v → ∃ x t, ys[i]? = some x ∧ v = .str x t := fun i v e => strs_get hi (by rw [Array.getElem?_toList]; exact e)
  have empty : ((s.heap.push (newSetO g)).push { cls := .type "list_iterator", data := .fields #[.ref l, .int 0 0] }).SetOf (PySem.strKind prog w) s.heap.objs.size (fun x => decide (x ∈ ddS (ys.take 0))) (ddS (ys.take 0)).length :=
    strSet_congr ((setObjOf_fresh (knd := PySem.strKind prog w) g).setOf (Heap.get?_push_of_some _ (Heap.get?_push_size _ rfl)) (by unfold scanBound; omega)) (fun _ => by simp [ddS]) (by simp [ddS])
  refine strs_loop ((Walks.list (by simp [hh]) _ l ne1 items).toS) s.heap.objs.size ne2 ys len item hb items.size 0 _ (by omega) (Nat.zero_le _) ⟨⟨_, Heap.get?_push_size _ rfl, rfl, rfl⟩, (hl.push _).push _⟩ empty fun s' mv fin => ?_
  have res := h s'.heap s'.toks fin fun b o lb e => mv.heap b o (fun z => ?_) (Heap.get?_push_of_some _ (Heap.get?_push_of_some _ e))
  · rw [show s' = { s with heap := s'.heap, toks := s'.toks } from same_but mv.gens mv.drawn mv.os]
    exact ⟨rfl, res⟩
  · rcases List.mem_cons.mp z with q | q
    · exact Nat.ne_of_lt lb q
    · have q := List.mem_singleton.mp q
      rw [two] at q
      exact Nat.ne_of_lt (Nat.lt_succ_of_lt lb) q
end
end PySem
namespace L2
open PySem PySem.Spec PyProof.Rows
section
variable {X : Cx}
/-- a set of texts: its size -/
def SetN (P : Program) (w : World) (a : Addr) (n : Nat) : HO := .ext fun h => ∃ S, h.SetOf (PySem.strKind P w) a S n
theorem call_setS (hc : X.calm = true) : CallR X (.type "set") (fun xs H Q => ∃ (p : Addr) (ys : List Str), xs = [.ref p] ∧ SqL X.K H p (ys.map V.str) ∧ ys.length ≤ 4000 ∧ ∀ a, H a = none → Q (.ref a) (upd H a (SetN X.prog X.w a (ddS ys).length))) := by
  intro pins s σ H xs us Q I r h
  obtain ⟨p, ys, rfl, hq, hz, q⟩ := h
  obtain ⟨u, rfl, ru⟩ := vals1 r
  cases ru
  obtain ⟨its, r', pl, _⟩ := I.list hq
  have hlen := r'.length
  rw [List.length_map] at hlen
  refine call_set_strs (I.ok.hd hc) pl.isList (by simpa using strs_are r') (by rw [List.size_toArray]; unfold scanBound; omega) fun h' tk hS hk => ?_
  have hex : ∃ o, h'.get? s.heap.objs.size = some o := by obtain ⟨o, _, _, _, e, _⟩ := hS; exact ⟨o, e⟩
  refine ⟨.ref s.heap.objs.size, _, I.laid (a := s.heap.objs.size) (o := SetN X.prog X.w s.heap.objs.size (ddS ys).length) (t' := tk) (fun b o e => hk b o (Heap.lt_size e) e) (Nat.le_refl _) ?_, rfl, q _ I.fresh⟩
  refine ⟨⟨_, hS⟩, hex, fun h1 h2 ⟨S, z⟩ k => ⟨S, ?_⟩⟩
  obtain ⟨o, es, ep, t, e, rest⟩ := z
  exact ⟨o, es, ep, t, k o e, rest⟩
theorem call_lenS : CallR X (.builtin "len") (fun xs H Q => ∃ (a : Addr) (n : Nat), xs = [.ref a] ∧ H a = some (SetN X.prog X.w a n) ∧ Q (.int n) H) := by
  intro pins s σ H xs us Q I r h
  obtain ⟨a, n, rfl, ha, q⟩ := h
  obtain ⟨u, rfl, ru⟩ := vals1 r
  cases ru
  obtain ⟨⟨S, o, es, ep, t, e, ex, hd, _, _, hb, hf, rfl⟩, _⟩ := I.hok a _ ha
  refine call_len_set e ex hd hf ?_ ⟨.int es.size, H, I.tok _, ⟨_, rfl⟩, q⟩
  have : scanBound = 4096 := rfl
  omega
end
end L2

namespace L2
open PySem PySem.Spec PyProof.Rows

/-! ### list comprehensions -/
def lcOk (N : List Str) (kind : Str → Option NameKind) (scope : Scope) (T capN : List Str) (caps : List Nat) : Bool :=
  scope.names.all (fun p => p.2 != .cell) && scope.names.all (fun p => p.2 != .free || kind p.1 == some .cell) &&
  scope.names.all (fun p => p.2 != .local || scope.names.lookup p.1 == some .local) &&
  (capN.zip caps).all (fun p => decide (N[p.2]? = some p.1) && scope.names.lookup p.1 == some .free) && capN.length == caps.length

def lcs (T : List Str) (caps : List Nat) (σ : St) : St := T.map (fun _ => none) ++ caps.map (fun i => (σ[i]?).join)

def lcx (X : Cx) (N' : List Str) (scope : Scope) (cl : List (Str × Addr)) (C : Addr) (s₀ : Shared) (H₀ : Hp) (fp : List Addr) : Cx :=
  { prog := X.prog, w := X.w, K := X.K, mg := X.mg, base := X.base, A := X.A, N := N', s₀ := s₀, H₀ := H₀, env := compEnvC scope cl C X.env, outer := X.stack, stack := X.stack, ex := fp,
    fn := fun x => (cl.lookup x).isNone, calm := X.calm, pn := [], xe := fun _ _ => False }

def PIfs (X : Cx) (ifs : List Expr) (t : TT) : Prop :=
  ∀ (pins : List (Addr × Obj)) (s : Shared) (σ : St) (H : Hp) (Q : Bool → Hp → Prop), Inv X pins σ H s → t σ H Q →
    wpAny (model X.prog X.w) X.A (forIn ifs true fun c r => if r = true then do let ok ← isTrue c X.env (eval c X.env); pure (ForInStep.yield ok) else pure (ForInStep.yield r)) (TP X pins σ Q) X.xe s
def tYes : TT := fun _ H Q => Q true H
theorem pifs_nil {X : Cx} : PIfs X [] tYes := fun pins s σ H Q I h => wpAny_tests_nil ⟨H, I, h⟩
theorem pifs_one {X : Cx} {c : Expr} {t : TT} (h : PT X c t) : PIfs X [c] t := fun pins s σ H Q I hw => wpAny_tests_one (h pins s σ H Q I hw)

def LCW (T : List Str) (caps : List Nat) (J : It) (g : TG) (tt : TT) (te : TE) (σ : St) (H1 : Hp) (Q : VK) (D : Addr) : Prop :=
  ∃ W : Nat → Nat → List V → St → Hp → Prop, (∃ m, W 0 m [] (lcs T caps σ) (upd H1 D (.lst []))) ∧ ∀ i m ys σ' H', W i m ys σ' H' →
    (J.stop i H' ∧ Q (.ref D) H') ∨ (J.go i H' ∧ ∃ (N : St → V → Hp → Prop) (F : St → Hp → Prop),
      (∀ σ2 v H5, N σ2 v H5 → H5 D = some (.lst ys) ∧ ys.length < sizeLine ∧ ∃ m', m' < m ∧ W (i + 1) m' (ys ++ [v]) σ2 (upd H5 D (.lst (ys ++ [v])))) ∧ (∀ σ2 H4, F σ2 H4 → ∃ m', m' < m ∧ W (i + 1) m' ys σ2 H4) ∧
      ∀ x H2, J.yld i H' x H2 → g x σ' H2 fun σ2 H3 => tt σ2 H3 fun b H4 => if b = true then te σ2 H4 (N σ2) else F σ2 H4)
def tLC (T : List Str) (caps : List Nat) (wi : TI) (g : TG) (tt : TT) (te : TE) : TE := fun σ H Q => wi σ H fun J H1 => ∀ D, H1 D = none → LCW T caps J g tt te σ H1 Q D

theorem closure_ok {env : Env} : ∀ (names : List (Str × NameKind)) (acc : List (Str × Addr)), (∀ p ∈ names, p.2 = .free → ∃ c, env.cells.lookup p.1 = some c) →
    (∀ x c, acc.lookup x = some c → env.cells.lookup x = some c) →
    ∃ cl, (forIn names acc fun x r => if (x.2 == NameKind.free) = true then (cellOf env x.1 >>= fun a => pure (ForInStep.yield ((x.1, a) :: r))) else pure (ForInStep.yield r) : Sem (List (Str × Addr))) = pure cl ∧
      (∀ x c, cl.lookup x = some c → env.cells.lookup x = some c) ∧ (∀ x, (x, NameKind.free) ∈ names → (cl.lookup x).isSome = true) ∧ (∀ x, (acc.lookup x).isSome = true → (cl.lookup x).isSome = true)
  | [], acc, _, ha => ⟨acc, rfl, ha, fun x h => by simp at h, fun _ h => h⟩
  | (n, k) :: r, acc, hf, ha => by
    by_cases hk : k = .free
    · subst hk
      obtain ⟨c, hc⟩ := hf (n, .free) List.mem_cons_self rfl
      have ha' : ∀ x c', ((n, c) :: acc).lookup x = some c' → env.cells.lookup x = some c' := by
        intro x c' h
        rw [List.lookup_cons] at h
        cases e : x == n with
        | true => rw [e] at h; have := beq_iff_eq.mp e; subst this; cases h; exact hc
        | false => rw [e] at h; exact ha x c' h
      obtain ⟨cl, e1, h1, h2, h3⟩ := closure_ok r ((n, c) :: acc) (fun p hp => hf p (List.mem_cons_of_mem _ hp)) ha'
      have hn : (((n, c) :: acc).lookup n).isSome = true := by rw [List.lookup_cons]; simp
      refine ⟨cl, ?_, h1, fun x hx => ?_, fun x hx => h3 x ?_⟩
      · rw [List.forIn_cons]
        simp only [beq_self_eq_true, if_true]
        have : cellOf env n = pure c := by unfold cellOf; rw [hc]
        rw [this]
        exact e1
      · rcases List.mem_cons.mp hx with q | q
        · cases q; exact h3 _ hn
        · exact h2 x q
      · rw [List.lookup_cons]
        cases e : x == n with
        | true => rfl
        | false => exact hx
    · obtain ⟨cl, e1, h1, h2, h3⟩ := closure_ok r acc (fun p hp => hf p (List.mem_cons_of_mem _ hp)) ha
      refine ⟨cl, ?_, h1, fun x hx => ?_, h3⟩
      · rw [List.forIn_cons]
        have : (k == NameKind.free) = false := by simpa using hk
        simp only [this, Bool.false_eq_true, if_false]
        exact e1
      · rcases List.mem_cons.mp hx with q | q
        · cases q; exact absurd rfl hk
        · exact h2 x q
theorem closureFor_ok {scope : Scope} {env : Env} (hf : ∀ p ∈ scope.names, p.2 = .free → ∃ c, env.cells.lookup p.1 = some c) :
    ∃ cl, closureFor scope env = pure cl ∧ (∀ x c, cl.lookup x = some c → env.cells.lookup x = some c) ∧ (∀ x, (x, NameKind.free) ∈ scope.names → (cl.lookup x).isSome = true) := by
  obtain ⟨cl, e, h1, h2, _⟩ := closure_ok (env := env) scope.names [] hf (fun x c h => by simp at h)
  refine ⟨cl, ?_, h1, h2⟩
  simp only [closureFor]
  have e' : (forIn scope.names [] fun x r => if (x.2 == NameKind.free) = true then (cellOf env x.1 >>= fun a => pure (ForInStep.yield ((x.1, a) :: r))) else pure (ForInStep.yield r) : Sem (List (Str × Addr))) = pure cl := e
  first
    | exact e'
    | (simp only [bind_pure]; exact e')

theorem relabel_lookup {scope : Scope} {env : Env} {x : Str} {k : NameKind} (h : scope.names.lookup x = some k) : ∃ k', (relabel scope env).names.lookup x = some k' ∧ (k' = k ∨ (k = .free ∧ k' = .cell)) := by
  have : ∀ names : List (Str × NameKind), names.lookup x = some k → ∃ k', (names.map fun (p : Str × NameKind) => match p with | (n, k) => if (k == NameKind.free && env.scope.kind == .function && env.kindOf n == some .cell) then (n, NameKind.cell) else (n, k)).lookup x = some k' ∧ (k' = k ∨ (k = .free ∧ k' = .cell)) := by
    intro names
    induction names with
    | nil => intro h; simp at h
    | cons p r ih =>
      obtain ⟨n, k0⟩ := p
      intro h
      rw [List.map_cons]
      by_cases hc : (k0 == NameKind.free && env.scope.kind == .function && env.kindOf n == some .cell) = true
      · simp only [hc, if_true]
        rw [List.lookup_cons] at h ⊢
        cases e : x == n with
        | true =>
          rw [e] at h
          cases h
          have : k = NameKind.free := by
            have := (Bool.and_eq_true _ _).mp ((Bool.and_eq_true _ _).mp hc).1
            exact beq_iff_eq.mp this.1
          exact ⟨_, rfl, .inr ⟨this, rfl⟩⟩
        | false => rw [e] at h; exact ih h
      · simp only [hc, if_false]
        rw [if_neg (by simp)]
        rw [List.lookup_cons] at h ⊢
        cases e : x == n with
        | true => rw [e] at h; cases h; exact ⟨_, rfl, .inl rfl⟩
        | false => rw [e] at h; exact ih h
  exact this scope.names h

theorem relabel_inv {scope : Scope} {env : Env} {x : Str} {k : NameKind} (h : (relabel scope env).names.lookup x = some k) (hk : k = .cell ∨ k = .free) (hc : ∀ p ∈ scope.names, p.2 ≠ .cell) : scope.names.lookup x = some .free := by
  cases e : scope.names.lookup x with
  | none =>
    exfalso
    have : ∀ names : List (Str × NameKind), names.lookup x = none → (names.map fun (p : Str × NameKind) => match p with | (n, k) => if (k == NameKind.free && env.scope.kind == .function && env.kindOf n == some .cell) then (n, NameKind.cell) else (n, k)).lookup x = none := by
      intro names
      induction names with
      | nil => intro _; rfl
      | cons p r ih =>
        obtain ⟨n, k0⟩ := p
        intro h
        rw [List.map_cons]
        have h2 : (x == n) = false ∧ r.lookup x = none := by
          rw [List.lookup_cons] at h
          cases e : x == n with
          | true => rw [e] at h; cases h
          | false => rw [e] at h; exact ⟨rfl, h⟩
        dsimp only
        split <;> (rw [List.lookup_cons, h2.1]; exact ih h2.2)
    have q := this scope.names e
    have h' : (relabel scope env).names.lookup x = none := q
    rw [h'] at h; cases h
  | some k0 =>
    obtain ⟨k', e1, e2⟩ := relabel_lookup (env := env) e
    rw [h] at e1
    cases e1
    have hm := PySem.mem_of_lookup e
    rcases e2 with q | ⟨q, _⟩
    · subst q
      rcases hk with z | z
      · subst z; exact absurd rfl (hc _ hm)
      · rw [z]
    · rw [q]

theorem codeAny_compLoop_go {prog : Program} {w : World} {A : Around} {R : Result → Shared → Prop} {s : Shared} {elt target iter : Expr} {ifs : List Expr} {scope : Scope} {pos : Pos} {it acc : Value} {env : Env} (I : Nat → Shared → Prop)
    (turn : ∀ n s, I n s → wpAny (model prog w) A (pyNext it) (fun r s₁ => match r with
      | none => R (.ok .next) s₁
      | some v => wpAny (model prog w) A (letOwnedTupleGo target it v) (fun _ s₁' => wpAny (model prog w) A (assign target env v) (fun _ s₂ =>
          wpAny (model prog w) A (forIn ifs true fun c r => if r = true then do let ok ← isTrue c env (eval c env); pure (ForInStep.yield ok) else pure (ForInStep.yield r)) (fun ok s₃ =>
            if ok = true then wpAny (model prog w) A (eval elt env) (fun x s₄ =>
              wpAny (model prog w) A (call (.builtin "list.append") [acc, x]) (fun _ s₅ => ∃ m, m < n ∧ I m s₅) (fun _ _ => False) s₄) (fun _ _ => False) s₃
            else ∃ m, m < n ∧ I m s₃) (fun _ _ => False) s₂) (fun _ _ => False) s₁') (fun _ _ => False) s₁) (fun _ _ => False) s)
    (n : Nat) (h : I n s) :
    codeAny (model prog w) A (.compLoop (.ListComp elt [⟨target, iter, ifs, 0⟩] scope pos) 0 it acc env) R s := by
  refine codeAny_loop rfl I (fun n s hI => ?_) n h
  show wpAny _ A ((compTurn (.ListComp elt [⟨target, iter, ifs, 0⟩] scope pos) 0 it acc env).onRaise (fun x => do noteFrame x env; theTreesLotGoes x)) _ _ s
  refine wpAny_noted ?_
  rw [compTurn_list]
  refine wpAny_bind (wpAny_standAt (wpAny_bind (wpAny_mono (turn n s hI) (fun r s₁ h₁ => ?_) fun _ _ h' => h'.elim)))
  cases r with
  | none => exact wpAny_pure h₁
  | some v =>
    refine wpAny_bind (wpAny_mono h₁ (fun _ s₁' h₁' => ?_) fun _ _ h' => h'.elim)
    refine wpAny_bind (wpAny_mono h₁' (fun _ s₂ h₂ => wpAny_bind (wpAny_mono h₂ (fun ok s₃ h₃ => ?_) fun _ _ h' => h'.elim)) fun _ _ h' => h'.elim)
    cases ok with
    | false => exact wpAny_pure ⟨rfl, h₃⟩
    | true =>
      exact wpAny_bind (wpAny_bind (wpAny_mono h₃ (fun x s₄ h₄ => wpAny_bind (wpAny_mono h₄ (fun _ s₅ h₅ => wpAny_pure (wpAny_pure ⟨rfl, h₅⟩)) fun _ _ h' => h'.elim)) fun _ _ h' => h'.elim))
end L2

namespace L2
open PySem PySem.Spec PyProof.Rows

structure LcOk (N : List Str) (kind : Str → Option NameKind) (scope : Scope) (capN : List Str) (caps : List Nat) : Prop where
  nocell : ∀ p ∈ scope.names, p.2 ≠ .cell
  free : ∀ p ∈ scope.names, p.2 = .free → kind p.1 = some .cell
  loc : ∀ p ∈ scope.names, p.2 = .local → scope.names.lookup p.1 = some .local
  cap : ∀ (j : Nat) (x : Str), capN[j]? = some x → ∃ i : Nat, caps[j]? = some i ∧ N[i]? = some x ∧ scope.names.lookup x = some .free
  len : capN.length = caps.length
theorem lcOk_of {N : List Str} {kind : Str → Option NameKind} {scope : Scope} {T capN : List Str} {caps : List Nat} (h : lcOk N kind scope T capN caps = true) : LcOk N kind scope capN caps := by
  unfold lcOk at h
  simp only [Bool.and_eq_true] at h
  obtain ⟨⟨⟨⟨h1, h2⟩, h3⟩, h4⟩, h5⟩ := h
  have hl : capN.length = caps.length := beq_iff_eq.mp h5
  refine ⟨fun p hp => ?_, fun p hp e => ?_, fun p hp e => ?_, fun j x e => ?_, hl⟩
  · simpa using List.all_eq_true.mp h1 p hp
  · have := List.all_eq_true.mp h2 p hp
    rw [e] at this
    simpa using this
  · have := List.all_eq_true.mp h3 p hp
    rw [e] at this
    simpa using this
  · have hj : j < capN.length := (List.getElem?_eq_some_iff.mp e).1
    have e2 : caps[j]? = some (caps[j]'(by omega)) := List.getElem?_eq_getElem (by omega)
    have hm : (x, caps[j]'(by omega)) ∈ capN.zip caps := by
      refine List.mem_of_getElem? (i := j) ?_
      rw [List.getElem?_zip_eq_some]
      exact ⟨e, e2⟩
    have := List.all_eq_true.mp h4 _ hm
    simp only [Bool.and_eq_true, decide_eq_true_eq, beq_iff_eq] at this
    exact ⟨_, e2, this.1, this.2⟩

section
variable {X : Cx}
set_option maxHeartbeats 1000000 in
theorem pe_lc {elt tg iter : Expr} {ifs : List Expr} {scope : Scope} {pos : Pos} {wi : TI} {g : TG} {tt : TT} {te : TE} (T capN : List Str) (caps : List Nat) (hc : X.calm = true) (hi : PI X tg iter wi)
    (hk : scope.kind = .function) (ho : lcOk X.N X.env.kindOf scope T capN caps = true)
    (hg : ∀ s₀ H₀ C cl fp, PG (lcx X (T ++ capN) scope cl C s₀ H₀ fp) tg g)
    (ht : ∀ s₀ H₀ C cl fp, PIfs (lcx X (T ++ capN) scope cl C s₀ H₀ fp) ifs tt)
    (he : ∀ s₀ H₀ C cl fp, PE (lcx X (T ++ capN) scope cl C s₀ H₀ fp) elt te)
    (hs : ∀ x, foldedSetIterable iter X.env x = pure x := by intro _; rfl) :
    PE X (.ListComp elt [⟨tg, iter, ifs, 0⟩] scope pos) (tLC T caps wi g tt te) := by
  intro pins s σ H Q I h
  have O := lcOk_of ho
  have hfree : ∀ p ∈ scope.names, p.2 = .free → ∃ c, X.env.cells.lookup p.1 = some c := fun p hp e => I.ok.has p.1 (.inl (O.free p hp e))
  obtain ⟨cl, hclos, cl1, cl2⟩ := closureFor_ok hfree
  rw [eval_ListComp]
  refine wpAny_comprehension_free (use := none) rfl hs hclos hk O.loc (thn (hi pins s σ H _ I h) fun v s1 h1 => thn h1 fun itv s2 h2 => ?_)
  obtain ⟨it, fp, tn, J, H2, rfl, I2, TT', st2, f2, hD⟩ := h2
  -- the new list, tracked
  refine wpAny_newObj_type ?_
  have I3 : Inv X pins σ (upd H2 s2.heap.objs.size (.lst [])) { s2 with heap := s2.heap.push { cls := .type "list", data := .seq ([] : List Value).toArray } } := I2.lnew (t' := s2.toks) (its := []) (ys := []) .nil (Nat.zero_le _)
  have fD : H2 s2.heap.objs.size = none := I2.fresh
  obtain ⟨W, ⟨m0, w0⟩, turn⟩ := hD s2.heap.objs.size fD
  generalize hDd : s2.heap.objs.size = D at I3 fD w0 turn ⊢
  have st3 : tn 0 (s2.heap.push { cls := .type "list", data := .seq ([] : List Value).toArray }) := TT'.keep _ _ _ st2 fun b _ o e => Heap.get?_push_of_some _ e
  have hfpD : ∀ b ∈ fp, b < D := fun b hb => by
    obtain ⟨o, e, _⟩ := TT'.obj _ _ st2 b hb
    rw [← hDd]; exact Heap.lt_size e
  generalize hs3 : ({ s2 with heap := s2.heap.push { cls := .type "list", data := .seq ([] : List Value).toArray } } : Shared) = s3 at I3 ⊢
  have st3' : tn 0 s3.heap := by rw [← hs3]; exact st3
  generalize hH3 : upd H2 D (.lst []) = H3 at I3 w0
  have f3 : ∀ b ∈ fp, FpOk X pins H3 b := fun b hb => by
    obtain ⟨z0, z⟩ := f2 b hb
    exact ⟨by rw [← hH3, upd_ne (Nat.ne_of_lt (hfpD b hb))]; exact z0, z⟩
  -- the block's env
  refine wpAny_newFunctionEnv O.nocell (by intro y hy; simp at hy) (fun h₁ hns₁ hsb₁ => ?_) hk
  have hCn : H3 s3.heap.objs.size = none := I3.fresh
  have old : ∀ b o, s3.heap.get? b = some o → h₁.get? b = some o := fun b o e => hsb₁.extBut b o (Nat.ne_of_lt (Heap.lt_size e)) (Heap.get?_push_of_some _ e)
  generalize hC : s3.heap.objs.size = C at hns₁ hsb₁ hCn ⊢
  have hltC : ∀ b o, s3.heap.get? b = some o → b ≠ C := fun b o e => by rw [← hC]; exact Nat.ne_of_lt (Heap.lt_size e)
  have fpC : ∀ b ∈ fp, b ≠ C := fun b hb => by
    obtain ⟨o, e, _⟩ := TT'.obj _ _ st3' b hb
    exact hltC b o e
  have fpS : ∀ b ∈ fp, b ∉ frs X.stack := fun b hb z => by
    rcases List.mem_cons.mp (I3.stkSub b z) with q | q
    · exact (f3 b hb).2.1 q
    · exact (f3 b hb).2.2.1 q
  have fpCl : ∀ b ∈ fp, ∀ x c, cl.lookup x = some c → c ≠ b := fun b hb x c e => (f3 b hb).2.2.2.2.1 x c (cl1 x c e)
  -- the block's context
  have hXok : (lcx X (T ++ capN) scope cl C s3 H3 fp).Ok := by
    refine ⟨I3.ok.mod, hk, I3.ok.glob, I3.ok.blt, Nat.le_of_eq hC, fun x y c e1 e2 => I3.ok.inj x y c (cl1 x c e1) (cl1 y c e2), fun x hx => ?_, fun x c e1 e2 => ?_, I3.ok.hd, I3.ok.frames, .inl rfl, fun b hb => ⟨fpC b hb, fun x c e => fpCl b hb x c e⟩,
      fun b o e => I3.bs b o e, ?_, fun b o e z => ?_, fun b hb => fpS b hb, I3.stack, I3.stkFree⟩
    · have hx' : (relabel scope X.env).names.lookup x = some .cell ∨ (relabel scope X.env).names.lookup x = some .free := hx
      have hf : scope.names.lookup x = some .free := by
        rcases hx' with q | q
        · exact relabel_inv q (.inl rfl) O.nocell
        · exact relabel_inv q (.inr rfl) O.nocell
      exact Option.isSome_iff_exists.mp (cl2 x (PySem.mem_of_lookup hf))
    · have e1 : (cl.lookup x).isNone = true := e1
      have e2 : cl.lookup x = some c := e2
      rw [e2] at e1; cases e1
    · exact Nat.le_trans I3.ok.bsz I3.sz
    · obtain ⟨z0, z1, z2, z3, _⟩ := f3 b z
      rcases z3 with q | q
      · exact I3.ok.noex b o e q
      · exact absurd (Nat.lt_of_lt_of_le (Heap.lt_size e) (Nat.le_trans I3.ok.bsz q)) (Nat.lt_irrefl _)
  have I4 : Inv (lcx X (T ++ capN) scope cl C s3 H3 fp) [] (lcs T caps σ) H3 { s3 with heap := h₁, toks := s3.toks + ([] : List (Str × Value)).length } := by
    refine ⟨hXok, rfl, I3.bare, Un.kept old, ⟨_, hns₁, fun i x v e1 e2 e3 => ?_⟩, fun x c e => ?_, hCn, fun x c e => I3.freeC x c (cl1 x c e), fun p hp => absurd (show p ∈ ([] : List (Addr × Obj)) from hp) (by simp), I3.hok.kept old, ?_⟩
    · have e1 : (T ++ capN)[i]? = some x := e1
      unfold lcs at e2
      by_cases hi : i < T.length
      · rw [List.getElem?_append_left (by simpa using hi), List.getElem?_map] at e2
        cases q : T[i]? with
        | none => rw [q] at e2; cases e2
        | some z => rw [q] at e2; cases e2
      · rw [List.getElem?_append_right (by omega)] at e1
        rw [List.getElem?_append_right (by simpa using hi), List.getElem?_map, List.length_map] at e2
        obtain ⟨k, k1, k2, k3⟩ := O.cap _ x e1
        rw [k1] at e2
        have e2 : (σ[k]?).join = some v := Option.some.inj e2
        have e2' : σ[k]? = some (some v) := by
          cases q : σ[k]? with
          | none => rw [q] at e2; cases e2
          | some z => rw [q] at e2; exact congrArg some e2
        have hcell : X.env.kindOf x = some .cell := O.free (x, .free) (PySem.mem_of_lookup k3) rfl
        obtain ⟨m, hn, hl⟩ := I3.loc
        obtain ⟨u, r, l⟩ := hl k x v k2 e2' (.inr (.inl hcell))
        refine ⟨u, r, .inr ⟨?_, ?_⟩⟩
        · obtain ⟨k', e5, e6⟩ := relabel_lookup (env := X.env) k3
          rcases e6 with z | ⟨_, z⟩
          · subst z; exact .inr e5
          · subst z; exact .inl e5
        · rcases l with ⟨l1, _⟩ | ⟨_, c, e7, o, ho1, ho2⟩
          · rw [hcell] at l1; cases l1
          · obtain ⟨c', e8⟩ := Option.isSome_iff_exists.mp (cl2 x (PySem.mem_of_lookup k3))
            have := cl1 x c' e8
            rw [e7] at this
            cases this
            exact ⟨c, e8, o, old c o ho1, ho2⟩
    · obtain ⟨v, o, ho1, ho2⟩ := I3.cell x c (cl1 x c e)
      exact ⟨v, o, old c o ho1, ho2⟩
    · show (lcs T caps σ).length = (T ++ capN).length
      unfold lcs
      rw [List.length_append, List.length_append, List.length_map, List.length_map, O.len]
  have fpX : ∀ {H' : Hp}, (∀ b ∈ fp, H' b = none) → ∀ b ∈ fp, FpOk (lcx X (T ++ capN) scope cl C s3 H3 fp) [] H' b := fun hn b hb =>
    ⟨hn b hb, fpC b hb, fpS b hb, .inl hb, fun x c e => fpCl b hb x c e, fun p hp => absurd (show p ∈ ([] : List (Addr × Obj)) from hp) (by simp)⟩
  have st4 : tn 0 h₁ := TT'.keep _ _ _ st3' fun b _ o e => old b o e
  have w0' : W 0 m0 [] (lcs T caps σ) H3 := w0
  -- the loop
  have loop : codeAny (model X.prog X.w) X.A (.compLoop (.ListComp elt [⟨tg, iter, ifs, 0⟩] scope pos) 0 (.ref it) (.ref D) (compEnvC scope cl C X.env))
      (compPost (model X.prog X.w) X.A X.xe none (EP X pins σ Q) (.ref D) C) { s3 with heap := h₁, toks := s3.toks + ([] : List (Str × Value)).length } := by
    refine codeAny_compLoop_go (fun n s' => ∃ i ys σ' H', Inv (lcx X (T ++ capN) scope cl C s3 H3 fp) [] σ' H' s' ∧ tn i s'.heap ∧ (∀ b ∈ fp, H' b = none) ∧ W i n ys σ' H') ?_ m0 ⟨0, [], lcs T caps σ, H3, I4, st4, fun b hb => (f3 b hb).1, w0'⟩
    rintro n s5 ⟨i, ys, σ5, H5, I5, st5, fr5, w5⟩
    rcases turn i n ys σ5 H5 w5 with ⟨stop, qn⟩ | ⟨go, N, F, hN, hF, step⟩
    · refine thn (TT'.done (lcx X (T ++ capN) scope cl C s3 H3 fp) rfl rfl rfl hc i [] s5 σ5 H5 _ I5 (fpX fr5) st5 stop) fun r s6 ⟨hr, I6⟩ => ?_
      subst hr
      obtain ⟨m6, hn6, _⟩ := I6.loc
      refine ⟨m6, hn6, fun h' hsb => ?_⟩
      have hfC : H5 C = none := I6.free
      have hok' : HOk X.prog X.w H5 h' := fun b u e => by
        have neb : ∀ c u', H5 c = some u' → c ≠ C := fun c u' e' z => by subst z; rw [hfC] at e'; cases e'
        refine (I6.hok b u e).stay (fun c v hc' q => hsb.extBut c v ?_ q) (fun _ q => q) fun _ _ q => q
        rcases hc' with z | z
        · rw [z]; exact neb b u e
        · exact neb c _ z
      have ub := I6.base
      refine ⟨.ref D, H5, Inv.call' (s' := { s6 with heap := h' }) (ch := fp) I3 I6.os ?_ hok' I6.bare (fun b hb => ⟨(f3 b hb).2.2.2.1, (f3 b hb).2.1, (f3 b hb).2.2.2.2.1, (f3 b hb).2.2.2.2.2⟩), rfl, qn⟩
      exact ⟨fun b o q n hb hx => hsb.extBut b o (hltC b o q) (ub.keep b o q n hb hx),
        fun b o q n hb hx => let ⟨sl, e⟩ := ub.slot b o q n hb hx; ⟨sl, hsb.extBut b _ (hltC b o q) e⟩, ub.free, fun b o q hx => let ⟨o', e⟩ := ub.there b o q hx; ⟨o', hsb.extBut b _ (hltC b o q) e⟩, ub.tups, ub.frzs, ub.tbls⟩
    · refine thn (TT'.item (lcx X (T ++ capN) scope cl C s3 H3 fp) rfl rfl rfl hc i [] s5 σ5 H5 _ I5 (fpX fr5) st5 go) fun r s6 ⟨u, hr, h6⟩ => ?_
      subst hr
      refine thn h6 fun _ s7 ⟨x, H7, I7, r7, y7, st7, fr7⟩ => ?_
      have I7' := I7.pinned (fpX fr7) (TT'.obj _ _ st7)
      have keepT : ∀ {σ8 : St} {H8 : Hp} {s8 : Shared}, Inv (lcx X (T ++ capN) scope cl C s3 H3 fp) ([] ++ pinsAt fp s7.heap) σ8 H8 s8 → tn (i + 1) s8.heap ∧ (∀ b ∈ fp, H8 b = none) := fun {σ8 H8 s8} I8 => by
        refine ⟨TT'.keep _ _ _ st7 fun b hb o e => (I8.pin (b, o) (List.mem_append_right _ (List.mem_append_right _ (mem_pinsAt hb e)))).1, fun b hb => ?_⟩
        obtain ⟨o, e, d⟩ := TT'.obj _ _ st7 b hb
        exact (I8.pin (b, o) (List.mem_append_right _ (List.mem_append_right _ (mem_pinsAt hb e)))).2.1
      refine thn (hg s3 H3 C cl fp _ s7 σ5 H7 x u _ I7' r7 (step x H7 y7)) fun _ s8 ⟨σ8, H8, I8, q8⟩ => ?_
      refine thn (ht s3 H3 C cl fp _ s8 σ8 H8 _ I8 q8) fun ok s9 ⟨H9, I9, q9⟩ => ?_
      cases ok with
      | false =>
        rw [if_neg (by simp)] at q9
        rw [if_neg (by simp)]
        obtain ⟨m', hm, w9⟩ := hF _ _ q9
        exact ⟨m', hm, i + 1, ys, σ8, H9, I9.unpinned, (keepT I9).1, (keepT I9).2, w9⟩
      | true =>
        rw [if_pos rfl] at q9
        rw [if_pos rfl]
        refine thn (he s3 H3 C cl fp _ s9 σ8 H9 _ I9 q9) fun vv s10 ⟨v, H10, I10, r10, n10⟩ => ?_
        obtain ⟨a10, z10, m', hm, w10⟩ := hN _ _ _ n10
        refine thn (mt_append (X := lcx X (T ++ capN) scope cl C s3 H3 fp) _ s10 σ8 H10 (.ref D) [v] (.ref D) [vv] (fun _ H11 => W (i + 1) m' (ys ++ [v]) σ8 H11) I10 rfl (.cons r10 .nil) ⟨D, ys, v, rfl, rfl, a10, z10, w10⟩) fun _ s11 ⟨_, H11, I11, _, w11⟩ => ?_
        exact ⟨m', hm, i + 1, ys ++ [v], σ8, H11, I11.unpinned, (keepT I11).1, (keepT I11).2, w11⟩
  exact codeAny_compStart_list loop (TT'.self _ 0 _ _ _ st4 loop)
end
end L2

namespace L2
open PySem PySem.Spec PyProof.Rows
/-- the iterator gives xs, one after another, in heaps that keep R -/
structure Yields (J : It) (xs : List V) (R : Hp → Prop) : Prop where
  go : ∀ i H, i < xs.length → R H → J.go i H
  yld : ∀ i H x H', i < xs.length → R H → J.yld i H x H' → H' = H ∧ xs[i]? = some x
  stop : ∀ i H, i = xs.length → R H → J.stop i H
theorem yields_list {K : PySem.W.Frag} {a : Addr} {xs : List V} : Yields (Itl K a) xs (fun H => SqL K H a xs) :=
  ⟨fun i H hi r => ⟨xs, xs[i], r, List.getElem?_eq_getElem hi⟩, fun i H x H' hi r y => ⟨y.1, y.2 xs r⟩, fun i H e r => ⟨xs, r, by omega⟩⟩
theorem yields_tup {K : PySem.W.Frag} {a : Addr} {xs : List V} : Yields (Itt K a) xs (fun H => SqT K H a xs) :=
  ⟨fun i H hi r => ⟨xs, xs[i], r, List.getElem?_eq_getElem hi⟩, fun i H x H' hi r y => ⟨y.1, y.2 xs r⟩, fun i H e r => ⟨xs, r, by omega⟩⟩
theorem yields_range {lo : Int} {n : Nat} : Yields (Itr lo n) ((List.range n).map fun (i : Nat) => V.int (lo + (i : Int))) (fun _ => True) :=
  ⟨fun i H hi _ => by simpa [Itr] using hi, fun i H x H' hi _ y => ⟨y.1, by rw [y.2]; simp at hi; simp [hi]⟩, fun i H e _ => by simp [Itr, e]⟩
def signsV (z : Str) : List V := z.cps.toList.map fun c => V.str ⟨#[c]⟩
theorem yields_str {z : Str} : Yields (Its z) (signsV z) (fun _ => True) :=
  ⟨fun i H hi _ => by simpa [Its, signsV, Str.length] using hi,
    fun i H x H' hi _ y => by
      obtain ⟨e, c, hc, rfl⟩ := y
      refine ⟨e, ?_⟩
      unfold signsV
      rw [List.getElem?_map, Array.getElem?_toList, hc]
      rfl,
    fun i H e _ => by simp [Its, e, signsV, Str.length]⟩
/-- a comprehension with one name as its target -/
def LcN (cs : St) (D : Addr) (Pv : Nat → List V → Hp → Prop) (i : Nat) (ys : List V) (σ2 : St) : VK := fun v H5 => (∃ t, σ2 = t :: cs) ∧ H5 D = some (.lst ys) ∧ ys.length < sizeLine ∧ Pv (i + 1) (ys ++ [v]) (upd H5 D (.lst (ys ++ [v])))
def LcF (cs : St) (Pv : Nat → List V → Hp → Prop) (i : Nat) (ys : List V) (σ2 : St) (H4 : Hp) : Prop := (∃ t, σ2 = t :: cs) ∧ Pv (i + 1) ys H4
theorem lc1 {J : It} {xs : List V} {R : Hp → Prop} {nm : Str} {caps : List Nat} {tt : TT} {te : TE} {σ : St} {H1 : Hp} {Q : VK} {D : Addr} (Y : Yields J xs R) (Pv : Nat → List V → Hp → Prop)
    (h0 : Pv 0 [] (upd H1 D (.lst []))) (hR : ∀ i ys H, i ≤ xs.length → Pv i ys H → R H)
    (hs : ∀ i x ys H, xs[i]? = some x → Pv i ys H → tt (some x :: caps.map (fun i => (σ[i]?).join)) H fun b H4 =>
      if b = true then te (some x :: caps.map (fun i => (σ[i]?).join)) H4 (LcN (caps.map (fun i => (σ[i]?).join)) D Pv i ys (some x :: caps.map (fun i => (σ[i]?).join))) else LcF (caps.map (fun i => (σ[i]?).join)) Pv i ys (some x :: caps.map (fun i => (σ[i]?).join)) H4)
    (hd : ∀ ys H, Pv xs.length ys H → Q (.ref D) H) : LCW [nm] caps J (gName 0) tt te σ H1 Q D := by
  refine ⟨fun i m ys σ' H => m = xs.length - i ∧ i ≤ xs.length ∧ (∃ t, σ' = t :: caps.map (fun i => (σ[i]?).join)) ∧ Pv i ys H, ⟨xs.length, by simp, Nat.zero_le _, ⟨none, rfl⟩, h0⟩, ?_⟩
  rintro i m ys σ' H' ⟨rfl, hi, ⟨t, rfl⟩, p⟩
  by_cases hlt : i < xs.length
  · refine .inr ⟨Y.go i H' hlt (hR i ys H' hi p), LcN (caps.map (fun i => (σ[i]?).join)) D Pv i ys, LcF (caps.map (fun i => (σ[i]?).join)) Pv i ys, ?_, ?_, fun x H2 y => ?_⟩
    · rintro σ2 v H5 ⟨ht, a1, a2, a3⟩
      exact ⟨a1, a2, xs.length - (i + 1), by omega, rfl, hlt, ht, a3⟩
    · rintro σ2 H4 ⟨ht, a3⟩
      exact ⟨xs.length - (i + 1), by omega, rfl, hlt, ht, a3⟩
    · obtain ⟨rfl, hx⟩ := Y.yld i H' x H2 hlt (hR i ys H' hi p) y
      exact hs i x ys H2 hx p
  · have e : i = xs.length := by omega
    subst e
    exact .inl ⟨Y.stop _ _ rfl (hR _ ys H' hi p), hd ys H' p⟩
/-- a comprehension with a tuple of three names as its target -/
def LcN3 (cs : St) (D : Addr) (Pv : Nat → List V → Hp → Prop) (i : Nat) (ys : List V) (σ2 : St) : VK := fun v H5 => (∃ t u w, σ2 = t :: u :: w :: cs) ∧ H5 D = some (.lst ys) ∧ ys.length < sizeLine ∧ Pv (i + 1) (ys ++ [v]) (upd H5 D (.lst (ys ++ [v])))
theorem lc3 {J : It} {xs : List V} {R : Hp → Prop} {n1 n2 n3 : Str} {caps : List Nat} {te : TE} {σ : St} {H1 : Hp} {Q : VK} {D : Addr} {K : PySem.W.Frag} (Y : Yields J xs R) (Pv : Nat → List V → Hp → Prop)
    (h0 : Pv 0 [] (upd H1 D (.lst []))) (hR : ∀ i ys H, i ≤ xs.length → Pv i ys H → R H)
    (hs : ∀ i x ys H, xs[i]? = some x → Pv i ys H → ∃ a x1 x2 x3, x = .ref a ∧ SqT K H a [x1, x2, x3] ∧ te (some x1 :: some x2 :: some x3 :: caps.map (fun i => (σ[i]?).join)) H (LcN3 (caps.map (fun i => (σ[i]?).join)) D Pv i ys (some x1 :: some x2 :: some x3 :: caps.map (fun i => (σ[i]?).join))))
    (hd : ∀ ys H, Pv xs.length ys H → Q (.ref D) H) : LCW [n1, n2, n3] caps J (gTup K 3 (gCons (gName 0) (gCons (gName 1) (gCons (gName 2) gNil)))) tYes te σ H1 Q D := by
  refine ⟨fun i m ys σ' H => m = xs.length - i ∧ i ≤ xs.length ∧ (∃ t u w, σ' = t :: u :: w :: caps.map (fun i => (σ[i]?).join)) ∧ Pv i ys H, ⟨xs.length, by simp, Nat.zero_le _, ⟨none, none, none, rfl⟩, h0⟩, ?_⟩
  rintro i m ys σ' H' ⟨rfl, hi, ⟨t, u, w, rfl⟩, p⟩
  by_cases hlt : i < xs.length
  · refine .inr ⟨Y.go i H' hlt (hR i ys H' hi p), LcN3 (caps.map (fun i => (σ[i]?).join)) D Pv i ys, fun _ _ => False, ?_, fun _ _ z => z.elim, fun x H2 y => ?_⟩
    · rintro σ2 v H5 ⟨ht, a1, a2, a3⟩
      exact ⟨a1, a2, xs.length - (i + 1), by omega, rfl, hlt, ht, a3⟩
    · obtain ⟨rfl, hx⟩ := Y.yld i H' x H2 hlt (hR i ys H' hi p) y
      obtain ⟨a, x1, x2, x3, rfl, hq, ht⟩ := hs i x ys H2 hx p
      refine ⟨a, _, rfl, hq, rfl, _, _, rfl, _, _, rfl, _, _, rfl, rfl, ?_⟩
      show if (true : Bool) = true then te (some x1 :: some x2 :: some x3 :: caps.map (fun i => (σ[i]?).join)) H2 (LcN3 (caps.map (fun i => (σ[i]?).join)) D Pv i ys (some x1 :: some x2 :: some x3 :: caps.map (fun i => (σ[i]?).join))) else False
      exact iteT ht
  · have e : i = xs.length := by omega
    subst e
    exact .inl ⟨Y.stop _ _ rfl (hR _ ys H' hi p), hd ys H' p⟩
end L2

namespace Lw
open PySem L2
def top (i : Nat) : Stmt := PySem.Challenge.pw_laidcells_k04_bits_lacking.main.body.getD i (.Pass ⟨0, 0, 0, 0⟩)
abbrev sToldBy : Stmt := top 9
def clsBody (s : Stmt) : List Stmt := match s with
  | .ClassDef _ _ _ b _ _ _ _ _ _ _ => b
  | _ => []
abbrev sInit : Stmt := (clsBody (top 5)).getD 0 (.Pass ⟨0, 0, 0, 0⟩)
abbrev sThere : Stmt := top 7
abbrev sGateBit : Stmt := top 10
abbrev sDeck : Stmt := top 12
abbrev sTake : Stmt := top 13
abbrev sKept : Stmt := top 14
abbrev sMade : Stmt := top 15
abbrev sNames : Stmt := top 16
abbrev sGate : Stmt := top 17
abbrev sCell : Stmt := top 18
abbrev sLGateBit : Stmt := top 20
abbrev sAllBits : Stmt := top 21
abbrev sBits : Stmt := top 22
abbrev sRight : Stmt := top 23
abbrev sLaw : Stmt := top 24
structure Txt (mg : Str → Option Value) : Prop where
  len : mg "len" = none
  range : mg "range" = none
  sum : mg "sum" = none
  min : mg "min" = none
  max : mg "max" = none
  tuple : mg "tuple" = none
  list : mg "list" = none
  set : mg "set" = none
  dict : mg "dict" = none
  int : mg "int" = none
/-- a def of the text, as others call it -/
structure Gd (K : PySem.W.Frag) (mg : Str → Option Value) (x : Str) (st : Stmt) (ps : List Str) (f : Addr) (fd : FuncData) : Prop where
  F : Fun K x x st f fd
  m : mg x = some (.ref f)
  k : PySem.W.keepIn K (.ref f) = true
  b : Binds K fd ps []
/-! ### the deck -/
structure DeckAt (H : Hp) (d c : Addr) : Prop where
  ex : ∃ (ns : List Int) (p : Int), H d = some (.lst [.ref c, .int p]) ∧ H c = some (.lst (ns.map V.int)) ∧ 0 < ns.length ∧ ns.length ≤ 100
def Keep (d c : Addr) (H H' : Hp) : Prop := ∀ b o, H b = some o → b ≠ d → b ≠ c → H' b = some o
theorem Keep.refl (d c : Addr) (H : Hp) : Keep d c H H := fun _ _ e _ _ => e
theorem Keep.trans {d c : Addr} {H H1 H2 : Hp} (a : Keep d c H H1) (b : Keep d c H1 H2) : Keep d c H H2 := fun x o e h1 h2 => b x o (a x o e h1 h2) h1 h2
theorem Keep.new {d c p : Addr} {H : Hp} {o : HO} (h : H p = none) : Keep d c H (upd H p o) := fun b u e _ _ => by rw [upd_ne (ne_of_none e h)]; exact e
theorem DeckAt.ne {H : Hp} {d c : Addr} (D : DeckAt H d c) : d ≠ c := by
  obtain ⟨ns, p, h1, h2, h3, _⟩ := D.ex
  intro e
  subst e
  rw [h1] at h2
  injection h2 with h2
  injection h2 with h2
  cases ns with
  | nil => simp at h3
  | cons a r => simp at h2
theorem DeckAt.upd_other {H : Hp} {d c p : Addr} {o : HO} (D : DeckAt H d c) (hd : p ≠ d) (hc : p ≠ c) : DeckAt (upd H p o) d c := by
  obtain ⟨ns, q, h1, h2, h3, h4⟩ := D.ex
  exact ⟨ns, q, by rw [upd_ne hd.symm]; exact h1, by rw [upd_ne hc.symm]; exact h2, h3, h4⟩
theorem DeckAt.ned {H : Hp} {d c p : Addr} (D : DeckAt H d c) (h : H p = none) : p ≠ d ∧ p ≠ c := by
  obtain ⟨ns, q, h1, h2, _⟩ := D.ex
  exact ⟨(ne_of_none h1 h).symm, (ne_of_none h2 h).symm⟩
theorem DeckAt.new {H : Hp} {d c p : Addr} {o : HO} (D : DeckAt H d c) (h : H p = none) : DeckAt (upd H p o) d c := D.upd_other (D.ned h).1 (D.ned h).2
theorem DeckAt.ne_some {H : Hp} {d c p : Addr} {o : HO} (D : DeckAt H d c) (h : H p = some o) (n1 : ∀ xs, o ≠ .lst xs) : p ≠ d ∧ p ≠ c := by
  obtain ⟨ns, q, h1, h2, _⟩ := D.ex
  exact ⟨ne_of h h1 (n1 _), ne_of h h2 (n1 _)⟩
def spTake : Sp := fun vs H Q _ => ∃ (d c : Addr) (m : Int), vs = [.ref d, .int m] ∧ DeckAt H d c ∧ 0 < m ∧ m < 1000000 ∧ ∀ (r : Int) (H' : Hp), 0 ≤ r → r < m → DeckAt H' d c → Keep d c H H' → Q (.int r) H'
section
variable {P : Program} {w : World} {K : PySem.W.Frag} {mg : Str → Option Value} {base : Heap}
theorem scTake : FnScope ["deck", "many", "at", "cell"] ["deck", "many"] (defScope sTake) := ⟨rfl, rfl, rfl, by decide +kernel, rfl, by decide +kernel, by decide +kernel⟩
set_option maxHeartbeats 1000000 in
theorem ok_take {f : Addr} {fd : FuncData} (F : Fun K "_law_take" "_law_take" sTake f fd) (T : Txt mg) : FnOk P w K mg base CX0 1 f fd ["deck", "many"] spTake := by
  refine F.ok scTake (fun vs H Q E h => ?_) (fun cdv A outer s H vs Q E hr h => ?_)
  · obtain ⟨d, c, m, rfl, _⟩ := h
    rfl
  · obtain ⟨d, c, m, rfl, D, hm0, hm, k⟩ := h
    obtain ⟨ns, p, h1, h2, h3, h4⟩ := id D.ex
    have hdc := D.ne
    refine ⟨_, pss_cons (ps_set (i := 2) scTake.nd rfl (Or.inl rfl) (pe_op op_mod (pe_ix ix_list (pv 0) pe_int (fun _ _ => rfl)) (pe_callB call_len_seq (by rfl) T.len PySem.boot_len (pa_cons (pe_ix ix_list (pv 0) pe_int (fun _ _ => rfl)) pa_nil))))
      (pss_cons (ps_asg (pe_op op_add (pe_ix ix_list (pv 0) pe_int (fun _ _ => rfl)) pe_int) (pg_sub (pv 0) pe_int set_list))
      (pss_cons (ps_set (i := 3) scTake.nd rfl (Or.inl rfl) (pe_ix ix_list (pe_ix ix_list (pv 0) pe_int (fun _ _ => rfl)) (pv 2) (fun _ _ => rfl)))
      (pss_cons (ps_asg (pe_op op_fdiv (pv 3) (pv 1)) (pg_sub (pe_ix ix_list (pv 0) pe_int (fun _ _ => rfl)) (pv 2) set_list))
      (pss_one (ps_ret (pe_op op_mod (pv 3) (pv 1))))))), ?_⟩
    refine ⟨_, rfl, d, _, _, _, rfl, rfl, SqL.of h1, rfl, _, rfl, d, _, _, _, rfl, rfl, SqL.of h1, rfl, c, _, rfl, .inl (SqL.of h2), _, _, rfl, rfl, ?_, ?_⟩
    · rw [List.length_map]; omega
    · rw [List.length_map]
      have b0 := Int.emod_nonneg p (show (ns.length : Int) ≠ 0 by omega)
      have b1 := Int.emod_lt_of_pos p (show (0 : Int) < ns.length by omega)
      obtain ⟨j, hj⟩ := Int.eq_ofNat_of_zero_le b0
      have hjl : j < ns.length := by omega
      have hat : (ns.map V.int)[j]? = some (V.int ns[j]) := by simp [hjl]
      refine ⟨_, rfl, d, _, _, _, rfl, rfl, SqL.of h1, rfl, _, _, rfl, rfl, _, rfl, d, _, _, 1, rfl, rfl, h1, rfl, ?_⟩
      have g1 : upd H d (.lst ([V.ref c, V.int p].set 1 (V.int (p + 1)))) d = some (.lst [.ref c, .int (p + 1)]) := upd_same
      have g2 : upd H d (.lst ([V.ref c, V.int p].set 1 (V.int (p + 1)))) c = some (.lst (ns.map V.int)) := by rw [upd_ne hdc.symm]; exact h2
      refine ⟨_, rfl, d, _, _, _, rfl, rfl, SqL.of g1, rfl, _, rfl, c, _, _, V.int ns[j], rfl, rfl, SqL.of g2, (by rw [hj]; exact atI_nat hat), ?_⟩
      · refine ⟨_, rfl, _, rfl, _, _, rfl, rfl, ⟨hm0, by omega⟩, _, rfl, d, _, _, _, rfl, rfl, SqL.of g1, rfl, _, rfl, c, _, _, j, rfl, rfl, g2, ?_, ?_⟩
        · rw [hj, List.length_map]
          unfold ixN
          rw [if_pos (by omega), if_pos (by omega)]
          simp
        · refine ⟨_, rfl, _, rfl, _, _, rfl, rfl, hm0, ?_⟩
          refine k _ _ (Int.emod_nonneg _ (by omega)) (Int.emod_lt_of_pos _ hm0) ⟨ns.set j (ns[j] / m), p + 1, ?_, ?_, by rw [List.length_set]; exact h3, by rw [List.length_set]; exact h4⟩ ?_
          · rw [upd_ne hdc]; exact g1
          · rw [upd_same, List.map_set]
          · intro b o e n1 n2
            rw [upd_ne n2, upd_ne n1]; exact e
end
end Lw

namespace Lw
open PySem L2
theorem Same.new {p : Addr} {H : Hp} {o : HO} (h : H p = none) : Same H (upd H p o) := fun b u e => by rw [upd_ne (ne_of_none e h)]; exact e
theorem cutV_ints (ns : List Int) (lo hi : Option Int) : ∃ ms : List Int, cutV (ns.map V.int) lo hi = ms.map V.int ∧ ms.length ≤ ns.length := by
  refine ⟨(ns.drop (HT.sIx ns.length 0 lo)).take (HT.sIx ns.length ns.length hi - HT.sIx ns.length 0 lo), ?_, ?_⟩
  · unfold cutV; rw [List.length_map, List.map_take, List.map_drop]
  · rw [List.length_take, List.length_drop]; omega
def spDeck (K : PySem.W.Frag) : Sp := fun vs H Q _ => ∃ (a : Addr) (ns : List Int), vs = [.ref a] ∧ SqL K H a (ns.map V.int) ∧ ns.length ≤ 63 ∧ ∀ (d c : Addr) (H' : Hp), DeckAt H' d c → H d = none → H c = none → Same H H' → Q (.ref d) H'
section
variable {P : Program} {w : World} {K : PySem.W.Frag} {mg : Str → Option Value} {base : Heap}
theorem scDeck : FnScope ["script", "cells", "k", "mixed"] ["script"] (defScope sDeck) := ⟨rfl, rfl, rfl, by decide +kernel, rfl, by decide +kernel, by decide +kernel⟩
set_option maxHeartbeats 2000000 in
theorem ok_deck {f : Addr} {fd : FuncData} (F : Fun K "_law_deck" "_law_deck" sDeck f fd) (T : Txt mg) : FnOk P w K mg base CX0 1 f fd ["script"] (spDeck K) := by
  refine F.ok scDeck (fun vs H Q E h => ?_) (fun cdv A outer s H vs Q E hr h => ?_)
  · obtain ⟨a, ns, rfl, _⟩ := h
    rfl
  · obtain ⟨a, ns, rfl, hS, hlen, k⟩ := h
    refine ⟨_, pss_cons (ps_set (i := 1) scDeck.nd rfl (Or.inl rfl) (pe_op op_cat (pe_slice sl_list (pv 0) po_none (po_some pe_int)) (pe_lst (pa_cons (pe_callB call_len_seq (by rfl) T.len PySem.boot_len (pa_cons (pv 0) pa_nil)) pa_nil))))
      (pss_cons (ps_if (pt_cmpR op_eq (pe_op op_mod (pe_callB (call_sum rfl) (by rfl) T.sum PyProof.Rows.boot_sum (pa_cons (pe_slice sl_list (pv 0) po_none (po_some pe_int)) pa_nil)) pe_int) pe_int (nomark _))
        (pss_one (ps_for PassesOwn.never rfl (pi_range1 rfl T.range (pa_cons (pe_callB call_len_seq (by rfl) T.len PySem.boot_len (pa_cons (pv 1) pa_nil)) pa_nil)) (pg_name (i := 2) scDeck.nd rfl (Or.inl rfl))
          (pss_cons (ps_set (i := 3) scDeck.nd rfl (Or.inl rfl) (pe_op op_mod (pe_op op_mul (pe_op op_add (pe_op op_add (pe_op op_mod (pe_ix ix_list (pv 1) (pv 2) (fun _ _ => rfl)) pe_int) (pe_op op_mul pe_int (pv 2))) pe_int) pe_int) pe_int))
          (pss_cons (ps_set (i := 3) scDeck.nd rfl (Or.inl rfl) (pe_op op_mod (pe_op op_mul (pe_op op_mod (pe_op op_add (pe_op op_mul (pv 3) (pv 3)) (pe_op op_mul pe_int (pv 2))) pe_int) pe_int) pe_int))
          (pss_one (ps_asg (pe_op op_add (pe_op op_mul (pe_op op_mul (pv 3) (pv 3)) pe_int) (pe_op op_mod (pe_op op_mul (pv 3) pe_int) pe_int)) (pg_sub (pv 1) (pv 2) set_list)))))))
        pss_nil)
      (pss_one (ps_ret (pe_lst (pa_cons (pv 1) (pa_cons pe_int pa_nil)))))), ?_⟩
    -- cells = script[:63] + [len(script)]
    obtain ⟨ms, em, hms⟩ := cutV_ints ns none (some 63)
    refine ⟨_, rfl, _, rfl, a, _, rfl, hS, fun p1 n1 => ?_⟩
    have s1 : Same H (upd H p1 (.lst (cutV (ns.map V.int) none (some 63)))) := Same.new n1
    rw [em] at s1 ⊢
    refine ⟨_, rfl, a, _, rfl, .inl (s1.seq hS), (by show 1 ≤ sizeLine; decide), fun p2 n2 => ?_⟩
    have s2 := s1.trans (Same.new (o := .lst [V.int ((ns.map V.int).length : Nat)]) n2)
    have q1 : upd (upd H p1 (.lst (ms.map V.int))) p2 (.lst [V.int ((ns.map V.int).length : Nat)]) p1 = some (.lst (ms.map V.int)) := by rw [upd_ne (ne_of_none upd_same n2)]; exact upd_same
    refine ⟨p1, p2, _, _, rfl, rfl, q1, upd_same, ?_, fun c nc => ?_⟩
    · rw [List.length_map]; exact Nat.le_trans (show ms.length + 1 ≤ 64 by omega) (by decide)
    have s3 := s2.trans (Same.new (o := .lst (ms.map V.int ++ [V.int ((ns.map V.int).length : Nat)])) nc)
    have ec : ms.map V.int ++ [V.int ((ns.map V.int).length : Nat)] = (ms ++ [((ns.map V.int).length : Int)]).map V.int := by simp
    rw [ec] at s3 ⊢
    generalize hcs : ms ++ [((ns.map V.int).length : Int)] = cs at s3
    have hcl : 0 < cs.length ∧ cs.length ≤ 64 := by rw [← hcs, List.length_append, List.length_singleton]; omega
    have hc0 : H c = none := s2.free nc
    generalize hH3 : upd (upd (upd H p1 (.lst (ms.map V.int))) p2 (.lst [V.int ((ns.map V.int).length : Nat)])) c (.lst (cs.map V.int)) = H3 at s3
    have c3 : H3 c = some (.lst (cs.map V.int)) := by rw [← hH3]; exact upd_same
    -- the end, from whatever the cells are
    have fin : ∀ (cs' : List Int) (v2 v3 : Option V) (H4 : Hp), Same H H4 → H4 c = some (.lst (cs'.map V.int)) → 0 < cs'.length → cs'.length ≤ 64 →
        (tRet (tLst (tCons (tVar 1) (tCons (tC (.int 0)) tNil)))) { nx := fun _ H' => Q .non H', rt := Q } [some (.ref a), some (.ref c), v2, v3] H4 := by
      intro cs' v2 v3 H4 s4 c4 l1 l2
      refine ⟨_, rfl, (by show 2 ≤ sizeLine; decide), fun d nd => ?_⟩
      refine k d c _ ⟨cs', 0, upd_same, by rw [upd_ne (ne_of_none c4 nd)]; exact c4, l1, by omega⟩ (s4.free nd) hc0 (s4.trans (Same.new nd))
    -- if sum(script[:63]) % 2 == 1
    refine ⟨_, rfl, _, rfl, a, _, rfl, s3.seq hS, fun p4 n4 => ?_⟩
    rw [em]
    have s4 := s3.trans (Same.new (o := .lst (ms.map V.int)) n4)
    have c4 : upd H3 p4 (.lst (ms.map V.int)) c = some (.lst (cs.map V.int)) := by rw [upd_ne (ne_of_none c3 n4)]; exact c3
    refine ⟨p4, ms, rfl, SqL.of upd_same, _, _, rfl, rfl, (by show (0 : Int) < 2; decide), rfl, _, rfl, ?_⟩
    refine ite2 (fun _ => ?_) (fun _ => ?_)
    · refine ⟨_, rfl, c, _, rfl, .inl (SqL.of c4), _, rfl, by omega, by rw [List.length_map]; omega, ?_⟩
      rw [List.length_map, Int.toNat_natCast]
      refine for_range (lo := 0) (n := cs.length) (fun i σ H5 => ∃ (cs' : List Int) (v2 v3 : Option V), σ = [some (.ref a), some (.ref c), v2, v3] ∧ Same H H5 ∧ H5 c = some (.lst (cs'.map V.int)) ∧ cs'.length = cs.length)
        ⟨cs, none, none, rfl, s4, c4, rfl⟩ ?_ ?_
      · rintro i σ H5 hi ⟨cs', v2, v3, rfl, s5, c5, hl⟩
        have hat : (cs'.map V.int)[i]? = some (V.int (cs'[i]'(by omega))) := by simp [hl, hi]
        refine ⟨_, rfl, _, rfl, c, _, _, V.int (cs'[i]'(by omega)), rfl, rfl, SqL.of c5, (by rw [Int.zero_add]; exact atI_nat hat), _, _, rfl, rfl, (by show (0 : Int) < 2147483587; decide), _, rfl, _, _, rfl, rfl, .inl (by decide), _, _, rfl, rfl, _, _, rfl, rfl, _, _, rfl, rfl, .inr (by decide), _, _, rfl, rfl, (by show (0 : Int) < 2147483629; decide), ?_⟩
        refine ⟨_, rfl, _, rfl, _, _, rfl, rfl, .inl ?_, _, rfl, _, _, rfl, rfl, .inl (by decide), _, _, rfl, rfl, _, _, rfl, rfl, (by show (0 : Int) < 2147483563; decide), _, _, rfl, rfl, .inr (by decide), _, _, rfl, rfl, (by show (0 : Int) < 2147483549; decide), ?_⟩
        · have b0 := Int.emod_nonneg ((cs'[i]'(by omega) % 2147483587 + 853 * (0 + (i : Int)) + 11) * 69621) (show (2147483629 : Int) ≠ 0 by decide)
          have b1 := Int.emod_lt_of_pos ((cs'[i]'(by omega) % 2147483587 + 853 * (0 + (i : Int)) + 11) * 69621) (show (0 : Int) < 2147483629 by decide)
          exact ⟨by omega, by omega⟩
        generalize hM : ((cs'[i]'(by omega) % 2147483587 + 853 * (0 + (i : Int)) + 11) * 69621 % 2147483629) = M
        have b0 := Int.emod_nonneg ((M * M + 31 * (0 + (i : Int))) % 2147483563 * 16807) (show (2147483549 : Int) ≠ 0 by decide)
        have b1 := Int.emod_lt_of_pos ((M * M + 31 * (0 + (i : Int))) % 2147483563 * 16807) (show (0 : Int) < 2147483549 by decide)
        refine ⟨_, rfl, _, rfl, _, _, rfl, rfl, .inl ?_, _, _, rfl, rfl, .inr (by decide), _, rfl, _, _, rfl, rfl, .inl ?_, _, _, rfl, rfl, (by show (0 : Int) < 2147483579; decide), _, _, rfl, rfl, _, rfl, _, rfl, c, _, _, i, rfl, rfl, c5, ?_, ?_⟩
        · exact ⟨by omega, by omega⟩
        · exact ⟨by omega, by omega⟩
        · rw [List.length_map]
          unfold ixN
          rw [if_pos (by omega), if_pos (by omega)]
          congr 1
          omega
        · refine ⟨cs'.set i _, _, _, rfl, ?_, by rw [upd_same, List.map_set], by rw [List.length_set]; exact hl⟩
          intro b o e
          rw [upd_ne (ne_of_none e hc0)]; exact s5 b o e
      · rintro σ H5 ⟨cs', v2, v3, rfl, s5, c5, hl⟩
        exact fin cs' v2 v3 H5 s5 c5 (by omega) (by omega)
    · exact fin cs none none _ s4 c4 hcl.1 hcl.2
end
end Lw

namespace Lw
open PySem L2
/-! ### texts of small letters, at least n, at most m of them -/
structure LS (n m : Nat) (x : Str) : Prop where
  az : ∀ c ∈ x.cps.toList, 97 ≤ c ∧ c ≤ 122
  lo : n ≤ x.length
  hi : x.length ≤ m
theorem app_list (x y : Str) : (x ++ y).cps.toList = x.cps.toList ++ y.cps.toList := by
  show (x.cps ++ y.cps).toList = _
  simp
theorem app_len (x y : Str) : (x ++ y).length = x.length + y.length := by
  show (x.cps ++ y.cps).size = _
  simp [Str.length]
theorem LS.app {a b c d : Nat} {x y : Str} (h : LS a b x) (g : LS c d y) : LS (a + c) (b + d) (x ++ y) :=
  ⟨fun z hz => by rw [app_list] at hz; exact (List.mem_append.mp hz).elim (h.az z) (g.az z), by rw [app_len]; have := h.lo; have := g.lo; omega, by rw [app_len]; have := h.hi; have := g.hi; omega⟩
theorem LS.weak {a b c d : Nat} {x : Str} (h : LS a b x) (h1 : c ≤ a) (h2 : b ≤ d) : LS c d x := ⟨h.az, Nat.le_trans h1 h.lo, Nat.le_trans h.hi h2⟩
def lsB (n m : Nat) (x : Str) : Bool := x.cps.toList.all (fun c => decide (97 ≤ c) && decide (c ≤ 122)) && decide (n ≤ x.length) && decide (x.length ≤ m)
theorem LS.of {n m : Nat} {x : Str} (h : lsB n m x = true) : LS n m x := by
  unfold lsB at h
  simp only [Bool.and_eq_true, List.all_eq_true, decide_eq_true_eq] at h
  exact ⟨h.1.1, h.1.2, h.2⟩
theorem LS.cutL {n : Nat} {z : Str} (h : LS n n z) {k : Nat} (hk : k ≤ n) : LS k k (cutS z none (some (k : Int))) := by
  have e : z.length = n := Nat.le_antisymm h.hi h.lo
  have e1 : HT.sIx z.length z.length (some (k : Int)) = k := by rw [HT.sIx_nat]; omega
  have e2 : (cutS z none (some (k : Int))).cps.toList = z.cps.toList.take k := by
    show ((z.cps.toList.drop (HT.sIx z.length 0 none)).take _).toArray.toList = _
    rw [e1, HT.sIx_none]; simp
  have el : (cutS z none (some (k : Int))).length = k := by
    rw [← str_len_list, e2, List.length_take, str_len_list]; omega
  exact ⟨fun c hc => by rw [e2] at hc; exact h.az c (List.mem_of_mem_take hc), by omega, by omega⟩
theorem LS.cutR {n : Nat} {z : Str} (h : LS n n z) {k : Nat} (hk : k ≤ n) : LS (n - k) (n - k) (cutS z (some (k : Int)) none) := by
  have e : z.length = n := Nat.le_antisymm h.hi h.lo
  have e1 : HT.sIx z.length 0 (some (k : Int)) = k := by rw [HT.sIx_nat]; omega
  have e2 : (cutS z (some (k : Int)) none).cps.toList = z.cps.toList.drop k := by
    show ((z.cps.toList.drop (HT.sIx z.length 0 (some (k : Int)))).take _).toArray.toList = _
    rw [e1, HT.sIx_none]
    simp only [List.toList_toArray]
    rw [List.take_of_length_le]
    rw [List.length_drop, str_len_list]; omega
  have el : (cutS z (some (k : Int)) none).length = n - k := by
    rw [← str_len_list, e2, List.length_drop, str_len_list]; omega
  exact ⟨fun c hc => by rw [e2] at hc; exact h.az c (List.mem_of_mem_drop hc), by omega, by omega⟩
theorem LS.sign {c : Nat} (h : 97 ≤ c ∧ c ≤ 122) : LS 1 1 ⟨#[c]⟩ := ⟨fun d hd => by simp at hd; subst hd; exact h, Nat.le_refl _, Nat.le_refl _⟩
theorem glue_signs : ∀ (ys : List Str), (∀ y ∈ ys, LS 1 1 y) → LS ys.length ys.length (Str.join "" ys)
  | [], _ => ⟨fun c hc => (nomatch hc), Nat.le_refl _, Nat.le_refl _⟩
  | [x], h => h x List.mem_cons_self
  | x :: y :: r, h => by
    have h1 := h x List.mem_cons_self
    have h2 := glue_signs (y :: r) fun z hz => h z (List.mem_cons_of_mem _ hz)
    have e0 : LS 0 0 (Str.ofString "") := LS.of (by decide +kernel)
    have := (h1.app e0).app h2
    show LS _ _ (x ++ (Str.ofString "") ++ Str.join "" (y :: r))
    exact this.weak (by simp; omega) (by simp; omega)
/-! ### an item of a list at a place within -/
theorem at_in {α : Type} {xs : List α} {i : Int} (h0 : 0 ≤ i) (h1 : i < xs.length) : ∃ v, atI xs i = some v ∧ v ∈ xs := by
  obtain ⟨j, rfl⟩ := Int.eq_ofNat_of_zero_le h0
  have hj : j < xs.length := by omega
  exact ⟨xs[j], atI_nat (List.getElem?_eq_getElem hj), List.getElem_mem hj⟩
theorem at_str {xs : List Str} {i : Int} (h0 : 0 ≤ i) (h1 : i < xs.length) : ∃ x, atI (xs.map V.str) i = some (V.str x) ∧ x ∈ xs := by
  obtain ⟨j, rfl⟩ := Int.eq_ofNat_of_zero_le h0
  have hj : j < xs.length := by omega
  exact ⟨xs[j], atI_nat (by simp [hj]), List.getElem_mem hj⟩
def lettersS : Str := "abcdefghijklmnopqrstuvwxyz"
theorem letters_len : lettersS.length = 26 := by decide +kernel
theorem letters_at {i : Int} (h0 : 0 ≤ i) (h1 : i < 26) : ∃ c, atI lettersS.cps.toList i = some c ∧ 97 ≤ c ∧ c ≤ 122 := by
  obtain ⟨c, e, m⟩ := at_in (xs := lettersS.cps.toList) h0 (by rw [str_len_list, letters_len]; exact h1)
  have h : LS 26 26 lettersS := LS.of (by decide +kernel)
  exact ⟨c, e, h.az c m⟩
def keptS : List Str := ["and", "or", "odd", "most", "not", "one", "nil", "in", "out"]
theorem kept_ls {x : Str} (h : x ∈ keptS) : LS 2 4 x := by
  have : keptS.all (lsB 2 4) = true := by decide +kernel
  exact LS.of (List.all_eq_true.mp this x h)
structure GoodName (x : Str) : Prop where
  ls : LS 1 8 x
  nk : x ∉ keptS
end Lw

namespace L2
open PySem PySem.Spec PyProof.Rows
def noStar : Expr → Bool
  | .Starred _ _ => false
  | _ => true
theorem starEach_cons {env : Env} {e : Expr} {es : List Expr} (h : noStar e = true) : starEach (e :: es) env = (false, eval e env) :: starEach es env := by
  cases e <;> first | rfl | (simp [noStar] at h)
section
variable {X : Cx} {e : Expr} {es : List Expr} {te : TE} {t : TA}
theorem pa_c (ha : PE X e te) (hr : PA X es t) (h : noStar e = true := by rfl) : PA X (e :: es) (tCons te t) := pa_cons ha hr (starEach_cons h)
def tStrs (xs : List Str) : TA := fun _ H Q => Q (xs.map V.str) H
theorem pa_strs : ∀ (l : List (Str × Nat × Pos)), PA X (l.map fun p => .Constant (.str p.1) p.2.1 p.2.2) (tStrs (l.map (·.1)))
  | [] => pa_nil
  | a :: r => fun pos pins s σ H Q I h => pa_c (pe_str (x := a.1) (j := a.2.1) (pos := a.2.2)) (pa_strs r) (by rfl) pos pins s σ H Q I h
end
theorem lc1y {J : It} {xs : List V} {R : Hp → Prop} {nm : Str} {caps : List Nat} {te : TE} {σ : St} {H1 : Hp} {Q : VK} {D : Addr} (Y : Yields J xs R) (Pv : Nat → List V → Hp → Prop)
    (h0 : Pv 0 [] (upd H1 D (.lst []))) (hR : ∀ i ys H, i ≤ xs.length → Pv i ys H → R H)
    (hs : ∀ i x ys H, xs[i]? = some x → Pv i ys H → te (some x :: caps.map (fun i => (σ[i]?).join)) H (LcN (caps.map (fun i => (σ[i]?).join)) D Pv i ys (some x :: caps.map (fun i => (σ[i]?).join))))
    (hd : ∀ ys H, Pv xs.length ys H → Q (.ref D) H) : LCW [nm] caps J (gName 0) tYes te σ H1 Q D := by
  refine lc1 Y Pv h0 hR (fun i x ys H hx p => ?_) hd
  unfold tYes
  dsimp only
  rw [if_pos rfl]
  exact hs i x ys H hx p
/-- a comprehension that only reads: f of each -/
theorem lcMap {J : It} {xs : List V} {R : Hp → Prop} {nm : Str} {caps : List Nat} {te : TE} {σ : St} {H1 : Hp} {Q : VK} {D : Addr} (Y : Yields J xs R) (f : V → V) (nD : H1 D = none) (hR : ∀ H, Same H1 H → R H) (hl : xs.length ≤ 1000)
    (hs : ∀ (i : Nat) x H (k : VK), xs[i]? = some x → Same H1 H → k (f x) H → te (some x :: caps.map (fun i => (σ[i]?).join)) H k)
    (hd : Q (.ref D) (upd H1 D (.lst (xs.map f)))) : LCW [nm] caps J (gName 0) tYes te σ H1 Q D := by
  have sm : ∀ o, Same H1 (upd H1 D o) := fun o b u e => by rw [upd_ne (ne_of_none e nD)]; exact e
  refine lc1y Y (fun i ys H => i ≤ xs.length ∧ ys = (xs.take i).map f ∧ H = upd H1 D (.lst ys)) ⟨Nat.zero_le _, by simp, rfl⟩ (fun i ys H _ p => hR H (by rw [p.2.2]; exact sm _)) ?_ ?_
  · rintro i x ys H hx ⟨hi, rfl, rfl⟩
    have hlt := (List.getElem?_eq_some_iff.mp hx).1
    have et : xs.take (i + 1) = xs.take i ++ [x] := by rw [List.take_add_one, hx]; rfl
    refine hs i x _ _ hx (sm _) ⟨⟨_, rfl⟩, upd_same, ?_, hlt, ?_, ?_⟩
    · rw [List.length_map, List.length_take]; exact Nat.lt_of_le_of_lt (show min i xs.length ≤ 1000 by omega) (by decide)
    · rw [et, List.map_append]; rfl
    · rw [upd_upd]
  · rintro ys H ⟨_, rfl, rfl⟩
    rw [List.take_of_length_le (Nat.le_refl _)]
    exact hd
end L2
namespace L2
open PySem PySem.Spec PyProof.Rows
/-- a body, statement by statement -/
theorem ex_cut {X : Cx} {st : Stmt} {rest : List Stmt} {D : Ends} {σ : St} {H : Hp} (I : St → Hp → Prop) (g : ∀ u : TS, (∀ σ' H', I σ' H' → u D σ' H') → ∃ t, PS X st t ∧ t { D with nx := u D } σ H)
    (h : ∀ σ' H', I σ' H' → ∃ u, PSs X rest u ∧ u D σ' H') : ∃ t, PSs X (st :: rest) t ∧ t D σ H := by
  let u : TS := fun D' σ' H' => ∃ u0, PSs X rest u0 ∧ u0 D' σ' H'
  have pu : PSs X rest u := fun pins s σ' H' D' I' ⟨u0, p0, h0⟩ => p0 pins s σ' H' D' I' h0
  obtain ⟨t, pt, ht⟩ := g u h
  exact ⟨tSeq t u, pss_cons pt pu, ht⟩
/-- one statement that does not branch -/
theorem ex_next {X : Cx} {st : Stmt} {rest : List Stmt} {D : Ends} {σ : St} {H : Hp} (t : TS) (p : PS X st t) (h : t { D with nx := fun σ' H' => ∃ u, PSs X rest u ∧ u D σ' H' } σ H) : ∃ t, PSs X (st :: rest) t ∧ t D σ H := by
  let u : TS := fun D' σ' H' => ∃ u0, PSs X rest u0 ∧ u0 D' σ' H'
  have pu : PSs X rest u := fun pins s σ' H' D' I' ⟨u0, p0, h0⟩ => p0 pins s σ' H' D' I' h0
  exact ⟨tSeq t u, pss_cons p pu, h⟩
end L2
namespace L2
open PySem PySem.Spec PyProof.Rows
/-! ### rules whose reading names the fragment: with K given (within a comprehension) -/
section
variable {X : Cx} {o e : Expr} {es : List Expr} {to : TE} {t : TA} {name : Str} {apos cpos : Pos} {T id : String} {r : V → List V → Hp → VK → Prop}
def rLenK (K : PySem.W.Frag) : List V → Hp → VK → Prop := fun xs H Q => ∃ p ys, xs = [.ref p] ∧ (SqL K H p ys ∨ SqT K H p ys) ∧ Q (.int ys.length) H
theorem call_lenK (K : PySem.W.Frag) (hK : X.K = K := by rfl) : CallR X (.builtin "len") (rLenK K) := by subst hK; exact call_len_seq
theorem ix_listK (K : PySem.W.Frag) (hK : X.K = K := by rfl) : IxR X (rIxL K) := by subst hK; exact ix_list
theorem ix_tupK (K : PySem.W.Frag) (hK : X.K = K := by rfl) : IxR X (rIxT K) := by subst hK; exact ix_tup
theorem pe_bmK (K : PySem.W.Frag) (pa : PlainAttrs T) (slot : Slot T name id) (hty : typeOf (.builtin id) = pure (.type "method_descriptor")) (hm : MtR X id r) (ho : PE X o to) (ha : PA X (e :: es) t) (hK : X.K = K := by rfl)
    (hbase : attributeBase o name X.env (eval o X.env) = eval o X.env := by rfl)
    (hfew : ((backTo cpos (starEach (e :: es) X.env)).all (fun x => !x.1) && (backToKw cpos (keywordEach [] X.env)).all (fun x => x.1.isSome)
      && decide ((e :: es).length + ([] : List Keyword).length + (if ([] : List Keyword).isEmpty then 0 else 1) < 30)) = true := by rfl)
    (hline : (apos.endLine == cpos.line) = true := by rfl) (hs : starEach (e :: es) X.env = (false, eval e X.env) :: starEach es X.env := by rfl) (hplain : (backTo cpos (starEach es X.env)).any (·.1) = false := by rfl) :
    PE X (.Call (.Attribute o name apos) (e :: es) [] cpos) (tBM K T r to t) := by
  subst hK
  exact pe_bm pa slot hty hm ho ha hbase hfew hline hs hplain
end
end L2
namespace L2
open PySem PySem.Spec PyProof.Rows
section
variable {X : Cx}
def tInts (xs : List Int) : TA := fun _ H Q => Q (xs.map V.int) H
theorem pa_ints : ∀ (l : List (Int × Nat × Pos)), PA X (l.map fun p => .Constant (.int p.1) p.2.1 p.2.2) (tInts (l.map (·.1)))
  | [] => pa_nil
  | a :: r => fun pos pins s σ H Q I h => pa_c (pe_int (i := a.1) (j := a.2.1) (pos := a.2.2)) (pa_ints r) (by rfl) pos pins s σ H Q I h
end
end L2
namespace L2
open PySem PySem.Spec PyProof.Rows
section
variable {X : Cx}
theorem op_neNil (hu : X.A.units + 64 < cLine) : OpR X (compareOp .NotEq) (rEqNil X.K true) := by
  intro pins s σ H x y v u Q I rx ry h
  obtain ⟨a, b, xs, rfl, rfl, h1, h2, q⟩ := h
  cases rx
  cases ry
  obtain ⟨its, r1, p1, _⟩ := I.list h1
  obtain ⟨its2, r2, p2, _⟩ := I.list h2
  cases r2
  have q' : ∀ b', b' = !xs.isEmpty → EP X pins σ Q (.bool b') s := fun b' e => ⟨.bl b', H, I, rfl, by subst e; exact q⟩
  cases r1 with
  | nil => exact SeqAt.RcNeAt.lists (e := fun _ => true) p1.isList p2.isList rfl (by omega) (fun i h1 _ => by simp at h1) X.prog X.w _ _ (q' _ (by simp))
  | cons r rr => exact SeqAt.RcNeAt.lists_lengths p1.isList p2.isList (by simp) (by omega) X.prog X.w _ _ (q' _ rfl)
def rIsi (K : PySem.W.Frag) : List V → Hp → VK → Prop := fun xs H Q => ∃ (x c : V) (t cv : Value) (b : Bool), xs = [x, c] ∧ RelV c cv ∧ TyOf K H x t ∧ PySem.W.kitOne K t cv = some b ∧ Q (.bl b) H
theorem call_isiK (K : PySem.W.Frag) (hK : X.K = K := by rfl) : CallR X (.builtin "isinstance") (rIsi K) := by subst hK; exact call_isi
end
theorem kit_same (K : PySem.W.Frag) (T : String) : PySem.W.kitOne K (.type T) (.type T) = some true := by
  unfold PySem.W.kitOne
  rw [if_pos (by simp)]
theorem mem_putK {κ : Type} [DecidableEq κ] {kvs : List (κ × V)} {k : κ} {v : V} {p : κ × V} (h : p ∈ putK kvs k v) : p ∈ kvs ∨ p = (k, v) := by
  unfold putK at h
  split at h
  · obtain ⟨q, hq, e⟩ := List.mem_map.mp h
    by_cases z : q.1 = k
    · rw [if_pos z] at e; subst e; rw [z]; exact .inr rfl
    · rw [if_neg z] at e; subst e; exact .inl hq
  · rcases List.mem_append.mp h with q | q
    · exact .inl q
    · exact .inr (List.mem_singleton.mp q)
theorem putK_nd {κ : Type} [DecidableEq κ] {kvs : List (κ × V)} (k : κ) (v : V) (h : (kvs.map (·.1)).Nodup) : ((putK kvs k v).map (·.1)).Nodup := by
  cases e : valV kvs k with
  | none => exact nd_putK v h e
  | some u =>
    have hk : (kvs.any fun kv => decide (kv.1 = k)) = true := by rw [valV_any, e]; rfl
    have : (putK kvs k v).map (·.1) = kvs.map (·.1) := by
      unfold putK
      rw [if_pos hk, List.map_map]
      refine List.map_congr_left fun a _ => ?_
      show (if a.1 = k then (a.1, v) else a).1 = a.1
      split <;> rfl
    rw [this]; exact h
end L2

namespace Lw
open PySem L2
def spKept : Sp := fun vs H Q _ => vs = [] ∧ ∀ l, H l = none → Q (.ref l) (upd H l (.lst (keptS.map V.str)))
/-- names: a new list of so many texts of one to eight letters -/
def spMade : Sp := fun vs H Q _ => ∃ (d c : Addr) (m : Nat), vs = [.ref d, .int m] ∧ DeckAt H d c ∧ m ≤ 40 ∧ ∀ (l : Addr) (xs : List Str) (H' : Hp), H l = none → H' l = some (.lst (xs.map V.str)) → xs.length = m → (∀ x ∈ xs, LS 1 8 x) →
  DeckAt H' d c → Keep d c H H' → Q (.ref l) H'
theorem Keep.free {d c l : Addr} {H H' : Hp} (k : Keep d c H H') (h1 : l ≠ d) (h2 : l ≠ c) (h : H' l = none) : H l = none := by
  cases e : H l with
  | none => rfl
  | some o => rw [k l o e h1 h2] at h; cases h
theorem map_len_le {ys : List Str} {n m : Nat} (h : ∀ y ∈ ys, y.length ≤ m) (hn : ys.length ≤ n) : (ys.map (·.length)).sum ≤ n * m := by
  have : ∀ ys : List Str, (∀ y ∈ ys, y.length ≤ m) → (ys.map (·.length)).sum ≤ ys.length * m := by
    intro ys
    induction ys with
    | nil => intro _; simp
    | cons a r ih =>
      intro h
      have h1 := h a List.mem_cons_self
      have h2 := ih fun y hy => h y (List.mem_cons_of_mem _ hy)
      simp only [List.map_cons, List.sum_cons, List.length_cons, Nat.add_mul, Nat.one_mul]
      omega
  exact Nat.le_trans (this ys h) (Nat.mul_le_mul_right m hn)
theorem small_size {n : Nat} (h : n ≤ 1000) : n ≤ sizeLine := Nat.le_trans h (by decide)
section
variable {P : Program} {w : World} {K : PySem.W.Frag} {mg : Str → Option Value} {base : Heap}
theorem scKept : FnScope [] [] (defScope sKept) := ⟨rfl, rfl, rfl, by decide +kernel, rfl, by decide +kernel, by decide +kernel⟩
theorem ok_kept {f : Addr} {fd : FuncData} (F : Fun K "_law_kept" "_law_kept" sKept f fd) : FnOk P w K mg base CX0 1 f fd [] spKept := by
  refine F.ok scKept (fun vs H Q E h => ?_) (fun cdv A outer s H vs Q E hr h => ?_)
  · obtain ⟨rfl, _⟩ := h
    rfl
  · obtain ⟨rfl, k⟩ := h
    refine ⟨_, @pss_one _ _ _ (@ps_ret _ _ _ _ (@pe_lst _ _ _ _ (@pa_strs _ [("and", _, _), ("or", _, _), ("odd", _, _), ("most", _, _), ("not", _, _), ("one", _, _), ("nil", _, _), ("in", _, _), ("out", _, _)]))), ?_⟩
    have hz : 9 ≤ sizeLine := by decide
    refine ⟨hz, ?_⟩
    exact k
theorem scMade : FnScope ["deck", "many", "letters", "base", "at", "shift", "way", "names", "k", "sign", "word", "name"] ["deck", "many"] (defScope sMade) := ⟨rfl, rfl, rfl, by decide +kernel, rfl, by decide +kernel, by decide +kernel⟩
theorem ndMade : (["k", "letters", "deck"] : List Str).Nodup := by decide +kernel
theorem q01 {i : Int} (h0 : 0 ≤ i) (h1 : i < 2) (q : Str) (hq : LS 0 1 q) : ∃ x, atI [V.str "", V.str q] i = some (V.str x) ∧ LS 0 1 x := by
  have : i = 0 ∨ i = 1 := by omega
  rcases this with rfl | rfl
  · exact ⟨"", rfl, LS.of (by decide +kernel)⟩
  · exact ⟨q, rfl, hq⟩
set_option maxHeartbeats 4000000 in
theorem ok_made {f fT fK : Addr} {fd fdT fdK : FuncData} (F : Fun K "_law_made_names" "_law_made_names" sMade f fd) (T : Txt mg) (gT : Gd K mg "_law_take" sTake ["deck", "many"] fT fdT) (gK : Gd K mg "_law_kept" sKept [] fK fdK) :
    FnOk P w K mg base CX0 2 f fd ["deck", "many"] spMade := by
  have GT : FnOk P w K mg base CX0 1 fT fdT ["deck", "many"] spTake := ok_take gT.F T
  have GK : FnOk P w K mg base CX0 1 fK fdK [] spKept := ok_kept gK.F
  refine F.ok scMade (fun vs H Q E h => ?_) (fun cdv A outer s H vs Q E hr h => ?_)
  · obtain ⟨d, c, m, rfl, _⟩ := h
    rfl
  · obtain ⟨d, c, m, rfl, D, hm, k⟩ := h
    refine ⟨_, pss_cons (ps_set (i := 2) scMade.nd rfl (Or.inr rfl) pe_str)
      (pss_cons (ps_set (i := 3) scMade.nd rfl (Or.inl rfl) (pe_bm PySem.F.plainAttrs_str PySem.F.slot_str_join PySem.F.type_str_join mt_join pe_str (pa_c
        (pe_lc ["k"] ["letters", "deck"] [2, 0] rfl (pi_range1 rfl T.range (pa_c (pe_call GT hr rfl gT.m gT.k gT.b .nil pass0 (pa_c (pv 0) (pa_c pe_int pa_nil))) pa_nil)) rfl rfl
          (fun s₀ H₀ C cl fp => pg_name (i := 0) ndMade rfl (Or.inl rfl)) (fun s₀ H₀ C cl fp => pifs_nil)
          (fun s₀ H₀ C cl fp => pe_ix ix_str (pv 1) (pe_call GT hr rfl gT.m gT.k gT.b .nil pass0 (pa_c (pv 2) (pa_c pe_int pa_nil))) (fun _ _ => rfl))) pa_nil)))
      (pss_cons (ps_set (i := 4) scMade.nd rfl (Or.inl rfl) (pe_call GT hr rfl gT.m gT.k gT.b .nil pass0 (pa_c (pv 0) (pa_c (pe_op op_add (pe_callB call_len_str (by rfl) T.len PySem.boot_len (pa_c (pv 3) pa_nil)) pe_int) pa_nil))))
      (pss_cons (ps_set (i := 5) scMade.nd rfl (Or.inl rfl) (pe_call GT hr rfl gT.m gT.k gT.b .nil pass0 (pa_c (pv 0) (pa_c pe_int pa_nil))))
      (pss_cons (ps_set (i := 6) scMade.nd rfl (Or.inl rfl) (pe_call GT hr rfl gT.m gT.k gT.b .nil pass0 (pa_c (pv 0) (pa_c pe_int pa_nil))))
      (pss_cons (ps_set (i := 7) scMade.nd rfl (Or.inl rfl) (pe_lst pa_nil))
      (pss_cons (ps_for PassesOwn.never rfl (pi_range1 rfl T.range (pa_c (pv 1) pa_nil)) (pg_name (i := 8) scMade.nd rfl (Or.inl rfl))
        (pss_cons (ps_set (i := 9) scMade.nd rfl (Or.inl rfl) (pe_ix ix_str (pv 2) (pe_op op_mod (pe_op op_add (pv 5) (pv 8)) pe_int) (fun _ _ => rfl)))
        (pss_cons (ps_set (i := 10) scMade.nd rfl (Or.inl rfl) (pe_ix ix_list (pe_call0 GK hr rfl gK.m gK.k gK.b .nil pass0) (pe_op op_mod (pe_op op_add (pv 5) (pv 8)) pe_int) (fun _ _ => rfl)))
        (pss_cons (ps_set (i := 11) scMade.nd rfl (Or.inl rfl) (pe_op op_add_str (pe_op op_add_str (pe_op op_add_str (pe_op op_add_str (pe_slice sl_str (pv 3) po_none (po_some (pv 4))) (pv 9))
          (pe_ix ix_list (pe_lst (pa_c pe_str (pa_c pe_str pa_nil))) (pe_op op_mod (pv 8) pe_int) (fun _ _ => rfl))) (pe_slice sl_str (pv 3) (po_some (pv 4)) po_none)) (pe_ix ix_list (pe_lst (pa_c pe_str (pa_c pe_str pa_nil))) (pe_op op_fdiv (pv 8) pe_int) (fun _ _ => rfl))))
        (pss_one (ps_expr (pe_bm PySem.F.plainAttrs_list PySem.F.slot_list_append PySem.F.type_list_append mt_append (pv 7) (pa_c (pe_ix ix_list (pe_lst (pa_c (pv 11) (pa_c (pe_op op_add_str (pv 9) (pv 10)) (pa_c (pe_op op_add_str (pv 10) (pv 9))
          (pa_c (pe_op op_add_str (pe_op op_add_str (pv 9) (pv 10)) (pe_ix ix_str (pv 2) (pe_op op_mod (pv 8) pe_int) (fun _ _ => rfl))) pa_nil))))) (pv 6) (fun _ _ => rfl)) pa_nil))))))))
      (pss_one (ps_ret (pv 7))))))))), ?_⟩
    -- base
    refine ⟨rfl, _, rfl, d, c, 6, rfl, D, by decide, by decide, fun r1 H1 a0 a1 D1 k1 => ⟨_, rfl, by omega, by omega, fun D0 nD0 => ?_⟩⟩
    have nd0 := D1.ned nD0
    have hHD : H D0 = none := k1.free nd0.1 nd0.2 nD0
    refine lc1y yields_range (fun i ys H2 => ∃ zs : List Str, ys = zs.map V.str ∧ zs.length = i ∧ (∀ z ∈ zs, LS 1 1 z) ∧ DeckAt H2 d c ∧ Keep d c H H2 ∧ H2 D0 = some (.lst ys))
      ⟨[], rfl, rfl, (fun z hz => nomatch hz), D1.new nD0, k1.trans (Keep.new nD0), upd_same⟩ (fun _ _ _ _ _ => True.intro) ?_ ?_
    · rintro i x ys H2 hx ⟨zs, rfl, hl, hzs, D2, k2, hD⟩
      have hi : i < 6 := by
        have := (List.getElem?_eq_some_iff.mp hx).1
        simp at this
        omega
      refine ⟨_, rfl, _, rfl, d, c, 26, rfl, D2, by decide, by decide, fun r H3 b0 b1 D3 k3 => ?_⟩
      obtain ⟨cc, hat, hcc⟩ := letters_at b0 b1
      have hD3 := k3 D0 _ hD nd0.1 nd0.2
      refine ⟨lettersS, _, cc, rfl, rfl, (by rw [letters_len]; decide), hat, ⟨_, rfl⟩, hD3, (by rw [List.length_map]; exact Nat.lt_of_lt_of_le (show zs.length < 1000 by omega) (by decide)), zs ++ [⟨#[cc]⟩], by simp, by simp [hl], fun z hz => ?_, D3.upd_other nd0.1 nd0.2, ?_, upd_same⟩
      · rcases List.mem_append.mp hz with q | q
        · exact hzs z q
        · rw [List.mem_singleton.mp q]; exact LS.sign hcc
      · exact fun b o e h1 h2 => by rw [upd_ne (ne_of_none e hHD)]; exact k3 b o (k2 b o e h1 h2) h1 h2
    · rintro ys H2 ⟨zs, rfl, hl, hz, D2, k2, hD⟩
      rw [List.length_map, List.length_range] at hl
      have hB := glue_signs zs hz
      have hBl : zs.length ≤ 5 := by omega
      refine ⟨"", D0, zs, rfl, rfl, .inl (SqL.of hD), ?_, ?_⟩
      · have h1 := map_len_le (m := 1) (fun y hy => (hz y hy).hi) hBl
        have h2 : (Str.ofString "").length = 0 := by decide +kernel
        rw [h2]; omega
      have ej : Txt.join (Str.ofString "") zs = Str.join (Str.ofString "") zs := StrLaws.glued_eq_join _ _
      rw [ej]
      generalize Str.join (Str.ofString "") zs = B at hB
      have eB : B.length = zs.length := Nat.le_antisymm hB.hi hB.lo
      -- at, shift, way
      refine ⟨_, rfl, _, rfl, B, rfl, small_size (by omega), _, _, rfl, rfl, d, c, _, rfl, D2, by omega, by omega, fun r2 H3 b0 b1 D3 k3 => ?_⟩
      refine ⟨_, rfl, d, c, 26, rfl, D3, by decide, by decide, fun r3 H4 c0 c1 D4 k4 => ?_⟩
      refine ⟨_, rfl, d, c, 4, rfl, D4, by decide, by decide, fun r4 H5 d0 d1 D5 k5 => ?_⟩
      -- names = []
      refine ⟨(by show 0 ≤ sizeLine; decide), fun l nl => ?_⟩
      have kk : Keep d c H H5 := ((k2.trans k3).trans k4).trans k5
      have nl2 := D5.ned nl
      have hHl : H l = none := kk.free nl2.1 nl2.2 nl
      obtain ⟨at', rfl⟩ := Int.eq_ofNat_of_zero_le b0
      -- for k in range(many)
      refine ⟨_, rfl, _, rfl, by omega, by omega, ?_⟩
      rw [Int.toNat_natCast]
      refine for_range (lo := 0) (n := m) (fun i σ H6 => ∃ (xs : List Str) (v8 v9 v10 v11 : Option V), σ = [some (.ref d), some (.int m), some (.str lettersS), some (.str B), some (.int at'), some (.int r3), some (.int r4), some (.ref l), v8, v9, v10, v11] ∧
          xs.length = i ∧ (∀ x ∈ xs, LS 1 8 x) ∧ H6 l = some (.lst (xs.map V.str)) ∧ DeckAt H6 d c ∧ Keep d c H H6)
        ⟨[], none, none, none, none, rfl, rfl, (fun z hz => nomatch hz), upd_same, D5.new nl, kk.trans (Keep.new nl)⟩ ?_ ?_
      · rintro i σ H6 hi ⟨xs, v8, v9, v10, v11, rfl, hl6, hx6, h6, D6, k6⟩
        have e26 : ∀ z : Int, 0 ≤ z % 26 ∧ z % 26 < 26 := fun z => ⟨Int.emod_nonneg z (by decide), Int.emod_lt_of_pos z (by decide)⟩
        have e9 : ∀ z : Int, 0 ≤ z % 9 ∧ z % 9 < 9 := fun z => ⟨Int.emod_nonneg z (by decide), Int.emod_lt_of_pos z (by decide)⟩
        have e2 : ∀ z : Int, 0 ≤ z % 2 ∧ z % 2 < 2 := fun z => ⟨Int.emod_nonneg z (by decide), Int.emod_lt_of_pos z (by decide)⟩
        obtain ⟨cc, hat1, hcc⟩ := letters_at (e26 (r3 + (0 + (i : Int)))).1 (e26 _).2
        obtain ⟨wd, hat2, hwd⟩ := at_str (xs := keptS) (e9 (r3 + (0 + (i : Int)))).1 (by exact (e9 _).2)
        obtain ⟨x1, hat3, hx1⟩ := q01 (e2 (0 + (i : Int))).1 (e2 _).2 "q" (LS.of (by decide +kernel))
        obtain ⟨x2, hat4, hx2⟩ := q01 (i := (0 + (i : Int)) / 26) (by omega) (by omega) "w" (LS.of (by decide +kernel))
        obtain ⟨c5, hat5, hc5⟩ := letters_at (e26 (0 + (i : Int))).1 (e26 _).2
        have hS := LS.sign hcc
        have hW := kept_ls hwd
        have hatn : at' ≤ zs.length := by omega
        have hP := hB.cutL hatn
        have hR := hB.cutR hatn
        have n1 := hP.app hS
        have n2 := n1.app hx1
        have n3 := n2.app hR
        have n4 := n3.app hx2
        have w1 := hS.app hW
        have w2 := hW.app hS
        have w3 := w1.app (LS.sign hc5)
        have sz : ∀ {a b c' d' : Nat} {x y : Str}, LS a b x → LS c' d' y → b + d' ≤ 100 → x.length + y.length ≤ sizeLine := fun g1 g2 hb => small_size (by have := g1.hi; have := g2.hi; omega)
        have lsz : lettersS.length ≤ sizeLine := by rw [letters_len]; decide
        have bsz : B.length ≤ sizeLine := small_size (by omega)
        -- sign, word
        refine ⟨_, rfl, _, rfl, _, rfl, _, _, rfl, rfl, _, _, rfl, rfl, (by show (0 : Int) < 26; decide), lettersS, _, cc, rfl, rfl, lsz, hat1, ?_⟩
        refine ⟨rfl, fun p np => ?_⟩
        have D7 : DeckAt (upd H6 p (.lst (keptS.map V.str))) d c := D6.new np
        refine ⟨_, rfl, _, rfl, _, _, rfl, rfl, _, _, rfl, rfl, (by show (0 : Int) < 9; decide), p, _, _, .str wd, rfl, rfl, SqL.of upd_same, hat2, ?_⟩
        have k7 : Keep d c H (upd H6 p (.lst (keptS.map V.str))) := k6.trans (Keep.new np)
        have h7 : upd H6 p (.lst (keptS.map V.str)) l = some (.lst (xs.map V.str)) := by rw [upd_ne (ne_of_none h6 np)]; exact h6
        generalize upd H6 p (.lst (keptS.map V.str)) = H7 at D7 k7 h7 ⊢
        -- name
        refine ⟨_, rfl, _, rfl, _, rfl, B, rfl, bsz, _, rfl, _, _, rfl, rfl, sz hP hS (by omega), (by show 2 ≤ sizeLine; decide), fun p2 np2 => ?_⟩
        have D8 := D7.new (o := .lst [V.str (Str.ofString ""), V.str (Str.ofString "q")]) np2
        have k8 := k7.trans (Keep.new (d := d) (c := c) (o := .lst [V.str (Str.ofString ""), V.str (Str.ofString "q")]) np2)
        have h8 : upd H7 p2 (.lst [V.str (Str.ofString ""), V.str (Str.ofString "q")]) l = some (.lst (xs.map V.str)) := by rw [upd_ne (ne_of_none h7 np2)]; exact h7
        refine ⟨_, rfl, _, _, rfl, rfl, (by show (0 : Int) < 2; decide), p2, _, _, .str x1, rfl, rfl, SqL.of upd_same, hat3, _, _, rfl, rfl, sz n1 hx1 (by omega), _, rfl, _, rfl, _, rfl, B, rfl, bsz, _, _, rfl, rfl, sz n2 hR (by omega), (by show 2 ≤ sizeLine; decide), fun p3 np3 => ?_⟩
        generalize upd H7 p2 (.lst [V.str (Str.ofString ""), V.str (Str.ofString "q")]) = H8 at D8 k8 h8 np3 ⊢
        have D9 := D8.new (o := .lst [V.str (Str.ofString ""), V.str (Str.ofString "w")]) np3
        have k9 := k8.trans (Keep.new (d := d) (c := c) (o := .lst [V.str (Str.ofString ""), V.str (Str.ofString "w")]) np3)
        have h9 : upd H8 p3 (.lst [V.str (Str.ofString ""), V.str (Str.ofString "w")]) l = some (.lst (xs.map V.str)) := by rw [upd_ne (ne_of_none h8 np3)]; exact h8
        refine ⟨_, rfl, _, _, rfl, rfl, ⟨by decide, by decide⟩, p3, _, _, .str x2, rfl, rfl, SqL.of upd_same, hat4, _, _, rfl, rfl, sz n3 hx2 (by omega), ?_⟩
        generalize upd H8 p3 (.lst [V.str (Str.ofString ""), V.str (Str.ofString "w")]) = H9 at D9 k9 h9 ⊢
        -- names.append
        generalize hNm : (cutS B none (some (at' : Int)) ++ (⟨#[cc]⟩ : Str) ++ x1 ++ cutS B (some (at' : Int)) none ++ x2) = nm at n4
        refine ⟨_, rfl, .inl ⟨rfl, _, SqL.of h9⟩, _, rfl, _, rfl, _, rfl, _, _, rfl, rfl, sz hS hW (by omega), _, rfl, _, rfl, _, _, rfl, rfl, sz hW hS (by omega), _, rfl, _, rfl, _, _, rfl, rfl, sz hS hW (by omega), _, rfl, _, rfl, _, _, rfl, rfl, (by show (0 : Int) < 26; decide), lettersS, _, c5, rfl, rfl, lsz, hat5, _, _, rfl, rfl, sz w1 (LS.sign hc5) (by omega),
          (by show 4 ≤ sizeLine; decide), fun p4 np4 => ?_⟩
        obtain ⟨z, hat6, hz6⟩ := at_str (xs := [nm, (⟨#[cc]⟩ : Str) ++ wd, wd ++ (⟨#[cc]⟩ : Str), (⟨#[cc]⟩ : Str) ++ wd ++ (⟨#[c5]⟩ : Str)]) d0 (by exact d1)
        have hzl : LS 1 8 z := by
          simp only [List.mem_cons, List.not_mem_nil, or_false] at hz6
          rcases hz6 with rfl | rfl | rfl | rfl
          · exact n4.weak (by omega) (by omega)
          · exact w1.weak (by omega) (by omega)
          · exact w2.weak (by omega) (by omega)
          · exact w3.weak (by omega) (by omega)
        have h10 : ∀ o4, upd H9 p4 o4 l = some (.lst (xs.map V.str)) := fun o4 => by rw [upd_ne (ne_of_none h9 np4)]; exact h9
        refine ⟨_, rfl, p4, _, _, .str z, rfl, rfl, SqL.of upd_same, hat6, l, xs.map V.str, .str z, rfl, rfl, ?_, ?_, xs ++ [z], _, _, _, _, rfl, by simp [hl6], ?_, ?_, ?_, ?_⟩
        · exact h10 _
        · rw [List.length_map]; exact Nat.lt_of_lt_of_le (show xs.length < 1000 by omega) (by decide)
        · intro y hy
          rcases List.mem_append.mp hy with q | q
          · exact hx6 y q
          · rw [List.mem_singleton.mp q]; exact hzl
        · rw [upd_same]; simp
        · exact (D9.new np4).upd_other nl2.1 nl2.2
        · exact fun b o e g1 g2 => by rw [upd_ne (ne_of_none e hHl)]; exact (k9.trans (Keep.new np4)) b o e g1 g2
      · rintro σ H6 ⟨xs, v8, v9, v10, v11, rfl, hl6, hx6, h6, D6, k6⟩
        exact ⟨_, rfl, k l xs H6 hHl h6 hl6 hx6 D6 k6⟩
end
end Lw

namespace Lw
open PySem L2
def spare1 : List Str := ["cell", "along", "lay", "judge", "late", "gates", "ways", "show"]
def spare2 : List Str := ["andx", "orb", "oddly", "mosts", "nots", "ones", "nila", "inn", "outer", "aa", "ab", "ba"]
def spare3 : List Str := ["abcdefgh", "abcdefgi", "zzzzzzzz", "names", "judged", "rowsofx"]
def signsS (z : Str) : List Str := z.cps.toList.map fun c => (⟨#[c]⟩ : Str)
def spareS : List Str := signsS lettersS ++ spare1 ++ spare2 ++ spare3
theorem spare_nodup : spareS.Nodup := by decide +kernel
theorem spare_len : spareS.length = 52 := by decide +kernel
theorem spare_good : ∀ x ∈ spareS, GoodName x := by
  have h : spareS.all (fun x => lsB 1 8 x && !keptS.contains x) = true := by decide +kernel
  intro x hx
  have := List.all_eq_true.mp h x hx
  rw [Bool.and_eq_true] at this
  refine ⟨LS.of this.1, fun m => ?_⟩
  have h2 := this.2
  rw [List.contains_iff_mem.mpr m] at h2
  cases h2
def spNames : Sp := fun vs H Q _ => ∃ (d c : Addr) (m : Nat), vs = [.ref d, .int m] ∧ DeckAt H d c ∧ m ≤ 40 ∧ ∀ (l : Addr) (xs : List Str) (H' : Hp), H l = none → H' l = some (.lst (xs.map V.str)) → xs.length = m → xs.Nodup → (∀ x ∈ xs, GoodName x) →
  DeckAt H' d c → Keep d c H H' → Q (.ref l) H'
theorem pop_perm : ∀ {sp : List Str} {k : Nat} {y : Str}, sp[k]? = some y → (y :: sp.eraseIdx k).Perm sp
  | [], k, y, h => by simp at h
  | a :: r, 0, y, h => by
    simp at h
    subst h
    exact List.Perm.refl _
  | a :: r, k + 1, y, h => by
    have h' : r[k]? = some y := by simpa using h
    show (y :: a :: r.eraseIdx k).Perm (a :: r)
    exact (List.Perm.swap a y _).trans ((pop_perm h').cons a)
theorem erase_map {α β : Type} (f : α → β) : ∀ (l : List α) (k : Nat), (l.map f).eraseIdx k = (l.eraseIdx k).map f
  | [], _ => rfl
  | _ :: _, 0 => rfl
  | a :: r, k + 1 => by simp [erase_map f r k]
theorem inV_str (x : Str) (ys : List Str) : inV (.str x) (ys.map V.str) = decide (x ∈ ys) := by
  unfold inV
  induction ys with
  | nil => rfl
  | cons y r ih =>
    rw [List.map_cons, List.any_cons, ih]
    have : eqV (V.str y) (V.str x) = decide (y = x) := by
      simp only [eqV]
      exact Bool.beq_eq_decide_eq y x
    rw [this]
    by_cases h : x = y
    · subst h; simp
    · have h' : ¬ y = x := fun e => h e.symm
      simp [h, h']
theorem flat_strs (ys : List Str) : (ys.map V.str).all flatV = true := by
  rw [List.all_eq_true]
  intro v hv
  obtain ⟨y, _, rfl⟩ := List.mem_map.mp hv
  rfl
section
variable {P : Program} {w : World} {K : PySem.W.Frag} {mg : Str → Option Value} {base : Heap}
theorem scNames : FnScope ["deck", "many", "letters", "names", "spare"] ["deck", "many"] (defScope sNames) := ⟨rfl, rfl, rfl, by decide +kernel, rfl, by decide +kernel, by decide +kernel⟩
theorem nd1 (x : Str) : ([x] : List Str).Nodup := by simp
theorem ndSpare : (["k", "spare", "deck"] : List Str).Nodup := by decide +kernel
set_option maxHeartbeats 4000000 in
theorem ok_names {f fT fK fM : Addr} {fd fdT fdK fdM : FuncData} (F : Fun K "_law_names" "_law_names" sNames f fd) (T : Txt mg) (gT : Gd K mg "_law_take" sTake ["deck", "many"] fT fdT) (gK : Gd K mg "_law_kept" sKept [] fK fdK)
    (gM : Gd K mg "_law_made_names" sMade ["deck", "many"] fM fdM) : FnOk P w K mg base CX0 3 f fd ["deck", "many"] spNames := by
  have GT : FnOk P w K mg base CX0 1 fT fdT ["deck", "many"] spTake := ok_take gT.F T
  have GK : FnOk P w K mg base CX0 1 fK fdK [] spKept := ok_kept gK.F
  have GM : FnOk P w K mg base CX0 2 fM fdM ["deck", "many"] spMade := ok_made gM.F T gT gK
  refine F.ok scNames (fun vs H Q E h => ?_) (fun cdv A outer s H vs Q E hr h => ?_)
  · obtain ⟨d, c, m, rfl, _⟩ := h
    rfl
  · obtain ⟨d, c, m, rfl, D, hm, k⟩ := h
    have hr1 : Room 1 _ := hr.mono (by decide)
    have hu := hr.units
    refine ex_next _ (ps_set (i := 2) scNames.nd rfl (Or.inl rfl) pe_str) ?_
    refine ex_cut (fun σ H4 => ∃ v3, σ = [some (.ref d), some (.int m), some (.str lettersS), v3, none] ∧ DeckAt H4 d c ∧ Keep d c H H4) (fun u hu' => ?_) ?_
    · -- if _law_take(deck, 2) == 1
      refine ⟨_, ps_if (pt_cmpR op_eq (pe_call GT hr1 rfl gT.m gT.k gT.b .nil pass0 (pa_c (pv 0) (pa_c pe_int pa_nil))) pe_int (nomark _))
        (pss_cons (ps_set (i := 3) scNames.nd rfl (Or.inl rfl) (pe_call GM hr rfl gM.m gM.k gM.b .nil pass0 (pa_c (pv 0) (pa_c (pv 1) pa_nil))))
        (pss_one (ps_if (PW.pt (pw_and (pt_cmpR op_eq (pe_callB call_lenS (by rfl) T.len PySem.boot_len (pa_c (pe_callTy (call_setS rfl) (by rfl) T.set PyProof.Rows.boot_set (pa_c (pv 3) pa_nil)) pa_nil)) (pv 1) (nomark _))
          (pw_and1 (pt_cmpR (op_eqNil hu) (pe_lc ["name"] [] [] rfl (pi_list (pv 3)) rfl rfl (fun s₀ H₀ C cl fp => pg_name (i := 0) (nd1 _) rfl (Or.inl rfl))
            (fun s₀ H₀ C cl fp => pifs_one (pt_cmpR (r := rIn K false) op_in_seq (pv 0) (pe_call0 GK hr1 rfl gK.m gK.k gK.b .nil pass0) rfl)) (fun s₀ H₀ C cl fp => pv 0)) (pe_lst pa_nil) (nomark _)))))
          (pss_one (ps_ret (pv 3))) pss_nil))) pss_nil, ?_⟩
      refine ⟨_, rfl, d, c, 2, rfl, D, by decide, by decide, fun r1 H1 a0 a1 D1 k1 => ⟨rfl, _, rfl, ?_⟩⟩
      refine ite2 (fun _ => ?_) (fun _ => hu' _ _ ⟨none, rfl, D1, k1⟩)
      refine ⟨_, rfl, _, rfl, d, c, m, rfl, D1, hm, fun l xs H2 nl hl hlen hls D2 k2 => ?_⟩
      have kk : Keep d c H H2 := k1.trans k2
      have nl1 := D1.ned nl
      have hHl : H l = none := k1.free nl1.1 nl1.2 nl
      -- len(set(names)) == many
      refine ⟨_, rfl, l, xs, rfl, SqL.of hl, by omega, fun p np => ?_⟩
      have k3 := kk.trans (Keep.new (d := d) (c := c) (o := SetN P w p (ddS xs).length) np)
      have D3 := D2.new (o := SetN P w p (ddS xs).length) np
      have hl3 : upd H2 p (SetN P w p (ddS xs).length) l = some (.lst (xs.map V.str)) := by rw [upd_ne (ne_of_none hl np)]; exact hl
      refine ⟨p, _, rfl, upd_same, _, rfl, rfl, _, rfl, ?_⟩
      refine ite2 (fun hdd => ?_) (fun _ => iteF (hu' _ _ ⟨_, rfl, D3, k3⟩))
      have hnd : xs.Nodup := by
        have := of_decide_eq_true hdd
        injection this with this
        exact ddS_nodup (by omega)
      -- [name for name in names if name in kept] == []
      refine ⟨_, rfl, l, rfl, ⟨_, SqL.of hl3⟩, fun D0 nD0 => ?_⟩
      have nd0 := D3.ned nD0
      have hHD : H D0 = none := k3.free nd0.1 nd0.2 nD0
      have lD : l ≠ D0 := ne_of_none hl3 nD0
      refine lc1 yields_list (fun i ys H4 => ∃ zs : List Str, ys = zs.map V.str ∧ zs.length ≤ i ∧ ((∃ x ∈ xs.take i, x ∈ keptS) → zs ≠ []) ∧ ((∀ x ∈ xs.take i, x ∉ keptS) → zs = []) ∧ DeckAt H4 d c ∧ Keep d c H H4 ∧ H4 D0 = some (.lst ys) ∧ H4 l = some (.lst (xs.map V.str)))
        ⟨[], rfl, Nat.le_refl _, (fun ⟨x, hx, _⟩ => by simp at hx), (fun _ => rfl), D3.new nD0, k3.trans (Keep.new nD0), upd_same, by rw [upd_ne lD]; exact hl3⟩ (fun i ys H4 _ ⟨_, _, _, _, _, _, _, _, h⟩ => SqL.of h) ?_ ?_
      · rintro i x ys H4 hx ⟨zs, rfl, hz1, hz2, hz3, D4, k4, hD4, hl4⟩
        obtain ⟨y, hy, rfl⟩ : ∃ y, xs[i]? = some y ∧ V.str y = x := by
          rw [List.getElem?_map] at hx
          cases e : xs[i]? with
          | none => rw [e] at hx; cases hx
          | some y => rw [e] at hx; exact ⟨y, rfl, Option.some.inj hx⟩
        have hi : i < xs.length := (List.getElem?_eq_some_iff.mp hy).1
        have et : xs.take (i + 1) = xs.take i ++ [y] := by rw [List.take_add_one, hy]; rfl
        refine ⟨_, rfl, rfl, fun q nq => ?_⟩
        have nq1 := D4.ned nq
        refine ⟨q, _, rfl, .inl (SqL.of upd_same), rfl, flat_strs _, _, rfl, ?_⟩
        have D5 := D4.new (o := .lst (keptS.map V.str)) nq
        have k5 := k4.trans (Keep.new (d := d) (c := c) (o := .lst (keptS.map V.str)) nq)
        have hD5 : upd H4 q (.lst (keptS.map V.str)) D0 = some (.lst (zs.map V.str)) := by rw [upd_ne (ne_of_none hD4 nq)]; exact hD4
        have hl5 : upd H4 q (.lst (keptS.map V.str)) l = some (.lst (xs.map V.str)) := by rw [upd_ne (ne_of_none hl4 nq)]; exact hl4
        rw [inV_str]
        refine ite2 (fun hk => ?_) (fun hk => ?_)
        · have hk' : y ∈ keptS := of_decide_eq_true hk
          refine ⟨_, rfl, ⟨_, rfl⟩, hD5, ?_, zs ++ [y], by simp, by simp; omega, fun _ => by simp, fun h => absurd hk' (h y (by rw [et]; simp)), D5.upd_other nd0.1 nd0.2, ?_, upd_same, ?_⟩
          · rw [List.length_map]; exact Nat.lt_of_lt_of_le (show zs.length < 1000 by omega) (by decide)
          · exact fun b o e g1 g2 => by rw [upd_ne (ne_of_none e hHD)]; exact k5 b o e g1 g2
          · rw [upd_ne lD]; exact hl5
        · have hk' : y ∉ keptS := fun z => hk (decide_eq_true z)
          refine ⟨⟨_, rfl⟩, zs, rfl, by omega, ?_, ?_, D5, k5, hD5, hl5⟩
          · rintro ⟨z, hz, hzk⟩
            rw [et] at hz
            rcases List.mem_append.mp hz with q' | q'
            · exact hz2 ⟨z, q', hzk⟩
            · rw [List.mem_singleton.mp q'] at hzk; exact absurd hzk hk'
          · exact fun h => hz3 fun z hz => h z (by rw [et]; exact List.mem_append_left _ hz)
      · rintro ys H4 ⟨zs, rfl, hz1, hz2, hz3, D4, k4, hD4, hl4⟩
        rw [List.length_map] at hz1 hz2 hz3
        rw [List.take_of_length_le (Nat.le_refl _)] at hz2 hz3
        refine ⟨(by show 0 ≤ sizeLine; decide), fun q nq => ?_⟩
        have D5 := D4.new (o := .lst []) nq
        have k5 := k4.trans (Keep.new (d := d) (c := c) (o := .lst []) nq)
        have hD5 : upd H4 q (.lst []) D0 = some (.lst (zs.map V.str)) := by rw [upd_ne (ne_of_none hD4 nq)]; exact hD4
        have hl5 : upd H4 q (.lst []) l = some (.lst (xs.map V.str)) := by rw [upd_ne (ne_of_none hl4 nq)]; exact hl4
        refine ⟨D0, q, _, rfl, rfl, SqL.of hD5, SqL.of upd_same, _, rfl, ?_⟩
        refine ite2 (fun he => ?_) (fun _ => hu' _ _ ⟨_, rfl, D5, k5⟩)
        have hz0 : zs = [] := by
          cases zs with
          | nil => rfl
          | cons a r => simp at he
        refine ⟨_, rfl, k l xs _ hHl hl5 hlen hnd (fun x hx => ⟨hls x hx, fun hk => hz2 ⟨x, hx, hk⟩ hz0⟩) D5 k5⟩
    · rintro σ H4 ⟨v3, rfl, D4, k4⟩
      -- spare
      refine ex_cut (fun σ H7 => ∃ p2, σ = [some (.ref d), some (.int m), some (.str lettersS), v3, some (.ref p2)] ∧ H7 p2 = some (.lst ((signsS lettersS ++ spare1).map V.str)) ∧ DeckAt H7 d c ∧ Keep d c H H7 ∧ H p2 = none) (fun u hu' => ?_) ?_
      · refine ⟨_, ps_set (i := 4) scNames.nd rfl (Or.inr rfl) (pe_op op_cat (pe_lc ["sign"] [] [] rfl (pi_str (pv 2)) rfl rfl (fun s₀ H₀ C cl fp => pg_name (i := 0) (nd1 _) rfl (Or.inl rfl)) (fun s₀ H₀ C cl fp => pifs_nil) (fun s₀ H₀ C cl fp => pv 0))
          (@pe_lst _ _ _ _ (@pa_strs _ [("cell", _, _), ("along", _, _), ("lay", _, _), ("judge", _, _), ("late", _, _), ("gates", _, _), ("ways", _, _), ("show", _, _)]))), ?_⟩
        refine ⟨_, rfl, lettersS, rfl, by decide +kernel, fun D0 nD0 => ?_⟩
        refine lcMap yields_str id nD0 (fun _ _ => True.intro) (by rw [show (signsV lettersS).length = 26 by decide +kernel]; decide) (fun i x H5 kk hx _ h => ⟨_, rfl, h⟩) ?_
        have e1 : (signsV lettersS).map id = (signsS lettersS).map V.str := by rw [List.map_id]; unfold signsV signsS; rw [List.map_map]; rfl
        rw [e1]
        refine ⟨(by show 8 ≤ sizeLine; decide), fun p1 n1 => ?_⟩
        have h0 : upd (upd H4 D0 (.lst ((signsS lettersS).map V.str))) p1 (.lst (spare1.map V.str)) D0 = some (.lst ((signsS lettersS).map V.str)) := by rw [upd_ne (ne_of_none upd_same n1)]; exact upd_same
        refine ⟨D0, p1, _, _, rfl, rfl, h0, upd_same, (by rw [List.length_map, show (signsS lettersS).length = 26 by decide +kernel]; show 26 + 8 ≤ sizeLine; decide), fun p2 n2 => ?_⟩
        have D7 := ((D4.new (o := .lst ((signsS lettersS).map V.str)) nD0).new (o := .lst (spare1.map V.str)) n1)
        have k7 := (k4.trans (Keep.new (d := d) (c := c) (o := .lst ((signsS lettersS).map V.str)) nD0)).trans (Keep.new (d := d) (c := c) (o := .lst (spare1.map V.str)) n1)
        have np2 := D7.ned n2
        refine hu' _ _ ⟨p2, rfl, ?_, D7.new n2, k7.trans (Keep.new n2), k7.free np2.1 np2.2 n2⟩
        rw [upd_same, List.map_append]
        rfl
      rintro σ H7 ⟨p2, rfl, h7, D7, k7, z7⟩
      refine ex_cut (fun σ H8 => ∃ p3, σ = [some (.ref d), some (.int m), some (.str lettersS), v3, some (.ref p3)] ∧ H8 p3 = some (.lst ((signsS lettersS ++ spare1 ++ spare2).map V.str)) ∧ DeckAt H8 d c ∧ Keep d c H H8 ∧ H p3 = none) (fun u hu' => ?_) ?_
      · refine ⟨_, ps_set (i := 4) scNames.nd rfl (Or.inr rfl) (pe_op op_cat (pv 4)
          (@pe_lst _ _ _ _ (@pa_strs _ [("andx", _, _), ("orb", _, _), ("oddly", _, _), ("mosts", _, _), ("nots", _, _), ("ones", _, _), ("nila", _, _), ("inn", _, _), ("outer", _, _), ("aa", _, _), ("ab", _, _), ("ba", _, _)]))), ?_⟩
        refine ⟨_, rfl, (by show 12 ≤ sizeLine; decide), fun p1 n1 => ?_⟩
        have h0 : upd H7 p1 (.lst (spare2.map V.str)) p2 = some (.lst ((signsS lettersS ++ spare1).map V.str)) := by rw [upd_ne (ne_of_none h7 n1)]; exact h7
        refine ⟨p2, p1, _, _, rfl, rfl, h0, upd_same, (by rw [List.length_map, show (signsS lettersS ++ spare1).length = 34 by decide +kernel]; show 34 + 12 ≤ sizeLine; decide), fun p3 n3 => ?_⟩
        have D8 := D7.new (o := .lst (spare2.map V.str)) n1
        have k8 := k7.trans (Keep.new (d := d) (c := c) (o := .lst (spare2.map V.str)) n1)
        have np3 := D8.ned n3
        refine hu' _ _ ⟨p3, rfl, ?_, D8.new n3, k8.trans (Keep.new n3), k8.free np3.1 np3.2 n3⟩
        rw [upd_same, List.map_append (l₁ := signsS lettersS ++ spare1)]
        rfl
      rintro σ H8 ⟨p3, rfl, h8, D8, k8, z8⟩
      refine ex_cut (fun σ H9 => ∃ p4, σ = [some (.ref d), some (.int m), some (.str lettersS), v3, some (.ref p4)] ∧ H9 p4 = some (.lst (spareS.map V.str)) ∧ DeckAt H9 d c ∧ Keep d c H H9 ∧ H p4 = none) (fun u hu' => ?_) ?_
      · refine ⟨_, ps_set (i := 4) scNames.nd rfl (Or.inr rfl) (pe_op op_cat (pv 4)
          (@pe_lst _ _ _ _ (@pa_strs _ [("abcdefgh", _, _), ("abcdefgi", _, _), ("zzzzzzzz", _, _), ("names", _, _), ("judged", _, _), ("rowsofx", _, _)]))), ?_⟩
        refine ⟨_, rfl, (by show 6 ≤ sizeLine; decide), fun p1 n1 => ?_⟩
        have h0 : upd H8 p1 (.lst (spare3.map V.str)) p3 = some (.lst ((signsS lettersS ++ spare1 ++ spare2).map V.str)) := by rw [upd_ne (ne_of_none h8 n1)]; exact h8
        refine ⟨p3, p1, _, _, rfl, rfl, h0, upd_same, (by rw [List.length_map, show (signsS lettersS ++ spare1 ++ spare2).length = 46 by decide +kernel]; show 46 + 6 ≤ sizeLine; decide), fun p4 n4 => ?_⟩
        have D9 := D8.new (o := .lst (spare3.map V.str)) n1
        have k9 := k8.trans (Keep.new (d := d) (c := c) (o := .lst (spare3.map V.str)) n1)
        have np4 := D9.ned n4
        refine hu' _ _ ⟨p4, rfl, ?_, D9.new n4, k9.trans (Keep.new n4), k9.free np4.1 np4.2 n4⟩
        unfold spareS
        rw [upd_same, List.map_append (l₁ := signsS lettersS ++ spare1 ++ spare2)]
        rfl
      rintro σ H9 ⟨p4, rfl, h9, D9, k9, z9⟩
      refine ⟨_, pss_one (ps_ret (pe_lc ["k"] ["spare", "deck"] [4, 0] rfl (pi_range1 rfl T.range (pa_c (pv 1) pa_nil)) rfl rfl (fun s₀ H₀ C cl fp => pg_name (i := 0) ndSpare rfl (Or.inl rfl)) (fun s₀ H₀ C cl fp => pifs_nil)
        (fun s₀ H₀ C cl fp => pe_bmK K PySem.F.plainAttrs_list PySem.F.slot_list_pop PySem.F.type_list_pop mt_popAt (pv 1) (pa_c (pe_call GT hr1 rfl gT.m gT.k gT.b .nil pass0 (pa_c (pv 2) (pa_c (pe_callB (call_lenK K) (by rfl) T.len PySem.boot_len (pa_c (pv 1) pa_nil)) pa_nil))) pa_nil)))), ?_⟩
      refine ⟨_, rfl, _, rfl, by omega, by omega, fun D0 nD0 => ?_⟩
      have nd0 := D9.ned nD0
      have hHD : H D0 = none := k9.free nd0.1 nd0.2 nD0
      have np4 : p4 ≠ d ∧ p4 ≠ c := D.ned z9
      have p4D : p4 ≠ D0 := ne_of_none h9 nD0
      refine lc1y yields_range (fun i ys H10 => ∃ zs sp : List Str, ys = zs.map V.str ∧ zs.length = i ∧ sp.length + i = 52 ∧ (zs ++ sp).Nodup ∧ (∀ x ∈ zs ++ sp, GoodName x) ∧ H10 p4 = some (.lst (sp.map V.str)) ∧ DeckAt H10 d c ∧ Keep d c H H10 ∧ H10 D0 = some (.lst ys))
        ⟨[], spareS, rfl, rfl, spare_len, spare_nodup, spare_good, by rw [upd_ne p4D]; exact h9, D9.new nD0, k9.trans (Keep.new nD0), upd_same⟩ (fun _ _ _ _ _ => True.intro) ?_ ?_
      · rintro i x ys H10 hx ⟨zs, sp, rfl, hzl, hsl, hnd, hg, h10, D10, k10, hD10⟩
        have hi : i < 40 := by
          have := (List.getElem?_eq_some_iff.mp hx).1
          simp at this
          omega
        refine ⟨_, rfl, .inl ⟨rfl, _, SqL.of h10⟩, _, rfl, _, rfl, p4, _, rfl, .inl (SqL.of h10), d, c, _, rfl, D10, by rw [List.length_map]; omega, by rw [List.length_map]; omega, fun r H11 b0 b1 D11 k11 => ?_⟩
        rw [List.length_map] at b1
        obtain ⟨j, rfl⟩ := Int.eq_ofNat_of_zero_le b0
        have hj : j < sp.length := by omega
        have h11 := k11 p4 _ h10 np4.1 np4.2
        have hD11 := k11 D0 _ hD10 nd0.1 nd0.2
        have hy : sp[j]? = some sp[j] := List.getElem?_eq_getElem hj
        have pm := pop_perm hy
        have pm2 : ((zs ++ [sp[j]]) ++ sp.eraseIdx j).Perm (zs ++ sp) := by
          rw [List.append_assoc]
          exact List.Perm.append_left zs pm
        have hel : (sp.eraseIdx j).length + 1 = sp.length := by
          rw [List.length_eraseIdx, if_pos hj]; omega
        refine ⟨p4, _, _, j, .str sp[j], rfl, rfl, h11, by omega, by omega, ?_, by simp [hj], ⟨_, rfl⟩, by rw [upd_ne p4D.symm]; exact hD11, ?_, zs ++ [sp[j]], sp.eraseIdx j, by simp, by simp [hzl], by omega, pm2.symm.nodup hnd, fun x hx => hg x (pm2.mem_iff.mp hx), ?_, ?_, ?_, upd_same⟩
        · rw [List.length_map]; exact PySem.StrLaws.seqIndex_nonneg (by omega) (by omega)
        · rw [List.length_map]; exact Nat.lt_of_lt_of_le (show zs.length < 1000 by omega) (by decide)
        · rw [upd_ne p4D, upd_same, erase_map]
        · exact (D11.upd_other np4.1 np4.2).upd_other nd0.1 nd0.2
        · exact fun b o e g1 g2 => by rw [upd_ne (ne_of_none e hHD), upd_ne (ne_of_none e z9)]; exact k11 b o (k10 b o e g1 g2) g1 g2
      · rintro ys H10 ⟨zs, sp, rfl, hzl, hsl, hnd, hg, h10, D10, k10, hD10⟩
        rw [List.length_map, List.length_range] at hzl
        exact k D0 zs H10 hHD hD10 (by omega) (List.Nodup.sublist (List.sublist_append_left zs sp) hnd) (fun x hx => hg x (List.mem_append_left _ hx)) D10 k10
end
end Lw

namespace Lw
open PySem L2
/-! ### gates -/
def two3 : List Str := ["and", "or", "odd"]
structure ArOk (w : Str) (n : Nat) : Prop where
  ok : (w ∈ two3 ∧ (n = 2 ∨ n = 3)) ∨ (w = "most" ∧ n = 3) ∨ (w = "not" ∧ n = 1) ∨ (w = "one" ∧ n = 0) ∨ (w = "nil" ∧ n = 0)
def words10 : List Str := ["and", "or", "odd", "most", "not", "one", "nil", "and", "odd", "most"]
def words4 : List Str := ["most", "not", "one", "nil"]
def nums4 : List Int := [3, 1, 0, 0]
theorem words_cases {w : Str} (h : w ∈ words10) (h2 : w ∉ two3) : w = "most" ∨ w = "not" ∨ w = "one" ∨ w = "nil" := by
  unfold words10 at h
  unfold two3 at h2
  simp only [List.mem_cons, List.not_mem_nil, or_false, not_or] at h h2
  obtain ⟨g1, g2, g3⟩ := h2
  rcases h with q | q | q | q | q | q | q | q | q | q
  · exact absurd q g1
  · exact absurd q g2
  · exact absurd q g3
  · exact .inl q
  · exact .inr (.inl q)
  · exact .inr (.inr (.inl q))
  · exact .inr (.inr (.inr q))
  · exact absurd q g1
  · exact absurd q g3
  · exact .inl q
/-- where a word of the last four stands, and its number -/
theorem idx4 {w : Str} (h : w = "most" ∨ w = "not" ∨ w = "one" ∨ w = "nil") : ∃ (j : Nat) (n : Nat), j < 4 ∧ (∀ z, (words4.map V.str)[j]? = some z → eqV z (.str w) = true) ∧ (∀ (m : Nat) z, m < j → (words4.map V.str)[m]? = some z → eqV z (.str w) = false) ∧
    atI (nums4.map V.int) (j : Int) = some (.int n) ∧ ArOk w n := by
  have go : ∀ (j : Nat) (n : Nat), j < 4 → words4[j]? = some w → atI (nums4.map V.int) (j : Int) = some (.int n) → (∀ m, m < j → ∀ y, words4[m]? = some y → ¬ y = w) → ArOk w n → ∃ (j : Nat) (n : Nat), j < 4 ∧ (∀ z, (words4.map V.str)[j]? = some z → eqV z (.str w) = true) ∧ (∀ (m : Nat) z, m < j → (words4.map V.str)[m]? = some z → eqV z (.str w) = false) ∧
      atI (nums4.map V.int) (j : Int) = some (.int n) ∧ ArOk w n := by
    intro j n hj hw ha hn ho
    refine ⟨j, n, hj, fun z hz => ?_, fun m z hm hz => ?_, ha, ho⟩
    · rw [List.getElem?_map, hw] at hz
      cases hz
      show (w == w) = true
      exact beq_self_eq_true w
    · rw [List.getElem?_map] at hz
      cases e : words4[m]? with
      | none => rw [e] at hz; cases hz
      | some y =>
        rw [e] at hz
        cases hz
        show (y == w) = false
        exact beq_eq_false_iff_ne.mpr (hn m hm y e)
  have bd : ∀ {a b : Nat}, a < b → b ≤ 4 → a = 0 ∨ a = 1 ∨ a = 2 ∨ a = 3 := fun h1 h2 => by omega
  rcases h with rfl | rfl | rfl | rfl
  · exact go 0 3 (by decide) rfl rfl (fun m hm => absurd hm (Nat.not_lt_zero _)) ⟨.inr (.inl ⟨rfl, rfl⟩)⟩
  · refine go 1 1 (by decide) rfl rfl (fun m hm y hy => ?_) ⟨.inr (.inr (.inl ⟨rfl, rfl⟩))⟩
    obtain rfl : m = 0 := by omega
    cases hy; decide +kernel
  · refine go 2 0 (by decide) rfl rfl (fun m hm y hy => ?_) ⟨.inr (.inr (.inr (.inl ⟨rfl, rfl⟩)))⟩
    rcases (show m = 0 ∨ m = 1 by omega) with rfl | rfl <;> (cases hy; decide +kernel)
  · refine go 3 0 (by decide) rfl rfl (fun m hm y hy => ?_) ⟨.inr (.inr (.inr (.inr ⟨rfl, rfl⟩)))⟩
    rcases (show m = 0 ∨ m = 1 ∨ m = 2 by omega) with rfl | rfl | rfl <;> (cases hy; decide +kernel)
def spGate : Sp := fun vs H Q _ => ∃ (d c kn : Addr) (ks : List Str), vs = [.ref d, .ref kn] ∧ DeckAt H d c ∧ H kn = some (.lst (ks.map V.str)) ∧ kn ≠ d ∧ kn ≠ c ∧ ks.length ≤ 100 ∧
  ∀ (t q : Addr) (wd : Str) (ps : List Str) (H' : Hp), H t = none → H q = none → H' t = some (.tup [.str wd, .ref q]) → H' q = some (.tup (ps.map V.str)) → ArOk wd ps.length → (∀ p ∈ ps, p ∈ ks) → DeckAt H' d c → Keep d c H H' → Q (.ref t) H'
section
variable {P : Program} {w : World} {K : PySem.W.Frag} {mg : Str → Option Value} {base : Heap}
theorem scGate : FnScope ["deck", "known", "word", "many", "parts", "k", "at"] ["deck", "known"] (defScope sGate) := ⟨rfl, rfl, rfl, by decide +kernel, rfl, by decide +kernel, by decide +kernel⟩
set_option maxHeartbeats 4000000 in
theorem ok_gate {f fT : Addr} {fd fdT : FuncData} (F : Fun K "_law_gate" "_law_gate" sGate f fd) (T : Txt mg) (gT : Gd K mg "_law_take" sTake ["deck", "many"] fT fdT) : FnOk P w K mg base CX0 2 f fd ["deck", "known"] spGate := by
  have GT : FnOk P w K mg base CX0 1 fT fdT ["deck", "many"] spTake := ok_take gT.F T
  refine F.ok scGate (fun vs H Q E h => ?_) (fun cdv A outer s H vs Q E hr h => ?_)
  · obtain ⟨d, c, kn, ks, rfl, _⟩ := h
    rfl
  · obtain ⟨d, c, kn, ks, rfl, D, hkn, knd, knc, hks, k⟩ := h
    have hu := hr.units
    refine ex_cut (fun σ H1 => ∃ wd, σ = [some (.ref d), some (.ref kn), some (.str wd), none, none, none, none] ∧ wd ∈ words10 ∧ DeckAt H1 d c ∧ Keep d c H H1) (fun u hu' => ?_) ?_
    · refine ⟨_, @ps_set _ _ 2 _ _ _ _ scGate.nd rfl (Or.inl rfl) (@pe_ix _ _ _ _ _ _ _ ix_list (@pe_lst _ _ _ _ (@pa_strs _ [("and", _, _), ("or", _, _), ("odd", _, _), ("most", _, _), ("not", _, _), ("one", _, _), ("nil", _, _), ("and", _, _), ("odd", _, _), ("most", _, _)]))
        (pe_call GT hr rfl gT.m gT.k gT.b .nil pass0 (pa_c (pv 0) (pa_c pe_int pa_nil))) (fun _ _ => rfl)) (by rfl) (.inl rfl), ?_⟩
      refine ⟨(by show 10 ≤ sizeLine; decide), fun p np => ⟨_, rfl, d, c, 10, rfl, D.new np, by decide, by decide, fun r H1 a0 a1 D1 k1 => ?_⟩⟩
      have np1 := D.ned np
      have h1 := k1 p _ upd_same np1.1 np1.2
      obtain ⟨wd, hat, hw⟩ := at_str (xs := words10) a0 (by exact a1)
      exact ⟨p, _, _, .str wd, rfl, rfl, SqL.of h1, hat, hu' _ _ ⟨wd, rfl, hw, D1, (Keep.new np).trans k1⟩⟩
    rintro σ H1 ⟨wd, rfl, hw, D1, k1⟩
    refine ex_cut (fun σ H2 => ∃ n : Int, σ = [some (.ref d), some (.ref kn), some (.str wd), some (.int n), none, none, none] ∧ DeckAt H2 d c ∧ Keep d c H H2) (fun u hu' => ?_) ?_
    · refine ⟨_, @ps_set _ _ 3 _ _ _ _ scGate.nd rfl (Or.inl rfl) (@pe_ix _ _ _ _ _ _ _ ix_list (@pe_lst _ _ _ _ (@pa_ints _ [(2, _, _), (2, _, _), (2, _, _), (3, _, _), (1, _, _), (0, _, _), (0, _, _), (3, _, _), (3, _, _), (3, _, _)]))
        (pe_call GT hr rfl gT.m gT.k gT.b .nil pass0 (pa_c (pv 0) (pa_c pe_int pa_nil))) (fun _ _ => rfl)) (by rfl) (.inl rfl), ?_⟩
      refine ⟨(by show 10 ≤ sizeLine; decide), fun p np => ⟨_, rfl, d, c, 10, rfl, D1.new np, by decide, by decide, fun r H2 a0 a1 D2 k2 => ?_⟩⟩
      have np1 := D1.ned np
      have h2 := k2 p _ upd_same np1.1 np1.2
      obtain ⟨j, rfl⟩ := Int.eq_ofNat_of_zero_le a0
      have hj : j < ([2, 2, 2, 3, 1, 0, 0, 3, 3, 3] : List Int).length := by show j < 10; omega
      have hat : atI (([2, 2, 2, 3, 1, 0, 0, 3, 3, 3] : List Int).map V.int) ((j : Nat) : Int) = some (V.int ([2, 2, 2, 3, 1, 0, 0, 3, 3, 3] : List Int)[j]) := atI_nat (by rw [List.getElem?_map, List.getElem?_eq_getElem hj]; rfl)
      exact ⟨p, _, _, _, rfl, rfl, SqL.of h2, hat, hu' _ _ ⟨_, rfl, D2, k1.trans ((Keep.new np).trans k2)⟩⟩
    rintro σ H2 ⟨n0, rfl, D2, k2⟩
    -- many by the word
    refine ex_cut (fun σ H3 => ∃ n : Nat, σ = [some (.ref d), some (.ref kn), some (.str wd), some (.int n), none, none, none] ∧ ArOk wd n ∧ n ≤ 3 ∧ DeckAt H3 d c ∧ Keep d c H H3) (fun u hu' => ?_) ?_
    · refine ⟨_, ps_if (pt_cmpR op_in_seq (pv 2) (@pe_lst _ _ _ _ (@pa_strs _ [("and", _, _), ("or", _, _), ("odd", _, _)])) rfl)
        (pss_one (@ps_set _ _ 3 _ _ _ _ scGate.nd rfl (Or.inl rfl) (@pe_ix _ _ _ _ _ _ _ ix_list (@pe_lst _ _ _ _ (@pa_ints _ [(2, _, _), (3, _, _)])) (pe_op op_mod (pv 3) pe_int) (fun _ _ => rfl)) (by rfl) (.inl rfl)))
        (pss_one (@ps_set _ _ 3 _ _ _ _ scGate.nd rfl (Or.inl rfl) (@pe_ix _ _ _ _ _ _ _ ix_list (@pe_lst _ _ _ _ (@pa_ints _ [(3, _, _), (1, _, _), (0, _, _), (0, _, _)]))
          (pe_bm PySem.F.plainAttrs_list PySem.F.slot_list_index PySem.F.type_list_index mt_index (@pe_lst _ _ _ _ (@pa_strs _ [("most", _, _), ("not", _, _), ("one", _, _), ("nil", _, _)])) (pa_c (pv 2) pa_nil)) (fun _ _ => rfl)) (by rfl) (.inl rfl))), ?_⟩
      refine ⟨_, rfl, (by show 3 ≤ sizeLine; decide), fun p np => ⟨p, two3.map V.str, rfl, .inl (SqL.of upd_same), rfl, flat_strs _, _, rfl, ?_⟩⟩
      have D3 := D2.new (o := .lst (two3.map V.str)) np
      have k3 := k2.trans (Keep.new (d := d) (c := c) (o := .lst (two3.map V.str)) np)
      rw [inV_str]
      refine ite2 (fun hk => ?_) (fun hk => ?_)
      · have hk' : wd ∈ two3 := of_decide_eq_true hk
        refine ⟨(by show 2 ≤ sizeLine; decide), fun p2 np2 => ⟨_, rfl, _, _, rfl, rfl, (by show (0 : Int) < 2; decide), ?_⟩⟩
        have b0 := Int.emod_nonneg n0 (show (2 : Int) ≠ 0 by decide)
        have b1 := Int.emod_lt_of_pos n0 (show (0 : Int) < 2 by decide)
        have D4 := D3.new (o := .lst [V.int 2, V.int 3]) np2
        have k4 := k3.trans (Keep.new (d := d) (c := c) (o := .lst [V.int 2, V.int 3]) np2)
        rcases (show n0 % 2 = 0 ∨ n0 % 2 = 1 by omega) with e | e
        · exact ⟨p2, _, _, .int 2, rfl, rfl, SqL.of upd_same, by rw [e]; rfl, hu' _ _ ⟨2, rfl, ⟨.inl ⟨hk', .inl rfl⟩⟩, by decide, D4, k4⟩⟩
        · exact ⟨p2, _, _, .int 3, rfl, rfl, SqL.of upd_same, by rw [e]; rfl, hu' _ _ ⟨3, rfl, ⟨.inl ⟨hk', .inr rfl⟩⟩, by decide, D4, k4⟩⟩
      · have hk' : wd ∉ two3 := fun z => hk (decide_eq_true z)
        obtain ⟨j, n, hj, i1, i2, hat, ho⟩ := idx4 (words_cases hw hk')
        refine ⟨(by show 4 ≤ sizeLine; decide), fun p2 np2 => ⟨(by show 4 ≤ sizeLine; decide), fun p3 np3 => ⟨.inl ⟨rfl, _, SqL.of upd_same⟩, _, rfl, ?_⟩⟩⟩
        have D4 := (D3.new (o := .lst (nums4.map V.int)) np2).new (o := .lst (words4.map V.str)) np3
        have k4 := (k3.trans (Keep.new (d := d) (c := c) (o := .lst (nums4.map V.int)) np2)).trans (Keep.new (d := d) (c := c) (o := .lst (words4.map V.str)) np3)
        refine ⟨p3, words4.map V.str, .str wd, j, rfl, rfl, SqL.of upd_same, flat_strs _, rfl, hj, i1, i2, ?_⟩
        have h2 : upd (upd (upd H2 p (.lst (two3.map V.str))) p2 (.lst (nums4.map V.int))) p3 (.lst (words4.map V.str)) p2 = some (.lst (nums4.map V.int)) := by rw [upd_ne (ne_of_none upd_same np3)]; exact upd_same
        refine ⟨p2, nums4.map V.int, _, .int n, rfl, rfl, SqL.of h2, hat, hu' _ _ ⟨n, rfl, ho, ?_, D4, k4⟩⟩
        rcases ho.ok with ⟨_, q | q⟩ | ⟨_, q⟩ | ⟨_, q⟩ | ⟨_, q⟩ | ⟨_, q⟩ <;> omega
    rintro σ H3 ⟨n, rfl, ho, hn, D3, k3⟩
    have hkn3 := k3 kn _ hkn knd knc
    -- if known == []
    refine ex_cut (fun σ H4 => ∃ a : Nat, σ = [some (.ref d), some (.ref kn), some (.str wd), some (.int n), none, none, none] ∧ 0 < ks.length ∧ DeckAt H4 d c ∧ Keep d c H H4) (fun u hu' => ?_) ?_
    · refine ⟨_, ps_if (pt_cmpR (op_eqNil hu) (pv 1) (pe_lst pa_nil) (nomark _)) (pss_one (ps_ret (pe_tup (pa_c (pe_ix ix_list (pe_lst (pa_c pe_str (pa_c pe_str pa_nil))) (pe_op op_mod (pv 3) pe_int) (fun _ _ => rfl)) (pa_c (pe_tup pa_nil) pa_nil))))) pss_nil, ?_⟩
      refine ⟨_, rfl, (by show 0 ≤ sizeLine; decide), fun p np => ?_⟩
      have D4 := D3.new (o := .lst []) np
      have k4 := k3.trans (Keep.new (d := d) (c := c) (o := .lst []) np)
      have hkn4 : upd H3 p (.lst []) kn = some (.lst (ks.map V.str)) := by rw [upd_ne (ne_of_none hkn3 np)]; exact hkn3
      refine ⟨kn, p, _, rfl, rfl, SqL.of hkn4, SqL.of upd_same, _, rfl, ?_⟩
      refine ite2 (fun he => ?_) (fun he => hu' _ _ ⟨0, rfl, ?_, D4, k4⟩)
      · refine ⟨(by show 2 ≤ sizeLine; decide), fun p2 np2 => ⟨_, rfl, _, _, rfl, rfl, (by show (0 : Int) < 2; decide), ?_⟩⟩
        have b0 := Int.emod_nonneg (n : Int) (show (2 : Int) ≠ 0 by decide)
        have b1 := Int.emod_lt_of_pos (n : Int) (show (0 : Int) < 2 by decide)
        have D5 := D4.new (o := .lst [V.str (Str.ofString "one"), V.str (Str.ofString "nil")]) np2
        have k5 := k4.trans (Keep.new (d := d) (c := c) (o := .lst [V.str (Str.ofString "one"), V.str (Str.ofString "nil")]) np2)
        have fin : ∀ w2 : Str, ArOk w2 0 → ∀ q, upd (upd H3 p (.lst [])) p2 (.lst [V.str (Str.ofString "one"), V.str (Str.ofString "nil")]) q = none →
            ∀ t, upd (upd (upd H3 p (.lst [])) p2 (.lst [V.str (Str.ofString "one"), V.str (Str.ofString "nil")])) q (.tup []) t = none →
            Q (.ref t) (upd (upd (upd (upd H3 p (.lst [])) p2 (.lst [V.str (Str.ofString "one"), V.str (Str.ofString "nil")])) q (.tup [])) t (.tup [.str w2, .ref q])) := by
          intro w2 ho2 q nq t nt
          have D6 := D5.new (o := .tup []) nq
          have k6 := k5.trans (Keep.new (d := d) (c := c) (o := .tup []) nq)
          have nq1 := D5.ned nq
          have nt1 := D6.ned nt
          exact k t q w2 [] _ (k6.free nt1.1 nt1.2 nt) (k5.free nq1.1 nq1.2 nq) upd_same (by rw [upd_ne (ne_of_none upd_same nt)]; exact upd_same) ho2 (fun p hp => nomatch hp) (D6.new nt) (k6.trans (Keep.new nt))
        rcases (show (n : Int) % 2 = 0 ∨ (n : Int) % 2 = 1 by omega) with e | e
        · refine ⟨p2, _, _, .str "one", rfl, rfl, SqL.of upd_same, by rw [e]; rfl, (by show 0 ≤ sizeLine; decide), fun q nq => ⟨(by show 2 ≤ sizeLine; decide), fun t nt => ?_⟩⟩
          exact fin "one" ⟨.inr (.inr (.inr (.inl ⟨rfl, rfl⟩)))⟩ q nq t nt
        · refine ⟨p2, _, _, .str "nil", rfl, rfl, SqL.of upd_same, by rw [e]; rfl, (by show 0 ≤ sizeLine; decide), fun q nq => ⟨(by show 2 ≤ sizeLine; decide), fun t nt => ?_⟩⟩
          exact fin "nil" ⟨.inr (.inr (.inr (.inr ⟨rfl, rfl⟩)))⟩ q nq t nt
      · cases ks with
        | nil => simp at he
        | cons a r => simp
    rintro σ H4 ⟨_, rfl, hk0, D4, k4⟩
    -- parts
    refine ⟨_, pss_cons (ps_set (i := 4) scGate.nd rfl (Or.inl rfl) (pe_lst pa_nil))
      (pss_cons (ps_for PassesOwn.never rfl (pi_range1 rfl T.range (pa_c (pv 3) pa_nil)) (pg_name (i := 5) scGate.nd rfl (Or.inl rfl))
        (pss_cons (ps_set (i := 6) scGate.nd rfl (Or.inl rfl) (pe_ix ix_list (pe_lst (pa_c (pe_call GT hr rfl gT.m gT.k gT.b .nil pass0 (pa_c (pv 0) (pa_c (pe_callB call_len_seq (by rfl) T.len PySem.boot_len (pa_c (pv 1) pa_nil)) pa_nil)))
          (pa_c (pe_op op_sub (pe_op op_sub (pe_callB call_len_seq (by rfl) T.len PySem.boot_len (pa_c (pv 1) pa_nil)) pe_int) (pe_call GT hr rfl gT.m gT.k gT.b .nil pass0 (pa_c (pv 0) (pa_c (pe_callB (call_min2 rfl) (by rfl) T.min PyProof.Rows.boot_min (pa_c pe_int (pa_c (pe_callB call_len_seq (by rfl) T.len PySem.boot_len (pa_c (pv 1) pa_nil)) pa_nil))) pa_nil)))) pa_nil)))
          (pe_call GT hr rfl gT.m gT.k gT.b .nil pass0 (pa_c (pv 0) (pa_c pe_int pa_nil))) (fun _ _ => rfl)))
        (pss_one (ps_expr (pe_bm PySem.F.plainAttrs_list PySem.F.slot_list_append PySem.F.type_list_append mt_append (pv 4) (pa_c (pe_ix ix_list (pv 1) (pv 6) (fun _ _ => rfl)) pa_nil))))))
      (pss_one (ps_ret (pe_tup (pa_c (pv 2) (pa_c (pe_callTy call_tuple_of (by rfl) T.tuple PyProof.Rows.boot_tuple (pa_c (pv 4) pa_nil)) pa_nil)))))), ?_⟩
    refine ⟨(by show 0 ≤ sizeLine; decide), fun l nl => ?_⟩
    have nl1 := D4.ned nl
    have hHl : H l = none := k4.free nl1.1 nl1.2 nl
    have lk : l ≠ kn := (ne_of_none hkn hHl).symm
    refine ⟨_, rfl, _, rfl, by omega, by omega, ?_⟩
    rw [Int.toNat_natCast]
    refine for_range (lo := 0) (n := n) (fun i σ H5 => ∃ (ps : List Str) (v5 v6 : Option V), σ = [some (.ref d), some (.ref kn), some (.str wd), some (.int n), some (.ref l), v5, v6] ∧ ps.length = i ∧ (∀ p ∈ ps, p ∈ ks) ∧ H5 l = some (.lst (ps.map V.str)) ∧ DeckAt H5 d c ∧ Keep d c H H5)
      ⟨[], none, none, rfl, rfl, (fun p hp => nomatch hp), upd_same, D4.new nl, k4.trans (Keep.new nl)⟩ ?_ ?_
    · rintro i σ H5 hi ⟨ps, v5, v6, rfl, hl5, hp5, h5, D5, k5⟩
      have hkn5 := k5 kn _ hkn knd knc
      have hml : (if ((ks.map V.str).length : Int) < 4 then ((ks.map V.str).length : Int) else 4) = (if (ks.length : Int) < 4 then (ks.length : Int) else 4) := by rw [List.length_map]
      refine ⟨_, rfl, _, rfl, kn, _, rfl, .inl (SqL.of hkn5), d, c, _, rfl, D5, by rw [List.length_map]; omega, by rw [List.length_map]; omega, fun r1 H6 a0 a1 D6 k6 => ?_⟩
      have hkn6 := k6 kn _ hkn5 knd knc
      refine ⟨_, rfl, kn, _, rfl, .inl (SqL.of hkn6), _, _, rfl, rfl, _, rfl, _, rfl, kn, _, rfl, .inl (SqL.of hkn6), _, _, rfl, d, c, _, rfl, D6, ?_, ?_, fun r2 H7 b0 b1 D7 k7 => ?_⟩
      · rw [hml]; split <;> omega
      · rw [hml]; split <;> omega
      have b1' : r2 < ks.length := by
        rw [hml] at b1
        split at b1 <;> omega
      refine ⟨_, _, rfl, rfl, (by show 2 ≤ sizeLine; decide), fun p np => ?_⟩
      have D8 := D7.new (o := .lst [V.int r1, V.int (((ks.map V.str).length : Int) - 1 - r2)]) np
      refine ⟨_, rfl, d, c, 2, rfl, D8, by decide, by decide, fun r3 H9 c0 c1 D9 k9 => ?_⟩
      have np1 := D7.ned np
      have h9 := k9 p _ upd_same np1.1 np1.2
      have k8 : Keep d c H5 H9 := ((k6.trans k7).trans (Keep.new np)).trans k9
      have hkn9 := k8 kn _ hkn5 knd knc
      have nl2 : l ≠ d ∧ l ≠ c := nl1
      have hl9 := k8 l _ h5 nl2.1 nl2.2
      rw [List.length_map] at a1
      have fin : ∀ a : Int, 0 ≤ a → a < ks.length → ∃ x, atI (ks.map V.str) a = some (V.str x) ∧ x ∈ ks := fun a g0 g1 => at_str g0 g1
      have go : ∀ a : Int, 0 ≤ a → a < ks.length → atI [V.int r1, V.int (((ks.map V.str).length : Int) - 1 - r2)] r3 = some (V.int a) → rIxL K (.ref p) (.int r3) H9 fun x H1 => gName 6 x [some (.ref d), some (.ref kn), some (.str wd), some (.int n), some (.ref l), some (.int (0 + i)), v6] H1 fun σ' H' =>
          (tDrop (tBM K "list" rAppend (tVar 4) (tCons (tOp (rIxL K) (tVar 1) (tVar 6)) tNil))) { nx := fun σ H5 => ∃ (ps : List Str) (v5 v6 : Option V), σ = [some (.ref d), some (.ref kn), some (.str wd), some (.int n), some (.ref l), v5, v6] ∧ ps.length = i + 1 ∧ (∀ p ∈ ps, p ∈ ks) ∧ H5 l = some (.lst (ps.map V.str)) ∧ DeckAt H5 d c ∧ Keep d c H H5, rt := Q } σ' H' := by
        intro a g0 g1 hat
        obtain ⟨x, hx, hm⟩ := fin a g0 g1
        refine ⟨p, _, _, .int a, rfl, rfl, SqL.of h9, hat, _, rfl, .inl ⟨rfl, _, SqL.of hl9⟩, _, rfl, _, rfl, kn, _, _, .str x, rfl, rfl, SqL.of hkn9, hx, l, _, .str x, rfl, rfl, hl9, ?_, ps ++ [x], _, _, rfl, by simp [hl5], ?_, ?_, D9.upd_other nl2.1 nl2.2, ?_⟩
        · rw [List.length_map]; exact Nat.lt_of_lt_of_le (show ps.length < 1000 by omega) (by decide)
        · intro y hy
          rcases List.mem_append.mp hy with q | q
          · exact hp5 y q
          · rw [List.mem_singleton.mp q]; exact hm
        · rw [upd_same]; simp
        · exact fun b o e g1 g2 => by rw [upd_ne (ne_of_none e hHl)]; exact (k5.trans k8) b o e g1 g2
      rcases (show r3 = 0 ∨ r3 = 1 by omega) with e | e
      · exact go r1 a0 a1 (by rw [e]; rfl)
      · exact go (((ks.map V.str).length : Int) - 1 - r2) (by rw [List.length_map]; omega) (by rw [List.length_map]; omega) (by rw [e]; rfl)
    · rintro σ H5 ⟨ps, v5, v6, rfl, hl5, hp5, h5, D5, k5⟩
      refine ⟨_, rfl, _, rfl, l, _, rfl, .inl ⟨SqL.of h5, fun q nq => ⟨(by show 2 ≤ sizeLine; decide), fun t nt => ?_⟩⟩⟩
      have nq1 := D5.ned nq
      have D6 := D5.new (o := .tup (ps.map V.str)) nq
      have k6 := k5.trans (Keep.new (d := d) (c := c) (o := .tup (ps.map V.str)) nq)
      have nt1 := D6.ned nt
      exact k t q wd ps _ (k6.free nt1.1 nt1.2 nt) (k5.free nq1.1 nq1.2 nq) upd_same (by rw [upd_ne (ne_of_none upd_same nt)]; exact upd_same) (by rw [hl5]; exact ho) hp5 (D6.new nt) (k6.trans (Keep.new nt))
end
end Lw

namespace Lw
open PySem L2
/-! ### cells -/
structure Cel where
  ins : List Str
  gates : List (Str × Str × List Str)
  outs : List Str
def Cel.names (C : Cel) : List Str := C.ins ++ C.gates.map (·.1)
def GateAt (H : Hp) (a : Addr) (g : Str × Str × List Str) : Prop := ∃ q, H a = some (.tup [.str g.1, .str g.2.1, .ref q]) ∧ H q = some (.tup (g.2.2.map V.str))
abbrev GatesAt (H : Hp) : List Addr → List (Str × Str × List Str) → Prop := Paired (GateAt H)
structure CellAt (H : Hp) (a : Addr) (C : Cel) : Prop where
  ex : ∃ (i g o : Addr) (as : List Addr), H a = some (.tup [.ref i, .ref g, .ref o]) ∧ H i = some (.tup (C.ins.map V.str)) ∧ H g = some (.tup (as.map V.ref)) ∧ H o = some (.tup (C.outs.map V.str)) ∧ GatesAt H as C.gates
def Tups (H H' : Hp) : Prop := ∀ b xs, H b = some (.tup xs) → H' b = some (.tup xs)
theorem Tups.refl (H : Hp) : Tups H H := fun _ _ e => e
theorem Tups.trans {H H1 H2 : Hp} (a : Tups H H1) (b : Tups H1 H2) : Tups H H2 := fun x xs e => b x xs (a x xs e)
theorem Tups.of_keep {d c : Addr} {H H' : Hp} (D : DeckAt H d c) (k : Keep d c H H') : Tups H H' := fun b xs e => by
  have := D.ne_some e (fun ys z => nomatch z)
  exact k b _ e this.1 this.2
theorem Tups.of_same {H H' : Hp} (s : Same H H') : Tups H H' := fun b xs e => s b _ e
theorem Tups.new {H : Hp} {p : Addr} {o : HO} (h : H p = none) : Tups H (upd H p o) := fun b xs e => by rw [upd_ne (ne_of_none e h)]; exact e
theorem Tups.lst {H : Hp} {p : Addr} {o : HO} {ys : List V} (h : H p = some (.lst ys)) : Tups H (upd H p o) := fun b xs e => by rw [upd_ne (ne_of e h (fun z => nomatch z))]; exact e
theorem Tups.dic {H : Hp} {p : Addr} {o : HO} {ys : List (Key × V)} (h : H p = some (.dK ys)) : Tups H (upd H p o) := fun b xs e => by rw [upd_ne (ne_of e h (fun z => nomatch z))]; exact e
theorem GatesAt.mono {H H' : Hp} (t : Tups H H') : ∀ {as : List Addr} {gs : List (Str × Str × List Str)}, GatesAt H as gs → GatesAt H' as gs
  | _, _, .nil => .nil
  | _, _, .cons ⟨q, h1, h2⟩ r => .cons ⟨q, t _ _ h1, t _ _ h2⟩ (GatesAt.mono t r)
theorem CellAt.mono {H H' : Hp} {a : Addr} {C : Cel} (t : Tups H H') (h : CellAt H a C) : CellAt H' a C := by
  obtain ⟨i, g, o, as, h1, h2, h3, h4, h5⟩ := h.ex
  exact ⟨i, g, o, as, t _ _ h1, t _ _ h2, t _ _ h3, t _ _ h4, h5.mono t⟩
def GatesOk : List Str → List (Str × Str × List Str) → Prop
  | _, [] => True
  | kn, g :: r => ArOk g.2.1 g.2.2.length ∧ (∀ p ∈ g.2.2, p ∈ kn) ∧ GatesOk (kn ++ [g.1]) r
theorem GatesOk.snoc : ∀ {gs : List (Str × Str × List Str)} {kn : List Str} {g : Str × Str × List Str}, GatesOk kn gs → ArOk g.2.1 g.2.2.length → (∀ p ∈ g.2.2, p ∈ kn ++ gs.map (·.1)) → GatesOk kn (gs ++ [g])
  | [], kn, g, _, h1, h2 => ⟨h1, by simpa using h2, True.intro⟩
  | a :: r, kn, g, h, h1, h2 => ⟨h.1, h.2.1, GatesOk.snoc h.2.2 h1 (by simpa using h2)⟩
structure Good (C : Cel) : Prop where
  nd : C.names.Nodup
  nm : ∀ x ∈ C.names, GoodName x
  gt : GatesOk C.ins C.gates
  os : ∀ o ∈ C.outs, o ∈ C.names
  ond : C.outs.Nodup
  li : C.ins.length ≤ 6
  lg : C.gates.length ≤ 24
  lo : C.outs.length ≤ 6
theorem paired_snoc {α β : Type} {F : α → β → Prop} : ∀ {l₁ : List α} {l₂ : List β} {a : α} {b : β}, Paired F l₁ l₂ → F a b → Paired F (l₁ ++ [a]) (l₂ ++ [b])
  | _, _, _, _, .nil, h => .cons h .nil
  | _, _, _, _, .cons x r, h => .cons x (paired_snoc r h)
def spCell : Sp := fun vs H Q _ => ∃ (d c : Addr) (a b : Nat), vs = [.ref d, .int a, .int b] ∧ DeckAt H d c ∧ a ≤ 6 ∧ b ≤ 24 ∧ ∀ (ce : Addr) (C : Cel) (H' : Hp), H ce = none → CellAt H' ce C → Good C → DeckAt H' d c → Keep d c H H' → Q (.ref ce) H'
end Lw

namespace Lw
open PySem L2
theorem cut_take (xs : List Str) (m : Nat) : cutV (xs.map V.str) none (some (m : Int)) = (xs.take m).map V.str := by
  unfold cutV
  rw [HT.sIx_none, HT.sIx_nat, List.length_map, List.drop_zero, Nat.sub_zero, List.map_take]
  by_cases h : m ≤ xs.length
  · rw [Nat.min_eq_left h]
  · rw [Nat.min_eq_right (by omega), List.take_of_length_le (by simp), List.take_of_length_le (by simp; omega)]
theorem cut_drop (xs : List Str) (m : Nat) : cutV (xs.map V.str) (some (m : Int)) none = (xs.drop m).map V.str := by
  unfold cutV
  rw [HT.sIx_none, HT.sIx_nat, List.length_map, List.map_drop]
  by_cases h : m ≤ xs.length
  · rw [Nat.min_eq_left h, List.take_of_length_le (by simp)]
  · rw [Nat.min_eq_right (by omega)]
    rw [List.drop_of_length_le (by simp), List.drop_of_length_le (by simp; omega)]
    simp
section
variable {P : Program} {w : World} {K : PySem.W.Frag} {mg : Str → Option Value} {base : Heap}
theorem scCell : FnScope ["deck", "inputs", "gates", "many", "count", "names", "known", "rows", "name", "left", "outputs", "k"] ["deck", "inputs", "gates"] (defScope sCell) := ⟨rfl, rfl, rfl, by decide +kernel, rfl, by decide +kernel, by decide +kernel⟩
set_option maxHeartbeats 4000000 in
theorem ok_cell {f fT fN fG : Addr} {fd fdT fdN fdG : FuncData} (F : Fun K "_law_cell" "_law_cell" sCell f fd) (T : Txt mg) (gT : Gd K mg "_law_take" sTake ["deck", "many"] fT fdT) (gN : Gd K mg "_law_names" sNames ["deck", "many"] fN fdN)
    (gG : Gd K mg "_law_gate" sGate ["deck", "known"] fG fdG) (GT : FnOk P w K mg base CX0 1 fT fdT ["deck", "many"] spTake) (GN : FnOk P w K mg base CX0 3 fN fdN ["deck", "many"] spNames) (GG : FnOk P w K mg base CX0 2 fG fdG ["deck", "known"] spGate) :
    FnOk P w K mg base CX0 4 f fd ["deck", "inputs", "gates"] spCell := by
  refine F.ok scCell (fun vs H Q E h => ?_) (fun cdv A outer s H vs Q E hr h => ?_)
  · obtain ⟨d, c, a, b, rfl, _⟩ := h
    rfl
  · obtain ⟨d, c, a, b, rfl, D, ha, hb, k⟩ := h
    have hr1 : Room 1 _ := hr.mono (by decide)
    have hr2 : Room 2 _ := hr.mono (by decide)
    -- many, count, names
    refine ex_next _ (ps_set (i := 3) scCell.nd rfl (Or.inl rfl) (pe_call GT hr1 rfl gT.m gT.k gT.b .nil pass0 (pa_c (pv 0) (pa_c (pe_op op_add (pv 1) pe_int) pa_nil)))) ?_
    refine ⟨_, rfl, _, rfl, _, _, rfl, rfl, d, c, _, rfl, D, by omega, by omega, fun r1 H1 a0 a1 D1 k1 => ?_⟩
    refine ex_next _ (ps_set (i := 4) scCell.nd rfl (Or.inl rfl) (pe_call GT hr1 rfl gT.m gT.k gT.b .nil pass0 (pa_c (pv 0) (pa_c (pe_op op_add (pv 2) pe_int) pa_nil)))) ?_
    refine ⟨_, rfl, _, rfl, _, _, rfl, rfl, d, c, _, rfl, D1, by omega, by omega, fun r2 H2 b0 b1 D2 k2 => ?_⟩
    obtain ⟨m, rfl⟩ := Int.eq_ofNat_of_zero_le a0
    obtain ⟨n, rfl⟩ := Int.eq_ofNat_of_zero_le b0
    refine ex_next _ (ps_set (i := 5) scCell.nd rfl (Or.inl rfl) (pe_call GN hr rfl gN.m gN.k gN.b .nil pass0 (pa_c (pv 0) (pa_c (pe_op op_add (pv 3) (pv 4)) pa_nil)))) ?_
    refine ⟨_, rfl, _, rfl, _, rfl, _, _, rfl, rfl, d, c, m + n, rfl, D2, by omega, fun l xs H3 nl hl hlen hnd hgn D3 k3 => ?_⟩
    have nl1 := D2.ned nl
    have kk3 : Keep d c H H3 := (k1.trans k2).trans k3
    have zl : H l = none := (k1.trans k2).free nl1.1 nl1.2 nl
    -- known, rows
    refine ex_cut (fun σ H5 => ∃ (kn rr : Addr), σ = [some (.ref d), some (.int a), some (.int b), some (.int m), some (.int n), some (.ref l), some (.ref kn), none, none, none, none, none] ∧
      H5 l = some (.lst (xs.map V.str)) ∧ H5 kn = some (.lst ((xs.take m).map V.str)) ∧ H kn = none ∧ DeckAt H5 d c ∧ Keep d c H H5) (fun u hu' => ?_) ?_
    · refine ⟨_, ps_set (i := 6) scCell.nd rfl (Or.inl rfl) (pe_slice sl_list (pv 5) po_none (po_some (pv 3))), ?_⟩
      refine ⟨_, rfl, _, rfl, _, rfl, l, _, rfl, SqL.of hl, fun kn nk => ?_⟩
      have nk1 := D3.ned nk
      refine hu' _ _ ⟨kn, kn, rfl, by rw [upd_ne (ne_of_none hl nk)]; exact hl, ?_, kk3.free nk1.1 nk1.2 nk, D3.new nk, kk3.trans (Keep.new nk)⟩
      rw [cut_take]; exact upd_same
    rintro σ H4 ⟨kn, _, rfl, hl4, hkn4, zkn, D4, k4⟩
    refine ex_cut (fun σ H5 => ∃ (rr : Addr), σ = [some (.ref d), some (.int a), some (.int b), some (.int m), some (.int n), some (.ref l), some (.ref kn), some (.ref rr), none, none, none, none] ∧
      H5 l = some (.lst (xs.map V.str)) ∧ H5 kn = some (.lst ((xs.take m).map V.str)) ∧ H5 rr = some (.lst []) ∧ l ≠ rr ∧ kn ≠ rr ∧ H rr = none ∧ DeckAt H5 d c ∧ Keep d c H H5) (fun u hu' => ?_) ?_
    · refine ⟨_, ps_set (i := 7) scCell.nd rfl (Or.inl rfl) (pe_lst pa_nil), ?_⟩
      refine ⟨(by show 0 ≤ sizeLine; decide), fun rr nr => ?_⟩
      have nr1 := D4.ned nr
      exact hu' _ _ ⟨rr, rfl, by rw [upd_ne (ne_of_none hl4 nr)]; exact hl4, by rw [upd_ne (ne_of_none hkn4 nr)]; exact hkn4, upd_same, ne_of_none hl4 nr, ne_of_none hkn4 nr, k4.free nr1.1 nr1.2 nr, D4.new nr, k4.trans (Keep.new nr)⟩
    rintro σ H5 ⟨rr, rfl, hl5, hkn5, hrr5, lrr, krr, zrr, D5, k5⟩
    -- the gates
    refine ex_cut (fun σ H6 => ∃ (kn' : Addr) (as : List Addr) (gs : List (Str × Str × List Str)) (v8 : Option V), σ = [some (.ref d), some (.int a), some (.int b), some (.int m), some (.int n), some (.ref l), some (.ref kn'), some (.ref rr), v8, none, none, none] ∧
      H6 l = some (.lst (xs.map V.str)) ∧ H6 kn' = some (.lst (xs.map V.str)) ∧ H6 rr = some (.lst (as.map V.ref)) ∧ GatesAt H6 as gs ∧ gs.map (·.1) = xs.drop m ∧ GatesOk (xs.take m) gs ∧ DeckAt H6 d c ∧ Keep d c H H6) (fun u hu' => ?_) ?_
    · refine ⟨_, ps_for PassesOwn.never rfl (pi_list (pe_slice sl_list (pv 5) (po_some (pv 3)) po_none)) (pg_name (i := 8) scCell.nd rfl (Or.inl rfl))
        (pss_cons (ps_expr (pe_bm PySem.F.plainAttrs_list PySem.F.slot_list_append PySem.F.type_list_append mt_append (pv 7) (pa_c (pe_op op_catT (pe_tup (pa_c (pv 8) pa_nil)) (pe_call GG hr2 rfl gG.m gG.k gG.b .nil pass0 (pa_c (pv 0) (pa_c (pv 6) pa_nil)))) pa_nil)))
        (pss_one (ps_set (i := 6) scCell.nd rfl (Or.inl rfl) (pe_op op_cat (pv 6) (pe_lst (pa_c (pv 8) pa_nil)))))), ?_⟩
      refine ⟨_, rfl, _, rfl, _, rfl, l, _, rfl, SqL.of hl5, fun ln nln => ?_⟩
      rw [cut_drop]
      have nln1 := D5.ned nln
      have zln : H ln = none := k5.free nln1.1 nln1.2 nln
      have lnrr : ln ≠ rr := (ne_of_none hrr5 nln).symm
      refine ⟨ln, rfl, ⟨_, SqL.of upd_same⟩, ?_⟩
      refine for_list (K := K) (a := ln) (xs := (xs.drop m).map V.str) (fun i σ H6 => ∃ (kn' : Addr) (as : List Addr) (gs : List (Str × Str × List Str)) (v8 : Option V), σ = [some (.ref d), some (.int a), some (.int b), some (.int m), some (.int n), some (.ref l), some (.ref kn'), some (.ref rr), v8, none, none, none] ∧
          H6 l = some (.lst (xs.map V.str)) ∧ H6 ln = some (.lst ((xs.drop m).map V.str)) ∧ H6 kn' = some (.lst ((xs.take (m + i)).map V.str)) ∧ H kn' = none ∧ kn' ≠ rr ∧ H6 rr = some (.lst (as.map V.ref)) ∧ as.length = i ∧ GatesAt H6 as gs ∧ gs.map (·.1) = (xs.drop m).take i ∧ GatesOk (xs.take m) gs ∧ DeckAt H6 d c ∧ Keep d c H H6)
        ⟨kn, [], [], none, rfl, by rw [upd_ne (ne_of_none hl5 nln)]; exact hl5, upd_same, by rw [upd_ne (ne_of_none hkn5 nln)]; exact hkn5, zkn, krr, by rw [upd_ne (ne_of_none hrr5 nln)]; exact hrr5, rfl, .nil, by simp, True.intro, D5.new nln, k5.trans (Keep.new nln)⟩
        (fun i σ H6 _ ⟨_, _, _, _, _, _, h, _⟩ => SqL.of h) ?_ ?_
      · rintro i x σ H6 hx ⟨kn', as, gs, v8, rfl, hl6, hln6, hkn6, zkn', knr, hrr6, hal, hga, hgn', hgo, D6, k6⟩
        obtain ⟨y, hy, rfl⟩ : ∃ y, (xs.drop m)[i]? = some y ∧ V.str y = x := by
          rw [List.getElem?_map] at hx
          cases e : (xs.drop m)[i]? with
          | none => rw [e] at hx; cases hx
          | some y => rw [e] at hx; exact ⟨y, rfl, Option.some.inj hx⟩
        have hi : i < (xs.drop m).length := (List.getElem?_eq_some_iff.mp hy).1
        rw [List.length_drop] at hi
        have nkd := D.ned zkn'
        refine ⟨_, rfl, .inl ⟨rfl, _, SqL.of hrr6⟩, _, rfl, (by show 1 ≤ sizeLine; decide), fun t1 nt1 => ?_⟩
        have D7 := D6.new (o := .tup [V.str y]) nt1
        have hkn7 : upd H6 t1 (.tup [V.str y]) kn' = some (.lst ((xs.take (m + i)).map V.str)) := by rw [upd_ne (ne_of_none hkn6 nt1)]; exact hkn6
        refine ⟨_, rfl, _, rfl, d, c, kn', xs.take (m + i), rfl, D7, hkn7, nkd.1, nkd.2, by rw [List.length_take]; omega, fun t q wd ps H8 nt nq ht hq hok hps D8 k8 => ?_⟩
        have k68 : Keep d c H6 H8 := (Keep.new nt1).trans k8
        have t1d := D6.ned nt1
        have ht1 := k8 t1 _ upd_same t1d.1 t1d.2
        refine ⟨t1, t, _, _, rfl, rfl, SqT.of ht1, SqT.of ht, by simp, (by show 1 + 2 ≤ sizeLine; decide), (fun z => by cases z), fun _ t3 nt3 => ?_⟩
        have rrd := D.ned zrr
        have hrr8 := k68 rr _ hrr6 rrd.1 rrd.2
        have hrr9 : ∀ o, upd H8 t3 o rr = some (.lst (as.map V.ref)) := fun o => by rw [upd_ne (ne_of_none hrr8 nt3)]; exact hrr8
        refine ⟨rr, _, .ref t3, rfl, rfl, hrr9 _, ?_, ?_⟩
        · rw [List.length_map]; exact Nat.lt_of_lt_of_le (show as.length < 1000 by omega) (by decide)
        -- known = known + [name]
        have rt3 : rr ≠ t3 := ne_of_none hrr8 nt3
        have D10 : DeckAt (upd (upd H8 t3 (.tup ([V.str y] ++ [V.str wd, V.ref q]))) rr (.lst (as.map V.ref ++ [V.ref t3]))) d c := (D8.new nt3).upd_other rrd.1 rrd.2
        have k10 : Keep d c H (upd (upd H8 t3 (.tup ([V.str y] ++ [V.str wd, V.ref q]))) rr (.lst (as.map V.ref ++ [V.ref t3]))) := fun b o e g1 g2 => by
          rw [upd_ne (ne_of_none e zrr)]
          exact (k6.trans (k68.trans (Keep.new nt3))) b o e g1 g2
        have old10 : ∀ b ys, b ≠ rr → b ≠ d → b ≠ c → H6 b = some (.lst ys) → upd (upd H8 t3 (.tup ([V.str y] ++ [V.str wd, V.ref q]))) rr (.lst (as.map V.ref ++ [V.ref t3])) b = some (.lst ys) := fun b ys e1 e2 e3 e => by
          have e8 := k68 b _ e e2 e3
          rw [upd_ne e1, upd_ne (ne_of_none e8 nt3)]; exact e8
        have tp : Tups H6 (upd (upd H8 t3 (.tup ([V.str y] ++ [V.str wd, V.ref q]))) rr (.lst (as.map V.ref ++ [V.ref t3]))) := (Tups.of_keep D6 k68).trans ((Tups.new nt3).trans (Tups.lst (hrr9 _)))
        have hg3 : GateAt (upd (upd H8 t3 (.tup ([V.str y] ++ [V.str wd, V.ref q]))) rr (.lst (as.map V.ref ++ [V.ref t3]))) t3 (y, wd, ps) := by
          refine ⟨q, ?_, ?_⟩
          · rw [upd_ne rt3.symm]; exact upd_same
          · have qr : q ≠ rr := ne_of hq hrr8 (fun z => nomatch z)
            rw [upd_ne qr, upd_ne (ne_of_none hq nt3)]; exact hq
        have ld := D.ned zl
        have lnd := D.ned zln
        have hl10 := old10 l _ lrr ld.1 ld.2 hl6
        have hln10 := old10 ln _ lnrr lnd.1 lnd.2 hln6
        have hkn10 := old10 kn' _ knr nkd.1 nkd.2 hkn6
        have hrr10 : upd (upd H8 t3 (.tup ([V.str y] ++ [V.str wd, V.ref q]))) rr (.lst (as.map V.ref ++ [V.ref t3])) rr = some (.lst ((as ++ [t3]).map V.ref)) := by rw [upd_same]; simp
        generalize upd (upd H8 t3 (.tup ([V.str y] ++ [V.str wd, V.ref q]))) rr (.lst (as.map V.ref ++ [V.ref t3])) = H10 at D10 k10 tp hg3 hl10 hln10 hkn10 hrr10 ⊢
        refine ⟨_, rfl, _, rfl, (by show 1 ≤ sizeLine; decide), fun p1 n1 => ?_⟩
        have D11 := D10.new (o := .lst [V.str y]) n1
        have k11 := k10.trans (Keep.new (d := d) (c := c) (o := .lst [V.str y]) n1)
        refine ⟨kn', p1, _, _, rfl, rfl, by rw [upd_ne (ne_of_none hkn10 n1)]; exact hkn10, upd_same, ?_, fun p2 n2 => ?_⟩
        · rw [List.length_map, List.length_take]; exact small_size (by show min (m + i) xs.length + 1 ≤ 1000; omega)
        have new2 : ∀ b o, H10 b = some o → upd (upd H10 p1 (.lst [V.str y])) p2 (.lst ((xs.take (m + i)).map V.str ++ [V.str y])) b = some o := fun b o e => by
          have e1 : upd H10 p1 (.lst [V.str y]) b = some o := by rw [upd_ne (ne_of_none e n1)]; exact e
          rw [upd_ne (ne_of_none e1 n2)]; exact e1
        have n2d := D11.ned n2
        refine ⟨p2, as ++ [t3], gs ++ [(y, wd, ps)], _, rfl, new2 _ _ hl10, new2 _ _ hln10, ?_, k11.free n2d.1 n2d.2 n2, ?_, new2 _ _ hrr10, by simp [hal], ?_, ?_, ?_, D11.new n2, k11.trans (Keep.new n2)⟩
        · rw [upd_same, ← Nat.add_assoc, List.take_add_one, List.map_append]
          rw [List.getElem?_drop] at hy
          rw [hy]; rfl
        · intro e
          have := new2 rr _ hrr10
          rw [← e] at hrr10
          have q1 : upd H10 p1 (.lst [V.str y]) p2 = some (.lst ((as ++ [t3]).map V.ref)) := by rw [upd_ne (ne_of_none hrr10 n1)]; exact hrr10
          rw [q1] at n2; cases n2
        · exact GatesAt.mono (fun b ys e => new2 b _ e) (paired_snoc (GatesAt.mono tp hga) hg3)
        · rw [List.map_append, hgn', List.take_add_one, hy]; rfl
        · refine GatesOk.snoc hgo hok (fun p hp => ?_)
          have := hps p hp
          rw [hgn']
          rw [List.take_add] at this
          exact this
      · rintro σ H6 ⟨kn', as, gs, v8, rfl, hl6, hln6, hkn6, zkn', knr, hrr6, hal, hga, hgn', hgo, D6, k6⟩
        rw [List.length_map] at hkn6 hgn'
        rw [List.take_of_length_le (Nat.le_refl _)] at hgn'
        rw [List.take_of_length_le (by rw [List.length_drop]; omega)] at hkn6
        exact hu' _ _ ⟨kn', as, gs, v8, rfl, hl6, hkn6, hrr6, hga, hgn', hgo, D6, k6⟩
    rintro σ H6 ⟨kn', as, gs, v8, rfl, hl6, hkn6, hrr6, hga, hgn', hgo, D6, k6⟩
    -- left, outputs
    refine ex_cut (fun σ H7 => ∃ (lf ou : Addr), σ = [some (.ref d), some (.int a), some (.int b), some (.int m), some (.int n), some (.ref l), some (.ref kn'), some (.ref rr), v8, some (.ref lf), none, none] ∧
      H7 l = some (.lst (xs.map V.str)) ∧ H7 rr = some (.lst (as.map V.ref)) ∧ H7 lf = some (.lst (xs.map V.str)) ∧ l ≠ lf ∧ rr ≠ lf ∧ H lf = none ∧ GatesAt H7 as gs ∧ DeckAt H7 d c ∧ Keep d c H H7) (fun u hu' => ?_) ?_
    · refine ⟨_, ps_set (i := 9) scCell.nd rfl (Or.inl rfl) (pe_callTy call_list_of (by rfl) T.list PyProof.Rows.boot_list (pa_c (pv 6) pa_nil)), ?_⟩
      refine ⟨_, rfl, kn', _, rfl, .inl (SqL.of hkn6), fun lf nf => ?_⟩
      have nf1 := D6.ned nf
      exact hu' _ _ ⟨lf, lf, rfl, by rw [upd_ne (ne_of_none hl6 nf)]; exact hl6, by rw [upd_ne (ne_of_none hrr6 nf)]; exact hrr6, upd_same, ne_of_none hl6 nf, ne_of_none hrr6 nf, k6.free nf1.1 nf1.2 nf, hga.mono (Tups.new nf), D6.new nf, k6.trans (Keep.new nf)⟩
    rintro σ H7 ⟨lf, _, rfl, hl7, hrr7, hlf7, llf, rlf, zlf, hga7, D7, k7⟩
    refine ex_cut (fun σ H8 => ∃ (ou : Addr), σ = [some (.ref d), some (.int a), some (.int b), some (.int m), some (.int n), some (.ref l), some (.ref kn'), some (.ref rr), v8, some (.ref lf), some (.ref ou), none] ∧
      H8 l = some (.lst (xs.map V.str)) ∧ H8 rr = some (.lst (as.map V.ref)) ∧ H8 lf = some (.lst (xs.map V.str)) ∧ H8 ou = some (.lst []) ∧ l ≠ ou ∧ rr ≠ ou ∧ lf ≠ ou ∧ H ou = none ∧ GatesAt H8 as gs ∧ DeckAt H8 d c ∧ Keep d c H H8) (fun u hu' => ?_) ?_
    · refine ⟨_, ps_set (i := 10) scCell.nd rfl (Or.inl rfl) (pe_lst pa_nil), ?_⟩
      refine ⟨(by show 0 ≤ sizeLine; decide), fun ou no => ?_⟩
      have no1 := D7.ned no
      exact hu' _ _ ⟨ou, rfl, by rw [upd_ne (ne_of_none hl7 no)]; exact hl7, by rw [upd_ne (ne_of_none hrr7 no)]; exact hrr7, by rw [upd_ne (ne_of_none hlf7 no)]; exact hlf7, upd_same, ne_of_none hl7 no, ne_of_none hrr7 no, ne_of_none hlf7 no, k7.free no1.1 no1.2 no, hga7.mono (Tups.new no), D7.new no, k7.trans (Keep.new no)⟩
    rintro σ H8 ⟨ou, rfl, hl8, hrr8, hlf8, hou8, lou, rou, lfou, zou, hga8, D8, k8⟩
    refine ex_cut (fun σ H9 => ∃ (os lt : List Str) (v11 : Option V), σ = [some (.ref d), some (.int a), some (.int b), some (.int m), some (.int n), some (.ref l), some (.ref kn'), some (.ref rr), v8, some (.ref lf), some (.ref ou), v11] ∧
      H9 l = some (.lst (xs.map V.str)) ∧ H9 rr = some (.lst (as.map V.ref)) ∧ H9 ou = some (.lst (os.map V.str)) ∧ os.length ≤ 6 ∧ (os ++ lt).Perm xs ∧ GatesAt H9 as gs ∧ DeckAt H9 d c ∧ Keep d c H H9) (fun u hu' => ?_) ?_
    · refine ⟨_, ps_for PassesOwn.never rfl (pi_range1 rfl T.range (pa_c (pe_callB (call_min2 rfl) (by rfl) T.min PyProof.Rows.boot_min (pa_c (pe_call GT hr1 rfl gT.m gT.k gT.b .nil pass0 (pa_c (pv 0) (pa_c pe_int pa_nil))) (pa_c (pe_callB call_len_seq (by rfl) T.len PySem.boot_len (pa_c (pv 9) pa_nil)) pa_nil))) pa_nil)) (pg_name (i := 11) scCell.nd rfl (Or.inl rfl))
        (pss_one (ps_expr (pe_bm PySem.F.plainAttrs_list PySem.F.slot_list_append PySem.F.type_list_append mt_append (pv 10) (pa_c (pe_bm PySem.F.plainAttrs_list PySem.F.slot_list_pop PySem.F.type_list_pop mt_popAt (pv 9) (pa_c (pe_call GT hr1 rfl gT.m gT.k gT.b .nil pass0 (pa_c (pv 0) (pa_c (pe_callB call_len_seq (by rfl) T.len PySem.boot_len (pa_c (pv 9) pa_nil)) pa_nil))) pa_nil)) pa_nil)))), ?_⟩
      refine ⟨_, rfl, d, c, 7, rfl, D8, by decide, by decide, fun r H9 c0 c1 D9 k9 => ?_⟩
      have ld := D.ned zl
      have rrd := D.ned zrr
      have lfd := D.ned zlf
      have oud := D.ned zou
      have hlf9 := k9 lf _ hlf8 lfd.1 lfd.2
      refine ⟨_, rfl, lf, _, rfl, .inl (SqL.of hlf9), _, _, rfl, _, rfl, ?_, ?_, ?_⟩
      · split <;> omega
      · split
        · rw [List.length_map]; omega
        · omega
      rw [List.length_map]
      have hN : (if (xs.length : Int) < r then (xs.length : Int) else r).toNat ≤ 6 ∧ (if (xs.length : Int) < r then (xs.length : Int) else r).toNat ≤ xs.length := by split <;> omega
      generalize (if (xs.length : Int) < r then (xs.length : Int) else r).toNat = N at hN
      refine for_range (lo := 0) (n := N) (fun i σ H10 => ∃ (os lt : List Str) (v11 : Option V), σ = [some (.ref d), some (.int a), some (.int b), some (.int m), some (.int n), some (.ref l), some (.ref kn'), some (.ref rr), v8, some (.ref lf), some (.ref ou), v11] ∧
          H10 l = some (.lst (xs.map V.str)) ∧ H10 rr = some (.lst (as.map V.ref)) ∧ H10 lf = some (.lst (lt.map V.str)) ∧ H10 ou = some (.lst (os.map V.str)) ∧ os.length = i ∧ lt.length + i = xs.length ∧ (os ++ lt).Perm xs ∧ GatesAt H10 as gs ∧ DeckAt H10 d c ∧ Keep d c H H10)
        ⟨[], xs, none, rfl, k9 l _ hl8 ld.1 ld.2, k9 rr _ hrr8 rrd.1 rrd.2, hlf9, k9 ou _ hou8 oud.1 oud.2, rfl, rfl, List.Perm.refl _, hga8.mono (Tups.of_keep D8 k9), D9, k8.trans k9⟩ ?_ ?_
      · rintro i σ H10 hi ⟨os, lt, v11, rfl, hl10, hrr10, hlf10, hou10, ho1, ho2, ho3, hga10, D10, k10⟩
        refine ⟨_, rfl, .inl ⟨rfl, _, SqL.of hou10⟩, _, rfl, .inl ⟨rfl, _, SqL.of hlf10⟩, _, rfl, _, rfl, lf, _, rfl, .inl (SqL.of hlf10), d, c, _, rfl, D10, by rw [List.length_map]; omega, by rw [List.length_map]; omega, fun r2 H11 e0 e1 D11 k11 => ?_⟩
        rw [List.length_map] at e1
        obtain ⟨j, rfl⟩ := Int.eq_ofNat_of_zero_le e0
        have hj : j < lt.length := by omega
        have hlf11 := k11 lf _ hlf10 lfd.1 lfd.2
        have hou11 := k11 ou _ hou10 oud.1 oud.2
        have hy : lt[j]? = some lt[j] := List.getElem?_eq_getElem hj
        have pm2 : ((os ++ [lt[j]]) ++ lt.eraseIdx j).Perm (os ++ lt) := by
          rw [List.append_assoc]
          exact List.Perm.append_left os (pop_perm hy)
        have hel : (lt.eraseIdx j).length + 1 = lt.length := by
          rw [List.length_eraseIdx, if_pos hj]; omega
        refine ⟨lf, _, _, j, .str lt[j], rfl, rfl, hlf11, by omega, by omega, ?_, by simp [hj], ou, _, .str lt[j], rfl, rfl, by rw [upd_ne lfou.symm]; exact hou11, ?_, os ++ [lt[j]], lt.eraseIdx j, _, rfl, ?_, ?_, ?_, by rw [upd_same]; simp, by simp [ho1], by omega, pm2.trans ho3, ?_, ?_, ?_⟩
        · rw [List.length_map]; exact PySem.StrLaws.seqIndex_nonneg (by omega) (by omega)
        · rw [List.length_map]; exact Nat.lt_of_lt_of_le (show os.length < 1000 by omega) (by decide)
        · rw [upd_ne lou, upd_ne llf]; exact k11 l _ hl10 ld.1 ld.2
        · rw [upd_ne rou, upd_ne rlf]; exact k11 rr _ hrr10 rrd.1 rrd.2
        · rw [upd_ne lfou, upd_same, erase_map]
        · refine hga10.mono ((Tups.of_keep D10 k11).trans ((Tups.lst hlf11).trans (Tups.lst (ys := os.map V.str) ?_)))
          rw [upd_ne lfou.symm]; exact hou11
        · exact (D11.upd_other lfd.1 lfd.2).upd_other oud.1 oud.2
        · exact fun b o e g1 g2 => by rw [upd_ne (ne_of_none e zou), upd_ne (ne_of_none e zlf)]; exact k11 b o (k10 b o e g1 g2) g1 g2
      · rintro σ H10 ⟨os, lt, v11, rfl, hl10, hrr10, hlf10, hou10, ho1, ho2, ho3, hga10, D10, k10⟩
        exact hu' _ _ ⟨os, lt, v11, rfl, hl10, hrr10, hou10, by omega, ho3, hga10, D10, k10⟩
    rintro σ H9 ⟨os, lt, v11, rfl, hl9, hrr9, hou9, ho6, hperm, hga9, D9, k9⟩
    -- the cell
    refine ⟨_, pss_one (ps_ret (pe_tup (pa_c (pe_callTy call_tuple_of (by rfl) T.tuple PyProof.Rows.boot_tuple (pa_c (pe_slice sl_list (pv 5) po_none (po_some (pv 3))) pa_nil)) (pa_c (pe_callTy call_tuple_of (by rfl) T.tuple PyProof.Rows.boot_tuple (pa_c (pv 7) pa_nil))
      (pa_c (pe_callTy call_tuple_of (by rfl) T.tuple PyProof.Rows.boot_tuple (pa_c (pv 10) pa_nil)) pa_nil))))), ?_⟩
    refine ⟨_, rfl, _, rfl, _, rfl, l, _, rfl, SqL.of hl9, fun p1 n1 => ⟨p1, _, rfl, .inl ⟨SqL.of upd_same, fun p2 n2 => ?_⟩⟩⟩
    rw [cut_take] at n2 ⊢
    have hrrA : upd (upd H9 p1 (.lst ((xs.take m).map V.str))) p2 (.tup ((xs.take m).map V.str)) rr = some (.lst (as.map V.ref)) := by
      have e1 : upd H9 p1 (.lst ((xs.take m).map V.str)) rr = some (.lst (as.map V.ref)) := by rw [upd_ne (ne_of_none hrr9 n1)]; exact hrr9
      rw [upd_ne (ne_of_none e1 n2)]; exact e1
    have houA : upd (upd H9 p1 (.lst ((xs.take m).map V.str))) p2 (.tup ((xs.take m).map V.str)) ou = some (.lst (os.map V.str)) := by
      have e1 : upd H9 p1 (.lst ((xs.take m).map V.str)) ou = some (.lst (os.map V.str)) := by rw [upd_ne (ne_of_none hou9 n1)]; exact hou9
      rw [upd_ne (ne_of_none e1 n2)]; exact e1
    have DA := (D9.new (o := .lst ((xs.take m).map V.str)) n1).new (o := .tup ((xs.take m).map V.str)) n2
    have kA := (k9.trans (Keep.new (d := d) (c := c) (o := .lst ((xs.take m).map V.str)) n1)).trans (Keep.new (d := d) (c := c) (o := .tup ((xs.take m).map V.str)) n2)
    have gA : GatesAt (upd (upd H9 p1 (.lst ((xs.take m).map V.str))) p2 (.tup ((xs.take m).map V.str))) as gs := hga9.mono ((Tups.new n1).trans (Tups.new n2))
    have iA : upd (upd H9 p1 (.lst ((xs.take m).map V.str))) p2 (.tup ((xs.take m).map V.str)) p2 = some (.tup ((xs.take m).map V.str)) := upd_same
    generalize upd (upd H9 p1 (.lst ((xs.take m).map V.str))) p2 (.tup ((xs.take m).map V.str)) = HA at hrrA houA DA kA gA iA ⊢
    refine ⟨_, rfl, rr, _, rfl, .inl ⟨SqL.of hrrA, fun p3 n3 => ?_⟩⟩
    have houB : upd HA p3 (.tup (as.map V.ref)) ou = some (.lst (os.map V.str)) := by rw [upd_ne (ne_of_none houA n3)]; exact houA
    refine ⟨_, rfl, ou, _, rfl, .inl ⟨SqL.of houB, fun p4 n4 => ⟨(by show 3 ≤ sizeLine; decide), fun ce nc => ?_⟩⟩⟩
    have DB := (DA.new (o := .tup (as.map V.ref)) n3).new (o := .tup (os.map V.str)) n4
    have kB := (kA.trans (Keep.new (d := d) (c := c) (o := .tup (as.map V.ref)) n3)).trans (Keep.new (d := d) (c := c) (o := .tup (os.map V.str)) n4)
    have tB : Tups HA (upd (upd (upd HA p3 (.tup (as.map V.ref))) p4 (.tup (os.map V.str))) ce (.tup [V.ref p2, V.ref p3, V.ref p4])) := (Tups.new n3).trans ((Tups.new n4).trans (Tups.new nc))
    have ncd := DB.ned nc
    refine k ce ⟨xs.take m, gs, os⟩ _ (kB.free ncd.1 ncd.2 nc) ⟨p2, p3, p4, as, upd_same, tB _ _ iA, ((Tups.new n4).trans (Tups.new nc)) _ _ upd_same, (Tups.new nc) _ _ upd_same, gA.mono tB⟩ ?_ (DB.new nc) (kB.trans (Keep.new nc))
    have enames : (⟨xs.take m, gs, os⟩ : Cel).names = xs := by
      show xs.take m ++ gs.map (·.1) = xs
      rw [hgn']; exact List.take_append_drop m xs
    have hgl : gs.length = xs.length - m := by
      have := congrArg List.length hgn'
      rw [List.length_map, List.length_drop] at this
      exact this
    refine ⟨by rw [enames]; exact hnd, by rw [enames]; exact hgn, hgo, fun o ho => by rw [enames]; exact hperm.mem_iff.mp (List.mem_append_left _ ho), ?_, by show (xs.take m).length ≤ 6; rw [List.length_take]; omega, by show gs.length ≤ 24; omega, ho6⟩
    exact List.Nodup.sublist (List.sublist_append_left os lt) (hperm.symm.nodup hnd)
end
end Lw

namespace Lw
open PySem L2
/-! ### what a cell tells -/
def gateVal (w : Str) (bs : List Int) : Int :=
  if w = "and" then (if bs.sum = bs.length then 1 else 0)
  else if w = "or" then (if bs.sum > 0 then 1 else 0)
  else if w = "odd" then bs.sum % 2
  else if w = "most" then (if bs.sum ≥ 2 then 1 else 0)
  else if w = "not" then (if bs.sum = 0 then 1 else 0)
  else if w = "one" then 1 else 0
def Bit (i : Int) : Prop := i = 0 ∨ i = 1
theorem gateVal_bit (w : Str) (bs : List Int) : Bit (gateVal w bs) := by
  unfold gateVal Bit
  have := Int.emod_nonneg bs.sum (show (2 : Int) ≠ 0 by decide)
  have := Int.emod_lt_of_pos bs.sum (show (0 : Int) < 2 by decide)
  repeat' split
  all_goals omega
theorem bits_sum : ∀ {bs : List Int}, (∀ b ∈ bs, Bit b) → 0 ≤ bs.sum ∧ bs.sum ≤ bs.length
  | [], _ => by simp
  | b :: r, h => by
    have h1 := h b List.mem_cons_self
    have h2 := bits_sum fun x hx => h x (List.mem_cons_of_mem _ hx)
    simp only [List.sum_cons, List.length_cons]
    unfold Bit at h1
    omega
theorem bits_all1 : ∀ {bs : List Int}, (∀ b ∈ bs, b = 1) → bs.sum = bs.length
  | [], _ => by simp
  | b :: r, h => by
    have h1 := h b List.mem_cons_self
    have h2 := bits_all1 fun x hx => h x (List.mem_cons_of_mem _ hx)
    simp only [List.sum_cons, List.length_cons]
    omega
theorem bits_some0 : ∀ {bs : List Int}, (∀ b ∈ bs, Bit b) → (0 : Int) ∈ bs → bs.sum < bs.length
  | [], _, h => by simp at h
  | b :: r, h, hm => by
    have h1 := h b List.mem_cons_self
    have hr : ∀ x ∈ r, Bit x := fun x hx => h x (List.mem_cons_of_mem _ hx)
    have h2 := bits_sum hr
    simp only [List.sum_cons, List.length_cons]
    unfold Bit at h1
    rcases List.mem_cons.mp hm with e | e
    · omega
    · have := bits_some0 hr e
      omega
theorem bits_some1 : ∀ {bs : List Int}, (∀ b ∈ bs, Bit b) → (1 : Int) ∈ bs → 0 < bs.sum
  | [], _, h => by simp at h
  | b :: r, h, hm => by
    have h1 := h b List.mem_cons_self
    have hr : ∀ x ∈ r, Bit x := fun x hx => h x (List.mem_cons_of_mem _ hx)
    have h2 := bits_sum hr
    simp only [List.sum_cons]
    unfold Bit at h1
    rcases List.mem_cons.mp hm with e | e
    · omega
    · have := bits_some1 hr e
      omega
theorem bits_all0 : ∀ {bs : List Int}, (∀ b ∈ bs, b = 0) → bs.sum = 0
  | [], _ => by simp
  | b :: r, h => by
    have h1 := h b List.mem_cons_self
    have h2 := bits_all0 fun x hx => h x (List.mem_cons_of_mem _ hx)
    simp only [List.sum_cons]
    omega
theorem min_and {bs : List Int} {m : Int} (hb : ∀ b ∈ bs, Bit b) (h1 : m ∈ bs) (h2 : ∀ a ∈ bs, m ≤ a) : m = if bs.sum = bs.length then 1 else 0 := by
  rcases hb m h1 with e | e
  · subst e
    have := bits_some0 hb h1
    rw [if_neg (by omega)]
  · subst e
    have : ∀ b ∈ bs, b = 1 := fun b hm => by
      have := h2 b hm
      rcases hb b hm with q | q <;> omega
    rw [if_pos (bits_all1 this)]
theorem max_or {bs : List Int} {m : Int} (hb : ∀ b ∈ bs, Bit b) (h1 : m ∈ bs) (h2 : ∀ a ∈ bs, a ≤ m) : m = if bs.sum > 0 then 1 else 0 := by
  rcases hb m h1 with e | e
  · subst e
    have : ∀ b ∈ bs, b = 0 := fun b hm => by
      have := h2 b hm
      rcases hb b hm with q | q <;> omega
    have := bits_all0 this
    rw [if_neg (by omega)]
  · subst e
    have := bits_some1 hb h1
    rw [if_pos (by omega)]
def evalG (ρ : Str → Int) : List (Str × Str × List Str) → Str → Int
  | [] => ρ
  | g :: r => evalG (fun x => if x = g.1 then gateVal g.2.1 (g.2.2.map ρ) else ρ x) r
def stepG (ρ : Str → Int) (g : Str × Str × List Str) : Str → Int := fun x => if x = g.1 then gateVal g.2.1 (g.2.2.map ρ) else ρ x
theorem evalG_snoc : ∀ (gs : List (Str × Str × List Str)) (ρ : Str → Int) (g : Str × Str × List Str), evalG ρ (gs ++ [g]) = stepG (evalG ρ gs) g
  | [], ρ, g => rfl
  | a :: r, ρ, g => evalG_snoc r _ g
def evalC (C : Cel) (ρ : Str → Int) : Str → Int := evalG ρ C.gates
/-- what a dict of bits gives a name -/
def rhoOf (kvs : List (Key × V)) : Str → Int := fun x => match valV kvs (Sum.inr x) with | some (.int i) => i | _ => 0
/-- the dict has these names, with the bits of ρ -/
def Has (kvs : List (Key × V)) (xs : List Str) (ρ : Str → Int) : Prop := ∀ x ∈ xs, valV kvs (Sum.inr x) = some (.int (ρ x)) ∧ Bit (ρ x)
theorem Has.put {kvs : List (Key × V)} {xs : List Str} {ρ : Str → Int} (h : Has kvs xs ρ) {n : Str} {v : Int} (hv : Bit v) : Has (putK kvs (Sum.inr n) (.int v)) (xs ++ [n]) (fun x => if x = n then v else ρ x) := by
  intro x hx
  rw [valV_put]
  dsimp only
  by_cases e : x = n
  · subst e
    rw [if_pos rfl, if_pos rfl]
    exact ⟨rfl, hv⟩
  · rw [if_neg (fun z => e (Sum.inr.inj z)), if_neg e]
    rcases List.mem_append.mp hx with q | q
    · exact h x q
    · exact absurd (List.mem_singleton.mp q) e
theorem Has.weak {kvs : List (Key × V)} {xs ys : List Str} {ρ : Str → Int} (h : Has kvs xs ρ) (hs : ∀ y ∈ ys, y ∈ xs) : Has kvs ys ρ := fun y hy => h y (hs y hy)
theorem GatesOk.at {gs : List (Str × Str × List Str)} : ∀ {kn : List Str} {i : Nat} {g : Str × Str × List Str}, GatesOk kn gs → gs[i]? = some g → ArOk g.2.1 g.2.2.length ∧ ∀ p ∈ g.2.2, p ∈ kn ++ (gs.take i).map (·.1) := by
  induction gs with
  | nil => intro kn i g _ h; simp at h
  | cons a r ih =>
    intro kn i g h e
    cases i with
    | zero => simp at e; subst e; exact ⟨h.1, by simpa using h.2.1⟩
    | succ i =>
      have := ih (kn := kn ++ [a.1]) (i := i) (g := g) h.2.2 (by simpa using e)
      refine ⟨this.1, fun p hp => ?_⟩
      have q := this.2 p hp
      simpa using q
theorem paired_get {α β : Type} {F : α → β → Prop} : ∀ {l₁ : List α} {l₂ : List β} {i : Nat} {a : α}, Paired F l₁ l₂ → l₁[i]? = some a → ∃ b, l₂[i]? = some b ∧ F a b
  | _, _, _, _, .nil, h => by simp at h
  | _, _, 0, _, .cons x r, h => by simp at h; subst h; exact ⟨_, by simp, x⟩
  | _, _, i + 1, a, .cons x r, h => by
    obtain ⟨b, h1, h2⟩ := paired_get (i := i) r (by simpa using h)
    exact ⟨b, by simpa using h1, h2⟩
theorem paired_len {α β : Type} {F : α → β → Prop} : ∀ {l₁ : List α} {l₂ : List β}, Paired F l₁ l₂ → l₁.length = l₂.length
  | _, _, .nil => rfl
  | _, _, .cons _ r => by simp [paired_len r]
end Lw

namespace Lw
open PySem L2
def spGB : Sp := fun vs H Q _ => ∃ (wd : Str) (l : Addr) (bs : List Int), vs = [.str wd, .ref l] ∧ H l = some (.lst (bs.map V.int)) ∧ (∀ b ∈ bs, Bit b) ∧ ArOk wd bs.length ∧ (∀ H', Same H H' → Q (.int (gateVal wd bs)) H')
theorem arNe {w : Str} {n : Nat} (h : ArOk w n) (h1 : ¬ w = "and") (h2 : ¬ w = "or") (h3 : ¬ w = "odd") (h4 : ¬ w = "most") (h5 : ¬ w = "not") : w = "one" ∨ w = "nil" := by
  rcases h.ok with ⟨q, _⟩ | ⟨q, _⟩ | ⟨q, _⟩ | ⟨q, _⟩ | ⟨q, _⟩
  · unfold two3 at q
    simp only [List.mem_cons, List.not_mem_nil, or_false] at q
    rcases q with e | e | e
    · exact absurd e h1
    · exact absurd e h2
    · exact absurd e h3
  · exact absurd q h4
  · exact absurd q h5
  · exact .inl q
  · exact .inr q
theorem arPos {w : Str} {n : Nat} (h : ArOk w n) (h1 : w = "and" ∨ w = "or") : 2 ≤ n := by
  rcases h.ok with ⟨_, q | q⟩ | ⟨q, _⟩ | ⟨q, _⟩ | ⟨q, _⟩ | ⟨q, _⟩
  · omega
  · omega
  all_goals (rcases h1 with e | e <;> (rw [e] at q; exact absurd q (by decide +kernel)))
theorem arNot {n : Nat} (h : ArOk "not" n) : n = 1 := by
  rcases h.ok with ⟨q, _⟩ | ⟨q, _⟩ | ⟨_, q⟩ | ⟨q, _⟩ | ⟨q, _⟩
  · exact absurd q (by decide +kernel)
  · exact absurd q (by decide +kernel)
  · exact q
  · exact absurd q (by decide +kernel)
  · exact absurd q (by decide +kernel)
theorem vstr {x y : Str} {c : Bool} (h : decide (V.str x = V.str y) = c) : decide (x = y) = c := by
  rw [← h]
  by_cases e : x = y
  · subst e; simp
  · simp [e]
section
variable {P : Program} {w : World} {K : PySem.W.Frag} {mg : Str → Option Value} {base : Heap}
theorem scGB : FnScope ["word", "bits"] ["word", "bits"] (defScope sGateBit) := ⟨rfl, rfl, rfl, by decide +kernel, rfl, by decide +kernel, by decide +kernel⟩
set_option maxHeartbeats 4000000 in
theorem ok_gb {f : Addr} {fd : FuncData} (F : Fun K "gate_bit" "gate_bit" sGateBit f fd) (T : Txt mg) : FnOk P w K mg base CX0 1 f fd ["word", "bits"] spGB := by
  refine F.ok scGB (fun vs H Q E h => ?_) (fun cdv A outer s H vs Q E hr h => ?_)
  · obtain ⟨wd, l, bs, rfl, _⟩ := h
    rfl
  · obtain ⟨wd, l, bs, rfl, hl, hb, ho, k⟩ := h
    refine ⟨_, pss_cons (ps_if (pt_cmpR op_eq (pv 0) pe_str (nomark _)) (pss_one (ps_ret (pe_callB (call_minL rfl) (by rfl) T.min PyProof.Rows.boot_min (pa_c (pv 1) pa_nil)))) pss_nil)
      (pss_cons (ps_if (pt_cmpR op_eq (pv 0) pe_str (nomark _)) (pss_one (ps_ret (pe_callB (call_maxL rfl) (by rfl) T.max PyProof.Rows.boot_max (pa_c (pv 1) pa_nil)))) pss_nil)
      (pss_cons (ps_if (pt_cmpR op_eq (pv 0) pe_str (nomark _)) (pss_one (ps_ret (pe_op op_mod (pe_callB (call_sum rfl) (by rfl) T.sum PyProof.Rows.boot_sum (pa_c (pv 1) pa_nil)) pe_int))) pss_nil)
      (pss_cons (ps_if (pt_cmpR op_eq (pv 0) pe_str (nomark _)) (pss_one (ps_ret (pe_ifExp (pt_cmpR op_ge (pe_callB (call_sum rfl) (by rfl) T.sum PyProof.Rows.boot_sum (pa_c (pv 1) pa_nil)) pe_int (nomark _)) pe_int pe_int))) pss_nil)
      (pss_cons (ps_if (pt_cmpR op_eq (pv 0) pe_str (nomark _)) (pss_one (ps_ret (pe_op op_sub pe_int (pe_ix ix_list (pv 1) pe_int (fun _ _ => rfl))))) pss_nil)
      (pss_one (ps_ret (pe_ifExp (pt_cmpR op_eq (pv 0) pe_str (nomark _)) pe_int pe_int))))))), ?_⟩
    have k' : ∀ z, z = gateVal wd bs → Q (.int z) H := fun z e => by rw [e]; exact k H (Same.refl H)
    have gv : gateVal wd bs = gateVal wd bs := rfl
    refine ⟨_, rfl, rfl, _, rfl, ite2 (fun h1 => ?_) (fun h1 => ?_)⟩
    · have e1 : wd = "and" := of_decide_eq_true (vstr h1)
      refine ⟨_, rfl, l, bs, rfl, SqL.of hl, ?_, fun m hm ha => k' m ?_⟩
      · have := arPos ho (.inl e1)
        intro z; rw [z] at this; simp at this
      · rw [min_and hb hm ha]; unfold gateVal; rw [if_pos e1]
    have n1 : ¬ wd = "and" := fun e => h1 (by rw [e]; simp)
    refine ⟨_, rfl, rfl, _, rfl, ite2 (fun h1 => ?_) (fun h2 => ?_)⟩
    · have e1 : wd = "or" := of_decide_eq_true (vstr h1)
      refine ⟨_, rfl, l, bs, rfl, SqL.of hl, ?_, fun m hm ha => k' m ?_⟩
      · have := arPos ho (.inr e1)
        intro z; rw [z] at this; simp at this
      · rw [max_or hb hm ha]; unfold gateVal; rw [if_neg n1, if_pos e1]
    have n2 : ¬ wd = "or" := fun e => h2 (by rw [e]; simp)
    refine ⟨_, rfl, rfl, _, rfl, ite2 (fun h1 => ?_) (fun h3 => ?_)⟩
    · have e1 : wd = "odd" := of_decide_eq_true (vstr h1)
      refine ⟨_, rfl, l, bs, rfl, SqL.of hl, _, _, rfl, rfl, (by show (0 : Int) < 2; decide), k' _ ?_⟩
      unfold gateVal; rw [if_neg n1, if_neg n2, if_pos e1]
    have n3 : ¬ wd = "odd" := fun e => h3 (by rw [e]; simp)
    refine ⟨_, rfl, rfl, _, rfl, ite2 (fun h1 => ?_) (fun h4 => ?_)⟩
    · have e1 : wd = "most" := of_decide_eq_true (vstr h1)
      refine ⟨_, rfl, l, bs, rfl, SqL.of hl, _, _, rfl, rfl, _, rfl, ite2 (fun h5 => k' _ ?_) (fun h5 => k' _ ?_)⟩
      · have := of_decide_eq_true h5
        unfold gateVal; rw [if_neg n1, if_neg n2, if_neg n3, if_pos e1, if_pos (by omega)]
      · have : ¬ (2 : Int) ≤ bs.sum := fun z => h5 (decide_eq_true z)
        unfold gateVal; rw [if_neg n1, if_neg n2, if_neg n3, if_pos e1, if_neg (by omega)]
    have n4 : ¬ wd = "most" := fun e => h4 (by rw [e]; simp)
    refine ⟨_, rfl, rfl, _, rfl, ite2 (fun h1 => ?_) (fun h5 => ?_)⟩
    · have e1 : wd = "not" := of_decide_eq_true (vstr h1)
      subst e1
      have hl1 := arNot ho
      match bs, hl1, hb, hl, k' with
      | [b], _, hb, hl, k' =>
        refine ⟨_, rfl, l, _, _, .int b, rfl, rfl, SqL.of hl, rfl, _, _, rfl, rfl, k' _ ?_⟩
        have hb1 := hb b List.mem_cons_self
        unfold gateVal
        rw [if_neg n1, if_neg n2, if_neg n3, if_neg n4, if_pos rfl]
        simp only [List.sum_cons, List.sum_nil]
        rcases hb1 with rfl | rfl <;> decide
    have n5 : ¬ wd = "not" := fun e => h5 (by rw [e]; simp)
    refine ⟨_, rfl, rfl, _, rfl, ite2 (fun h1 => k' _ ?_) (fun h6 => k' _ ?_)⟩
    · have e1 : wd = "one" := of_decide_eq_true (vstr h1)
      unfold gateVal; rw [if_neg n1, if_neg n2, if_neg n3, if_neg n4, if_neg n5, if_pos e1]
    · have n6 : ¬ wd = "one" := fun e => h6 (by rw [e]; simp)
      unfold gateVal; rw [if_neg n1, if_neg n2, if_neg n3, if_neg n4, if_neg n5, if_neg n6]
theorem scLGB : FnScope ["word", "bits", "total"] ["word", "bits"] (defScope sLGateBit) := ⟨rfl, rfl, rfl, by decide +kernel, rfl, by decide +kernel, by decide +kernel⟩
def no2 : List Str := ["nil", "one"]
set_option maxHeartbeats 4000000 in
theorem ok_lgb {f : Addr} {fd : FuncData} (F : Fun K "_law_gate_bit" "_law_gate_bit" sLGateBit f fd) (T : Txt mg) : FnOk P w K mg base CX0 1 f fd ["word", "bits"] spGB := by
  refine F.ok scLGB (fun vs H Q E h => ?_) (fun cdv A outer s H vs Q E hr h => ?_)
  · obtain ⟨wd, l, bs, rfl, _⟩ := h
    rfl
  · obtain ⟨wd, l, bs, rfl, hl, hb, ho, k⟩ := h
    refine ⟨_, pss_cons (ps_set (i := 2) scLGB.nd rfl (Or.inl rfl) (pe_callB (call_sum rfl) (by rfl) T.sum PyProof.Rows.boot_sum (pa_c (pv 1) pa_nil)))
      (pss_cons (ps_if (pt_cmpR op_eq (pv 0) pe_str (nomark _)) (pss_one (ps_ret (pe_callTy call_int1 (by rfl) T.int PyProof.Rows.boot_int (pa_c (pe_cmpR op_eq (pv 2) (pe_callB call_len_seq (by rfl) T.len PySem.boot_len (pa_c (pv 1) pa_nil)) (nomark _)) pa_nil)))) pss_nil)
      (pss_cons (ps_if (pt_cmpR op_eq (pv 0) pe_str (nomark _)) (pss_one (ps_ret (pe_callTy call_int1 (by rfl) T.int PyProof.Rows.boot_int (pa_c (pe_cmpR op_gt (pv 2) pe_int (nomark _)) pa_nil)))) pss_nil)
      (pss_cons (ps_if (pt_cmpR op_eq (pv 0) pe_str (nomark _)) (pss_one (ps_ret (pe_op op_mod (pv 2) pe_int))) pss_nil)
      (pss_cons (ps_if (pt_cmpR op_eq (pv 0) pe_str (nomark _)) (pss_one (ps_ret (pe_callTy call_int1 (by rfl) T.int PyProof.Rows.boot_int (pa_c (pe_cmpR op_ge (pv 2) pe_int (nomark _)) pa_nil)))) pss_nil)
      (pss_cons (ps_if (pt_cmpR op_eq (pv 0) pe_str (nomark _)) (pss_one (ps_ret (pe_callTy call_int1 (by rfl) T.int PyProof.Rows.boot_int (pa_c (pe_cmpR op_eq (pv 2) pe_int (nomark _)) pa_nil)))) pss_nil)
      (pss_one (ps_ret (pe_bm PySem.F.plainAttrs_list PySem.F.slot_list_index PySem.F.type_list_index mt_index (pe_lst (pa_c pe_str (pa_c pe_str pa_nil))) (pa_c (pv 0) pa_nil))))))))), ?_⟩
    have k' : ∀ z, z = gateVal wd bs → Q (.int z) H := fun z e => by rw [e]; exact k H (Same.refl H)
    have ib : ∀ (c : Bool) (p : Prop) [Decidable p], (c = true ↔ p) → (if c = true then (1 : Int) else 0) = if p then 1 else 0 := by
      intro c p _ h
      by_cases hp : p
      · rw [if_pos hp, if_pos (h.mpr hp)]
      · rw [if_neg hp, if_neg (fun z => hp (h.mp z))]
    refine ⟨_, rfl, l, bs, rfl, SqL.of hl, ?_⟩
    refine ⟨_, rfl, rfl, _, rfl, ite2 (fun h1 => ?_) (fun h1 => ?_)⟩
    · have e1 : wd = "and" := of_decide_eq_true (vstr h1)
      refine ⟨_, rfl, _, rfl, l, _, rfl, .inl (SqL.of hl), rfl, .inr ⟨_, rfl, k' _ ?_⟩⟩
      unfold gateVal; rw [if_pos e1]
      refine ib _ _ ?_
      rw [decide_eq_true_iff, List.length_map]
      exact ⟨fun z => by injection z, fun z => by rw [z]⟩
    have n1 : ¬ wd = "and" := fun e => h1 (by rw [e]; simp)
    refine ⟨_, rfl, rfl, _, rfl, ite2 (fun h1 => ?_) (fun h2 => ?_)⟩
    · have e1 : wd = "or" := of_decide_eq_true (vstr h1)
      refine ⟨_, rfl, _, _, rfl, rfl, .inr ⟨_, rfl, k' _ ?_⟩⟩
      unfold gateVal; rw [if_neg n1, if_pos e1]
      refine ib _ _ ?_
      rw [decide_eq_true_iff]
    have n2 : ¬ wd = "or" := fun e => h2 (by rw [e]; simp)
    refine ⟨_, rfl, rfl, _, rfl, ite2 (fun h1 => ?_) (fun h3 => ?_)⟩
    · have e1 : wd = "odd" := of_decide_eq_true (vstr h1)
      refine ⟨_, rfl, _, _, rfl, rfl, (by show (0 : Int) < 2; decide), k' _ ?_⟩
      unfold gateVal; rw [if_neg n1, if_neg n2, if_pos e1]
    have n3 : ¬ wd = "odd" := fun e => h3 (by rw [e]; simp)
    refine ⟨_, rfl, rfl, _, rfl, ite2 (fun h1 => ?_) (fun h4 => ?_)⟩
    · have e1 : wd = "most" := of_decide_eq_true (vstr h1)
      refine ⟨_, rfl, _, _, rfl, rfl, .inr ⟨_, rfl, k' _ ?_⟩⟩
      unfold gateVal; rw [if_neg n1, if_neg n2, if_neg n3, if_pos e1]
      refine ib _ _ ?_
      rw [decide_eq_true_iff]
    have n4 : ¬ wd = "most" := fun e => h4 (by rw [e]; simp)
    refine ⟨_, rfl, rfl, _, rfl, ite2 (fun h1 => ?_) (fun h5 => ?_)⟩
    · have e1 : wd = "not" := of_decide_eq_true (vstr h1)
      refine ⟨_, rfl, rfl, .inr ⟨_, rfl, k' _ ?_⟩⟩
      unfold gateVal; rw [if_neg n1, if_neg n2, if_neg n3, if_neg n4, if_pos e1]
      refine ib _ _ ?_
      rw [decide_eq_true_iff]
      exact ⟨fun z => by injection z, fun z => by rw [z]⟩
    have n5 : ¬ wd = "not" := fun e => h5 (by rw [e]; simp)
    refine ⟨(by show 2 ≤ sizeLine; decide), fun p np => ⟨.inl ⟨rfl, _, SqL.of upd_same⟩, _, rfl, ?_⟩⟩
    have kk : ∀ z o, z = gateVal wd bs → Q (.int z) (upd H p o) := fun z o e => by rw [e]; exact k _ (Same.new np)
    have e12 : wd = "nil" ∨ wd = "one" := (arNe ho n1 n2 n3 n4 n5).symm
    rcases e12 with e | e
    · refine ⟨p, no2.map V.str, .str wd, 0, rfl, rfl, SqL.of upd_same, flat_strs _, rfl, by decide, fun z hz => ?_, fun m z hm _ => absurd hm (Nat.not_lt_zero _), kk _ _ ?_⟩
      · cases hz; rw [e]; decide +kernel
      · have n6 : ¬ wd = "one" := by rw [e]; decide +kernel
        unfold gateVal; rw [if_neg n1, if_neg n2, if_neg n3, if_neg n4, if_neg n5, if_neg n6]; rfl
    · refine ⟨p, no2.map V.str, .str wd, 1, rfl, rfl, SqL.of upd_same, flat_strs _, rfl, by decide, fun z hz => ?_, fun m z hm hz => ?_, kk _ _ ?_⟩
      · cases hz; rw [e]; decide +kernel
      · obtain rfl : m = 0 := by omega
        cases hz; rw [e]; decide +kernel
      · unfold gateVal; rw [if_neg n1, if_neg n2, if_neg n3, if_neg n4, if_neg n5, if_pos e]; rfl
end
end Lw

namespace PySem
open PyProof.Rows L2
theorem entry_dict_update_loop : entryFor table "dict.update.loop" = some Builtin.«dict.update.loop» := entryFor_of_tree (by kernel_rfl)
theorem plain_dict_update_loop : plainId "dict.update.loop" = true := by decide +kernel
theorem no_keys : typeLookup (.type "list") "keys" = pure none := am_miss_of_fast (by decide +kernel)
section
variable {prog : Program} {w : World} {A : Around}
/-- a list's own look-up, of a name that it has not -/
theorem own_lookup {E : Value → Shared → Prop} {s : Shared} {a : Addr} {its : Array Value} {n : Nat} {sl : Array (Option Value)} {u : Tok} {Q : Value → Shared → Prop}
    (l : s.heap.get? a = some { cls := .type "list", dict := none, data := .seq its n, slots := sl }) (calm : A.handled = none) (out : ∀ h' tk e, Heap.NewAttrErr s.heap h' e (.ref a) "keys" → E (.ref e) { s with heap := h', toks := tk }) :
    wpAny (model prog w) A (boundAndCalled (.builtin "list.__getattribute__") (.ref a) (.str "keys" u)) Q E s := by
  have ask : wpAny (model prog w) A (call (.builtin "list.__getattribute__") [.ref a, .str "keys" u]) Q E s :=
    call_meets F.slot_list_getattribute ⟨_, l, rfl⟩ am_entry_list_getattribute (F.args_list_getattribute_2 _ _) (meets_getattribute_miss_list a its n sl "keys" u no_keys (by decide +kernel)) ⟨l, calm, out⟩
  unfold boundAndCalled
  rw [F.slot_list_getattribute.bind (.ref a)]
  exact wpAny_bind (wpAny_pure ask)
/-- behind it: no hook, so the error goes on -/
theorem goes_on {E : Value → Shared → Prop} {s : Shared} {o name : Value} {e : Addr} {Q : Value → Shared → Prop} (t : s.TypeIs (.ref e) "AttributeError") (out : E (.ref e) s) :
    wpAny (model prog w) A (getattributeRaised o name (.type "list") (.ref e) none false false) Q E s := by
  have last : wpAny (model prog w) A (hookOrError o name (.ref e) false false none) Q E s := wpAny_bind (wpAny_throw out)
  have none' : hookBehind (.type "list") none = pure none := am_list_getattr_none
  unfold getattributeRaised
  refine wpAny_bind (wpAny_isInstance t sub_AttributeError ?_)
  rw [if_pos rfl, none']
  exact wpAny_bind (wpAny_pure last)
/-- a list asked quietly for `keys` -/
theorem keys_missed {E : Value → Shared → Prop} {s : Shared} {a : Addr} {its : Array Value} {n : Nat} {sl : Array (Option Value)} {Q : Option Value → Shared → Prop}
    (l : s.heap.get? a = some { cls := .type "list", dict := none, data := .seq its n, slots := sl }) (calm : A.handled = none) (out : ∀ h' tk e, Heap.NewExcOf s.heap h' e "AttributeError" → Q none { s with heap := h', toks := tk }) :
    wpAny (model prog w) A (getAttr? (.ref a) "keys") Q E s := by
  -- the error that comes out of the list's own look-up ends as none
  have ends : ∀ h' tk e, Heap.NewAttrErr s.heap h' e (.ref a) "keys" → (∃ o, h'.get? e = some o ∧ o.cls = .type "AttributeError") ∧ Q none { s with heap := h', toks := tk } := fun h' tk e x => by
    obtain ⟨_, _, y⟩ := x.there
    exact ⟨⟨_, y, rfl⟩, out h' tk e x.of⟩
  let s1 : Shared := { s with toks := s.toks + 1 }
  let got : Except Value Value → Shared → Prop := fun r s2 => wpAny (model prog w) A (match r with | .ok v => pure (some v) | .error e => do if ← isInstance e (.type "AttributeError") then pure none else throw e) Q E s2
  have look : wpAny (model prog w) A (getAttrBy (.ref a) (.str "keys" s.toks) false) (fun v => got (.ok v)) (fun e => got (.error e)) s1 := by
    refine wpAny_holding (wpAny_bind (wpAny_typeOf (T := "list") ⟨_, l, rfl⟩ (wpAny_bind (wpAny_of_eq F.slot_list_getattribute.lookup ?_))))
    have own : wpAny (model prog w) A (getAttrByItsOwn (.ref a) (.str "keys" s.toks) (.type "list") (.builtin "list.__getattribute__") false false) (fun v => got (.ok v)) (fun e => got (.error e)) s1 := by
      refine wpAny_bind (wpAny_pure (wpAny_bind (wpAny_attempt (wpAny_holding (own_lookup (s := s1) l calm fun h' tk e x => ?_)))))
      obtain ⟨⟨o, y1, y2⟩, q⟩ := ends h' tk e x
      exact goes_on ⟨o, y1, y2⟩ (wpAny_bind (wpAny_isInstance (T := "AttributeError") ⟨o, y1, y2⟩ sub_AttributeError (wpAny_pure q)))
    exact own
  exact wpAny_bind (wpAny_mkText (wpAny_bind (wpAny_attempt look)))
end
section
variable {prog : Program} {w : World} {K : Type} [DecidableEq K] {knd : KeyKind prog w K} {A : Around} {E : Value → Shared → Prop} {R : Result → Shared → Prop} {J : Addr} {fp wr : List Addr} {G : Array GenState → Array GenState → Prop} {n : Nat} {P : Nat → Value → Prop} {St : Nat → Shared → Prop}
/-- the pairs of an iterator, tuples of two, into a dict -/
theorem pairs_loop (W : WalksS prog w A.in1 J fp wr G n P St) (d : Addr) (hdf : d ∉ fp) (h0 : Heap) (more : List (K × Value)) (hn : more.length = n)
    (hT : ∀ i v, P i v → ∃ (t : Addr) (o : Obj) (m : Nat) (k : K) (kv x : Value), v = .ref t ∧ t ∉ d :: wr ∧ h0.get? t = some o ∧ o.cls = .type "tuple" ∧ o.data = .seq #[kv, x] m ∧ knd.is k kv = true ∧ more[i]? = some (k, x)) (hb : n ≤ sizeLine) :
    ∀ (k i : Nat) (s : Shared), n - i = k → i ≤ n → St i s → (∀ b o, b ∉ d :: wr → h0.get? b = some o → s.heap.get? b = some o) → s.heap.DictOf knd d (merged [] (more.take i)) →
      (∀ s', Moved (d :: wr) G s s' → s'.heap.DictOf knd d (merged [] more) → R (.ok (.ret .none)) s') →
      codeAny (model prog w) A (.builtin "dict.update.loop" ⟨[.ref d, .ref J, .int (i : Int) 0, .none], []⟩) R s := by
  have hdw : d ∉ wr := fun z => hdf (W.sub _ z)
  have hsub : ∀ b ∈ wr, b ∈ d :: wr := fun b z => List.mem_cons_of_mem _ z
  intro k
  induction k with
  | zero =>
    intro i s hk hi st hkeep hS hR
    have ei : i = n := by omega
    subst ei
    rw [List.take_of_length_le (by omega)] at hS
    refine codeAny_builtin entry_dict_update_loop ?_
    rw [Around.under_plainId plain_dict_update_loop _]
    show wpAny _ A.in1 (pyNext (.ref J) >>= _) _ _ s
    refine wpAny_bind (W.done s _ _ st fun s' mv => ?_)
    show wpAny _ A.in1 (Builtin.Dict.addKeywords d [] >>= _) _ _ s'
    refine wpAny_bind (wpAny_pure ?_)
    obtain ⟨o, es, ep, ho, rest⟩ := hS
    exact wpAny_pure (hR s' (mv.mono hsub) ⟨o, es, ep, mv.heap d _ hdw ho, rest⟩)
  | succ k ih =>
    intro i s hk hi st hkeep hS hR
    have hlt : i < n := by omega
    refine codeAny_builtin entry_dict_update_loop ?_
    rw [Around.under_plainId plain_dict_update_loop _]
    show wpAny _ A.in1 (pyNext (.ref J) >>= _) _ _ s
    refine wpAny_bind (W.item i s _ _ hlt st fun v s' hv st' mv => ?_)
    obtain ⟨t, o, m, ky, kv, x, rfl, ht, hto, htc, htd, hkey, hmore⟩ := hT i v hv
    have hS1 : s'.heap.DictOf knd d (merged [] (more.take i)) := by
      obtain ⟨o, es, ep, ho, rest⟩ := hS
      exact ⟨o, es, ep, mv.heap d _ hdw ho, rest⟩
    have hto' : s'.heap.get? t = some o := mv.heap t o (fun z => ht (hsub _ z)) (hkeep t o ht hto)
    show wpAny _ A.in1 (holding [Value.ref t] _ >>= _) _ _ s'
    refine wpAny_bind (wpAny_holding ?_)
    refine wpAny_bind (wpAny_tryCatch ?_)
    unfold Builtin.Dict.pairItems
    refine wpAny_bind (wpAny_typeOf (T := "tuple") ⟨o, hto', htc⟩ ?_)
    rw [if_pos (by decide)]
    refine wpAny_bind (wpAny_seqItems hto' htd ?_)
    refine wpAny_pure ?_
    show wpAny _ A.in1 (holding [kv, x] (dictSet d kv x)) _ _ s'
    refine wpAny_holding ?_
    have hroom : (merged [] (more.take i)).length ≤ sizeLine := by
      have e1 := merged_length_le ([] : List (K × Value)) (more.take i)
      rw [List.length_nil, List.length_take] at e1
      omega
    refine wpAny_dictSet_pairs (hsz := hroom) hkey hS1 fun h' hS2 sb => ?_
    rw [← merged_take_succ [] more i (ky, x) hmore] at hS2
    refine wpAny_pure ⟨plainId_quiet plain_dict_update_loop _, ?_⟩
    have e1 : (rawInt ((i : Int) + 1)) = Value.int ((i + 1 : Nat) : Int) 0 := by rfl
    rw [e1]
    refine ih (i + 1) _ (by omega) hlt (W.frame _ s' _ _ st' (Nat.le_succ _) fun b hb o e => ?_) (fun b o hb e => ?_) hS2 fun s'' mv'' hS'' => ?_
    · rw [sb.2 b (fun z : b = d => hdf (by rw [← z]; exact hb))]; exact e
    · rw [sb.2 b (fun z : b = d => hb (by rw [z]; exact List.mem_cons_self))]
      exact mv.heap b o (fun z => hb (hsub _ z)) (hkeep b o hb e)
    · refine hR s'' (Moved.trans W.gtrans ((mv.mono hsub).then_heap (Nat.le_succ _) fun b o hb e => ?_) mv'') hS''
      rw [sb.2 b (fun z : b = d => hb (by rw [z]; exact List.mem_cons_self))]; exact e
end
section
variable {prog : Program} {w : World} {K : Type} [DecidableEq K] {knd : KeyKind prog w K} {A : Around}
abbrev listIt (l : Addr) : Obj := { cls := .type "list_iterator", data := .fields #[.ref l, .int 0 0] }
abbrev plainList (its : Array Value) (n : Nat) (sl : Array (Option Value)) : Obj := { cls := .type "list", dict := none, data := .seq its n, slots := sl }
/-- dict.__init__ with a list: it goes on to the pairs -/
theorem init_on {E : Value → Shared → Prop} {s : Shared} {d l : Addr} {its : Array Value} {n : Nat} {sl : Array (Option Value)} {Q : Fin → Shared → Prop} (t : s.TypeIs (.ref d) "dict") (hl : s.heap.get? l = some (plainList its n sl)) (calm : A.handled = none)
    (on : ∀ h2 tk e, Heap.NewExcOf s.heap h2 e "AttributeError" → Q (.again (.builtin "dict.update.loop" ⟨[.ref d, .ref h2.objs.size, .int 0 0, .none], []⟩)) { s with heap := h2.push (listIt l), toks := tk }) :
    wpAny (model prog w) A (Builtin.«dict.__init__» ⟨[.ref d, .ref l], []⟩) Q E s := by
  have first : wpAny (model prog w) A (Builtin.Dict.selfAndRest "__init__" ⟨[.ref d, .ref l], []⟩) (fun p s1 => p = (d, [Value.ref l]) ∧ s1 = s) E s := wpAny_bind (wpAny_notOrdered_dict t (wpAny_pure ⟨rfl, rfl⟩))
  have pairs : wpAny (model prog w) A (Builtin.Dict.updateFrom "dict.__init__" d (.ref l) [] .none) Q E s := by
    refine wpAny_bind (wpAny_typeOf (T := "list") ⟨_, hl, rfl⟩ ?_)
    rw [if_pos (by decide)]
    refine wpAny_bind (keys_missed hl calm fun h2 tk e x => ?_)
    exact wpAny_bind (wpAny_rule (wpAny_bind (wpAny_pyIter_list ⟨_, x.keeps _ _ hl, rfl, n, rfl⟩ (wpAny_pure (on h2 tk e x)))))
  exact wpAny_bind (wpAny_mono first (fun p s1 q => by obtain ⟨rfl, rfl⟩ := q; exact pairs) fun _ _ q => q)
def withDict (s : Shared) : Shared := { s with heap := s.heap.push { cls := .type "dict", data := .dict #[] } }
set_option maxHeartbeats 800000 in
/-- dict(xs), xs a list of tuples of two -/
theorem call_dict_pairs {E : Value → Shared → Prop} {s : Shared} {l : Addr} {o : Obj} {items : Array Value} {nl : Nat} {more : List (K × Value)} {Q : Value → Shared → Prop} (hh : A.handled = none) (hl : s.heap.get? l = some o) (hc : o.cls = .type "list") (hd : o.dict = none) (hda : o.data = .seq items nl)
    (hn : more.length = items.size)
    (hT : ∀ (i : Nat) v, items[i]? = some v → ∃ (t : Addr) (o : Obj) (m : Nat) (k : K) (kv x : Value), v = .ref t ∧ s.heap.get? t = some o ∧ o.cls = .type "tuple" ∧ o.data = .seq #[kv, x] m ∧ knd.is k kv = true ∧ more[i]? = some (k, x)) (hb : items.size ≤ sizeLine)
    (h : ∀ (h' : Heap) (tk : Nat), h'.DictOf knd s.heap.objs.size (merged [] more) → (∀ b o, s.heap.get? b = some o → h'.get? b = some o) → Q (.ref s.heap.objs.size) { s with heap := h', toks := tk }) :
    wpAny (model prog w) A (call (.type "dict") [.ref l]) Q E s := by
  obtain ⟨oc, od, oda, osl⟩ := o
  cases hc
  cases hd
  cases hda
  let D := s.heap.objs.size
  have made : (withDict s).heap.DictOf knd D [] := Heap.DictOf.new s.heap
  have old : ∀ b o, s.heap.get? b = some o → (withDict s).heap.get? b = some o := fun b o e => Heap.get?_push_of_some _ e
  refine callType_codes F.kt_called_dict (F.kt_typeCall_dict_1 _) F.entry_dict_init (kt_code_dict_new _ (Q₁ := fun v s1 => v = .ref D ∧ s1 = withDict s) ⟨rfl, rfl⟩) fun v s1 q => ?_
  obtain ⟨rfl, rfl⟩ := q
  refine ⟨made.typeIs, F.args_dict_init_2 _ _, init_on made.typeIs (old _ _ hl) (by simp [hh]) fun h2 tk e x => ⟨plainId_quiet plain_dict_update_loop _, ?_⟩⟩
  -- where things lie
  have at2 : h2.DictOf knd D [] := by
    obtain ⟨o, es, ep, p, r⟩ := made
    exact ⟨o, es, ep, x.keeps _ _ p, r⟩
  have ltD : D < h2.objs.size := by
    obtain ⟨o, es, ep, p, r⟩ := at2
    exact Heap.lt_size p
  have ltL : l < D := Heap.lt_size hl
  have keeps : ∀ b o, s.heap.get? b = some o → (h2.push (listIt l)).get? b = some o := fun b o e => Heap.get?_push_of_some _ (x.keeps _ _ (old b o e))
  have apart : ∀ {b : Addr}, b < D → b ∉ [D, h2.objs.size] := fun {b} hb' z => by
    rcases List.mem_cons.mp z with q | q
    · exact Nat.ne_of_lt hb' q
    · exact Nat.ne_of_lt (Nat.lt_trans hb' ltD) (List.mem_singleton.mp q)
  have notIn : D ∉ [h2.objs.size, l] := fun z => by
    rcases List.mem_cons.mp z with q | q
    · exact Nat.ne_of_lt ltD q
    · exact Nat.ne_of_gt ltL (List.mem_singleton.mp q)
  have list2 : (h2.push (listIt l)).IsList l items := ⟨_, keeps _ _ hl, rfl, nl, rfl⟩
  refine pairs_loop (knd := knd) ((Walks.list (by simp [hh]) h2.objs.size l (Nat.ne_of_lt (Nat.lt_trans ltL ltD)) items).toS) D notIn s.heap more hn (fun i v hv => ?_) hb items.size 0 _ (by omega) (Nat.zero_le _) ⟨⟨_, Heap.get?_push_size _ rfl, rfl, rfl⟩, list2⟩ (fun b o _ e => keeps b o e) ?_ fun s' mv fin => ?_
  · obtain ⟨t, ot, m, k, kv, y, rfl, ht, r⟩ := hT i v hv
    exact ⟨t, ot, m, k, kv, y, rfl, apart (Heap.lt_size ht), ht, r⟩
  · simpa [merged] using at2.push _
  · have res := h s'.heap s'.toks fin fun b o e => mv.heap b o (apart (Heap.lt_size e)) (keeps b o e)
    rw [show s' = { s with heap := s'.heap, toks := s'.toks } from same_but mv.gens mv.drawn mv.os]
    exact ⟨rfl, res⟩
end
end PySem
namespace L2
open PySem PySem.Spec PyProof.Rows
section
variable {X : Cx}
/-- tuples of two, key and value -/
def PairsAt (H : Hp) (ts : List Addr) (kvs : List (Key × V)) : Prop := Paired (fun t (kv : Key × V) => H t = some (.tup [kV kv.1, kv.2])) ts kvs
theorem pairs_more {P : Program} {w : World} {H : Hp} {h : Heap} (hok : HOk P w H h) : ∀ {ts : List Addr} {kvs : List (Key × V)}, PairsAt H ts kvs → ∃ more : List (Key × Value), KV kvs more ∧
    ∀ (i : Nat) t, ts[i]? = some t → ∃ (o : Obj) (m : Nat) (k : Key) (kv x : Value), h.get? t = some o ∧ o.cls = .type "tuple" ∧ o.data = .seq #[kv, x] m ∧ (mixKind P w).is k kv = true ∧ more[i]? = some (k, x) := by
  intro ts kvs r
  unfold PairsAt at r
  induction r with
  | nil => exact ⟨[], .nil, fun i t e => by simp at e⟩
  | @cons t kv ts kvs h1 h2 ih =>
    obtain ⟨more, rk, hm⟩ := ih
    obtain ⟨z, its, rv, ⟨o, ho, hc, n, hdt⟩⟩ := hok t _ h1
    cases rv with
    | @cons _ u1 _ us r1 rv =>
      cases rv with
      | @cons _ u2 _ us2 r2 rv =>
        cases rv
        refine ⟨(kv.1, u2) :: more, .cons ⟨rfl, r2⟩ rk, fun i t' e => ?_⟩
        cases i with
        | zero =>
          simp at e
          subst e
          exact ⟨o, n, kv.1, u1, u2, ho, hc, hdt, kV_is r1, rfl⟩
        | succ i => simpa using hm i t' (by simpa using e)
theorem call_dictPairs (hcalm : X.calm = true) : CallR X (.type "dict") (fun xs H Q => ∃ (p : Addr) (ts : List Addr) (kvs : List (Key × V)), xs = [.ref p] ∧ SqL X.K H p (ts.map V.ref) ∧ PairsAt H ts kvs ∧ kvs.length ≤ 1000 ∧ ∀ d, H d = none → Q (.ref d) (upd H d (.dK (mergeK [] kvs)))) := by
  intro pins s σ H xs us Q I r h
  obtain ⟨p, ts, kvs, rfl, hq, hp, hz, q⟩ := h
  obtain ⟨u, rfl, ru⟩ := vals1 r
  cases ru
  obtain ⟨its, r', ⟨o, n, e, e1, e2, e3⟩, _⟩ := I.list hq
  have hlen := r'.length
  rw [List.length_map] at hlen
  have hkl : ts.length = kvs.length := hp.length
  obtain ⟨more, rk, hm⟩ := pairs_more I.hok hp
  have hml := rk.length
  have hrefs : ∀ (i : Nat) v, its[i]? = some v → ∃ t, ts[i]? = some t ∧ v = .ref t := by
    intro i v hv
    have hi : i < its.length := (List.getElem?_eq_some_iff.mp hv).1
    have : i < ts.length := by omega
    obtain ⟨u, hu, ru⟩ := r'.get (i := i) (x := V.ref ts[i]) (by simp [this])
    rw [hu] at hv
    cases hv
    cases ru
    exact ⟨ts[i], by simp [this], rfl⟩
  refine call_dict_pairs (knd := mixKind X.prog X.w) (more := more) (I.ok.hd hcalm) e e1 e2 e3 (by rw [List.size_toArray]; omega) ?_ (by rw [List.size_toArray]; exact Nat.le_of_lt (Nat.lt_of_le_of_lt (show its.length ≤ 1000 by omega) (by decide))) fun h' tk hD hk => ?_
  · intro i v hv
    obtain ⟨t, ht, rfl⟩ := hrefs i v (by simpa using hv)
    obtain ⟨o, m, k, kv, x, h1, h2, h3, h4, h5⟩ := hm i t ht
    exact ⟨t, o, m, k, kv, x, rfl, h1, h2, h3, h4, h5⟩
  · have hz2 : (mergeK [] kvs).length ≤ sizeLine := by
      have h1 := length_mergeK kvs []
      rw [List.length_nil] at h1
      exact Nat.le_of_lt (Nat.lt_of_le_of_lt (show (mergeK [] kvs).length ≤ 1000 by omega) (by decide))
    refine ⟨.ref s.heap.objs.size, _, I.laid (a := s.heap.objs.size) (o := .dK (mergeK [] kvs)) (t' := tk) hk (Nat.le_refl _) ?_, rfl, q _ I.fresh⟩
    exact dk_new hz2 (beq_eq_false_iff_ne.mpr (Ne.symm (Nat.ne_of_lt I.big))) (rk.merge .nil) hD
end
end L2

namespace Lw
open PySem L2
def fV (ρ : Str → Int) : V → V
  | .str x => .int (ρ x)
  | v => v
theorem map_fV (ρ : Str → Int) (ps : List Str) : (ps.map V.str).map (fV ρ) = (ps.map ρ).map V.int := by
  rw [List.map_map, List.map_map]; rfl
theorem str_item {xs : List Str} {i : Nat} {x : V} (h : (xs.map V.str)[i]? = some x) : ∃ y, xs[i]? = some y ∧ V.str y = x := by
  rw [List.getElem?_map] at h
  cases e : xs[i]? with
  | none => rw [e] at h; cases h
  | some y => rw [e] at h; exact ⟨y, rfl, Option.some.inj h⟩
theorem ref_item {xs : List Addr} {i : Nat} {x : V} (h : (xs.map V.ref)[i]? = some x) : ∃ y, xs[i]? = some y ∧ V.ref y = x := by
  rw [List.getElem?_map] at h
  cases e : xs[i]? with
  | none => rw [e] at h; cases h
  | some y => rw [e] at h; exact ⟨y, rfl, Option.some.inj h⟩
theorem take_snoc {α : Type} {xs : List α} {i : Nat} {y : α} (h : xs[i]? = some y) : xs.take (i + 1) = xs.take i ++ [y] := by rw [List.take_add_one, h]; rfl
theorem dget {H : Hp} {a : Addr} {kvs : List (Key × V)} {x : Str} {v : V} (h : H a = some (.dK kvs)) (hv : valV kvs (Sum.inr x) = some v) : DGet H a (.str x) (some v) := by
  have := DGet.k (k := (Sum.inr x : Key)) h
  rw [hv] at this
  exact this
theorem Has.step {kvs : List (Key × V)} {xs : List Str} {ρ : Str → Int} (h : Has kvs xs ρ) {n : Str} (hv : Bit (ρ n)) : Has (putK kvs (Sum.inr n) (.int (ρ n))) (xs ++ [n]) ρ := by
  have := h.put (n := n) (v := ρ n) hv
  have e : (fun x => if x = n then ρ n else ρ x) = ρ := by
    funext x
    by_cases z : x = n
    · rw [if_pos z, z]
    · rw [if_neg z]
  rw [e] at this
  exact this
def spTold : Sp := fun vs H Q _ => ∃ (ce b : Addr) (C : Cel) (kvs : List (Key × V)) (ρ : Str → Int), vs = [.ref ce, .ref b] ∧ CellAt H ce C ∧ Good C ∧ H b = some (.dK kvs) ∧ Has kvs C.ins ρ ∧
  ∀ (t : Addr) (H' : Hp), H t = none → H' t = some (.tup ((C.outs.map (evalC C ρ)).map V.int)) → Same H H' → Q (.ref t) H'
def spAll : Sp := fun vs H Q _ => ∃ (ce b : Addr) (C : Cel) (kvs : List (Key × V)) (ρ : Str → Int), vs = [.ref ce, .ref b] ∧ CellAt H ce C ∧ Good C ∧ H b = some (.dK kvs) ∧ Has kvs C.ins ρ ∧
  ∀ (kd : Addr) (kvs' : List (Key × V)) (H' : Hp), H kd = none → H' kd = some (.dK kvs') → Has kvs' C.names (evalC C ρ) → Same H H' → Q (.ref kd) H'
def spThere (K : PySem.W.Frag) : Sp := fun vs H Q _ => ∃ (na b : Addr) (xs : List Str) (kvs : List (Key × V)), vs = [.ref na, .ref b] ∧ SqT K H na (xs.map V.str) ∧ H b = some (.dK kvs) ∧ (∀ x ∈ xs, ∃ v, valV kvs (Sum.inr x) = some v) ∧ Q .non H
theorem has_merge {ρ : Str → Int} : ∀ (ys : List Str) (kvs : List (Key × V)) (xs : List Str), Has kvs xs ρ → (∀ y ∈ ys, Bit (ρ y)) → Has (mergeK kvs (ys.map fun x => ((Sum.inr x : Key), V.int (ρ x)))) (xs ++ ys) ρ
  | [], kvs, xs, h, _ => by simpa [mergeK] using h
  | y :: ys, kvs, xs, h, hb => by
    have := has_merge ys (putK kvs (Sum.inr y) (.int (ρ y))) (xs ++ [y]) (h.step (hb y List.mem_cons_self)) (fun z hz => hb z (List.mem_cons_of_mem _ hz))
    simpa [mergeK] using this
/-- a comprehension of tuples -/
theorem lcTups {J : It} {xs : List V} {R : Hp → Prop} {nm : Str} {caps : List Nat} {te : TE} {σ : St} {H1 : Hp} {Q : VK} {D : Addr} (Y : Yields J xs R) (f : V → List V) (nD : H1 D = none) (hR : ∀ H, Same H1 H → R H) (hl : xs.length ≤ 1000)
    (hs : ∀ (i : Nat) x H (k : VK), xs[i]? = some x → Same H1 H → (∀ t H', Same H H' → H t = none → H' t = some (.tup (f x)) → k (.ref t) H') → te (some x :: caps.map (fun i => (σ[i]?).join)) H k)
    (hd : ∀ H (ts : List Addr), Same H1 H → H D = some (.lst (ts.map V.ref)) → Paired (fun t x => H t = some (.tup (f x))) ts xs → Q (.ref D) H) : LCW [nm] caps J (gName 0) tYes te σ H1 Q D := by
  refine lc1y Y (fun i ys H => i ≤ xs.length ∧ ∃ ts : List Addr, ys = ts.map V.ref ∧ ts.length = i ∧ Paired (fun t x => H t = some (.tup (f x))) ts (xs.take i) ∧ Same H1 H ∧ H D = some (.lst ys)) ⟨Nat.zero_le _, [], rfl, rfl, .nil, Same.new nD, upd_same⟩ (fun i ys H _ p => by obtain ⟨_, _, _, _, _, s, _⟩ := p; exact hR H s) ?_ ?_
  · rintro i x ys H hx ⟨hi, ts, rfl, hti, hp, sm, hD⟩
    have hlt := (List.getElem?_eq_some_iff.mp hx).1
    have et : xs.take (i + 1) = xs.take i ++ [x] := by rw [List.take_add_one, hx]; rfl
    refine hs i x _ _ hx sm fun t H' sm' nt ht => ⟨⟨_, rfl⟩, sm' _ _ hD, ?_, hlt, ts ++ [t], by simp, by simp [hti], ?_, ?_, ?_⟩
    · rw [List.length_map]; exact Nat.lt_of_le_of_lt (show ts.length ≤ 1000 by omega) (by decide)
    · rw [et]
      refine paired_snoc (L2.Paired.mapP hp fun a b z => ?_) ?_
      · rw [upd_ne (ne_of z hD (fun q => nomatch q))]; exact sm' _ _ z
      · rw [upd_ne (ne_of ht (sm' _ _ hD) (fun q => nomatch q))]; exact ht
    · intro b u e
      rw [upd_ne (ne_of_none e nD)]
      exact sm' _ _ (sm b u e)
    · simp [upd_same]
  · rintro ys H ⟨_, ts, rfl, hti, hp, sm, hD⟩
    rw [List.take_of_length_le (Nat.le_refl _)] at hp
    exact hd H ts sm hD hp
theorem pairs_of_ins {H : Hp} {ρ : Str → Int} : ∀ {ins : List Str} {ts : List Addr}, Paired (fun t x => H t = some (.tup [x, fV ρ x])) ts (ins.map V.str) → PairsAt H ts (ins.map fun x => ((Sum.inr x : Key), V.int (ρ x)))
  | [], _, h => by
    rw [List.map_nil] at h
    cases h
    exact .nil
  | x :: ins, _, h => by
    rw [List.map_cons] at h
    cases h with
    | cons h1 h2 => exact .cons h1 (pairs_of_ins h2)
section
variable {P : Program} {w : World} {K : PySem.W.Frag} {mg : Str → Option Value} {base : Heap}
theorem scThere : FnScope ["names", "given", "name"] ["names", "given"] (defScope sThere) := ⟨rfl, rfl, rfl, by decide +kernel, rfl, by decide +kernel, by decide +kernel⟩
set_option maxHeartbeats 1000000 in
theorem ok_there {f : Addr} {fd : FuncData} (F : Fun K "check_there" "check_there" sThere f fd) : FnOk P w K mg base CX0 1 f fd ["names", "given"] (spThere K) := by
  refine F.ok scThere (fun vs H Q E h => ?_) (fun cdv A outer s H vs Q E hr h => ?_)
  · obtain ⟨na, b, xs, kvs, rfl, _⟩ := h
    rfl
  · obtain ⟨na, b, xs, kvs, rfl, hn, hb, hv, k⟩ := h
    have hu := hu_of hr
    refine ⟨_, pss_one (ps_for PassesOwn.never rfl (pi_tup (pv 0)) (pg_name (i := 2) scThere.nd rfl (Or.inl rfl)) (pss_one (ps_if (pt_cmp (pc_dnotin hu (pv 2) (pv 1))) (pss_one ps_never) pss_nil))), ?_⟩
    refine ⟨_, rfl, na, rfl, ⟨_, hn⟩, ?_⟩
    refine for_tup (K := K) (a := na) (xs := xs.map V.str) (fun i σ H2 => H2 = H ∧ ∃ v3, σ = [some (.ref na), some (.ref b), v3]) ⟨rfl, none, rfl⟩ (fun i σ H2 _ ⟨e, _⟩ => by rw [e]; exact hn) ?_ ?_
    · rintro i x σ H2 hx ⟨rfl, v3, rfl⟩
      obtain ⟨y, hy, rfl⟩ := str_item hx
      obtain ⟨v, hv'⟩ := hv y (List.mem_of_getElem? hy)
      exact ⟨_, rfl, _, rfl, b, _, rfl, dget hb hv', _, rfl, iteF ⟨rfl, _, rfl⟩⟩
    · rintro σ H2 ⟨rfl, _⟩
      exact k
theorem ndNB : (["name", "bits"] : List Str).Nodup := by decide +kernel
theorem scTold : FnScope ["cell", "bits", "told", "name", "word", "names"] ["cell", "bits"] (defScope sToldBy) := ⟨rfl, rfl, rfl, by decide +kernel, rfl, by decide +kernel, by decide +kernel⟩
theorem ndKT : (["known", "told"] : List Str).Nodup := by decide +kernel
theorem ndNT : (["name", "told"] : List Str).Nodup := by decide +kernel
set_option maxHeartbeats 4000000 in
theorem told_tail {f fG : Addr} {fdG : FuncData} {cdv : Value} {A : Around} {outer : List Env} {s : Shared} {H : Hp} {Q : VK} {E : XK} (T : Txt mg) (gG : Gd K mg "gate_bit" sGateBit ["word", "bits"] fG fdG) (hr : Room 1 (A.deeper (PyProof.Rows.envOfC "told_by" (defScope sToldBy) s.heap.objs.size f cdv)))
    {ce b : Addr} {C : Cel} {kvs : List (Key × V)} {ρ : Str → Int} (hC : CellAt H ce C) (hG : Good C) (hb : H b = some (.dK kvs)) (hH : Has kvs C.ins ρ) (k : ∀ (t : Addr) (H' : Hp), H t = none → H' t = some (.tup ((C.outs.map (evalC C ρ)).map V.int)) → Same H H' → Q (.ref t) H') :
    ∃ t, PSs (cxOf CX0 P w K mg base ["cell", "bits", "told", "name", "word", "names"] "told_by" (defScope sToldBy) f cdv A outer s H E).nox (defBody sToldBy).tail t ∧ t { nx := fun _ H' => Q .non H', rt := Q } [some (.ref ce), some (.ref b), none, none, none, none] H := by
  have GB : FnOk P w K mg base CX0 1 fG fdG ["word", "bits"] spGB := ok_gb gG.F T
  have hu := hu_of hr
  obtain ⟨ia, ga, oa, as, c1, c2, c3, c4, c5⟩ := hC.ex
  have li := hG.li
  have lg := hG.lg
  have lo := hG.lo
  -- the inputs
  refine ex_cut (fun σ H2 => ∃ (kv : List (Key × V)) (td : Addr), σ = [some (.ref ce), some (.ref b), some (.ref td), none, none, none] ∧ H2 td = some (.dK kv) ∧ Has kv C.ins ρ ∧ kv.length ≤ 6 ∧ H td = none ∧ Same H H2) (fun u hu' => ?_) ?_
  · refine ⟨_, ps_set (i := 2) scTold.nd rfl (Or.inr rfl) (pe_callTy (call_dictPairs rfl) (by rfl) T.dict PyProof.Rows.boot_dict (pa_c (pe_lc ["name"] ["bits"] [1] rfl (pi_tup (pe_ix ix_tup (pv 0) pe_int (fun _ _ => rfl))) rfl rfl (fun s₀ H₀ C cl fp => pg_name (i := 0) ndNB rfl (Or.inl rfl)) (fun s₀ H₀ C cl fp => pifs_nil)
      (fun s₀ H₀ C cl fp => pe_tup (pa_c (pv 0) (pa_c (pe_dget hu (pv 1) (pv 0) (fun _ _ => rfl)) pa_nil)))) pa_nil)), ?_⟩
    refine ⟨_, rfl, ce, _, _, .ref ia, rfl, rfl, SqT.of c1, rfl, ia, rfl, ⟨_, SqT.of c2⟩, fun D0 nD0 => ?_⟩
    refine lcTups yields_tup (fun x => [x, fV ρ x]) nD0 (fun H4 s4 => SqT.of (s4 _ _ c2)) (by rw [List.length_map]; omega) ?_ ?_
    · intro j x H4 kk hx s4 hk
      obtain ⟨y, hy, rfl⟩ := str_item hx
      have hv := (hH y (List.mem_of_getElem? hy)).1
      exact ⟨_, rfl, _, rfl, _, rfl, b, _, rfl, dget (s4 _ _ hb) hv, (by show 2 ≤ sizeLine; decide), fun p np => hk p _ (Same.new np) np upd_same⟩
    · intro H4 ts s4 hD hp
      refine ⟨D0, ts, C.ins.map fun x => ((Sum.inr x : Key), V.int (ρ x)), rfl, SqL.of hD, ?_, by rw [List.length_map]; omega, fun d nd => hu' _ _ ⟨_, d, rfl, upd_same, ?_, ?_, s4.free nd, s4.trans (Same.new nd)⟩⟩
      · exact pairs_of_ins hp
      · simpa using has_merge (ρ := ρ) C.ins [] [] (fun x hx => by simp at hx) (fun y hy => (hH y hy).2)
      · have := length_mergeK (C.ins.map fun x => ((Sum.inr x : Key), V.int (ρ x))) []
        rw [List.length_map, List.length_nil] at this
        omega
  rintro σ H2 ⟨kv, td, rfl, ht2, hh2, hl2, ntd, s2⟩
  -- the gates
  refine ex_cut (fun σ H3 => ∃ (kv : List (Key × V)) (v3 v4 v5 : Option V), σ = [some (.ref ce), some (.ref b), some (.ref td), v3, v4, v5] ∧ H3 td = some (.dK kv) ∧ Has kv C.names (evalC C ρ) ∧ Same H H3) (fun u hu' => ?_) ?_
  · refine ⟨_, ps_for PassesOwn.never rfl (pi_tup (pe_ix ix_tup (pv 0) pe_int (fun _ _ => rfl))) (pg_tup rfl (pgs_cons (pg_name (i := 3) scTold.nd rfl (Or.inl rfl)) (pgs_cons (pg_name (i := 4) scTold.nd rfl (Or.inl rfl)) (pgs_cons (pg_name (i := 5) scTold.nd rfl (Or.inl rfl)) pgs_nil))))
      (pss_one (ps_dput hu (pv 2) (pv 3) (pe_call GB hr rfl gG.m gG.k gG.b .nil pass0 (pa_c (pv 4) (pa_c (pe_lc ["known"] ["told"] [2] rfl (pi_tup (pv 5)) rfl rfl (fun s₀ H₀ C cl fp => pg_name (i := 0) ndKT rfl (Or.inl rfl)) (fun s₀ H₀ C cl fp => pifs_nil)
        (fun s₀ H₀ C cl fp => pe_dget hu (pv 1) (pv 0) (fun _ _ => rfl))) pa_nil))) rfl)), ?_⟩
    refine ⟨_, rfl, ce, _, _, .ref ga, rfl, rfl, SqT.of (s2 _ _ c1), rfl, ga, rfl, ⟨_, SqT.of (s2 _ _ c3)⟩, ?_⟩
    refine for_tup (K := K) (a := ga) (xs := as.map V.ref) (fun i σ H3 => ∃ (kv : List (Key × V)) (v3 v4 v5 : Option V), σ = [some (.ref ce), some (.ref b), some (.ref td), v3, v4, v5] ∧ H3 td = some (.dK kv) ∧ Has kv (C.ins ++ (C.gates.take i).map (·.1)) (evalG ρ (C.gates.take i)) ∧ kv.length ≤ 6 + i ∧ Same H H3)
      ⟨kv, none, none, none, rfl, ht2, by simpa [evalG] using hh2, by omega, s2⟩ (fun i σ H3 _ ⟨_, _, _, _, _, _, _, _, s3⟩ => SqT.of (s3 _ _ c3)) ?_ ?_
    · rintro i x σ H3 hx ⟨kv, v3, v4, v5, rfl, ht3, hh, hl, s3⟩
      obtain ⟨a1, ha1, rfl⟩ := ref_item hx
      obtain ⟨g, hg, q, g1, g2⟩ := paired_get c5 ha1
      have hi : i < C.gates.length := (List.getElem?_eq_some_iff.mp hg).1
      obtain ⟨hok, hps⟩ := hG.gt.at hg
      generalize hR : evalG ρ (C.gates.take i) = ρi at hh
      refine ⟨a1, _, rfl, SqT.of (s3 _ _ g1), rfl, _, _, rfl, _, _, rfl, _, _, rfl, rfl, ?_⟩
      refine ⟨_, rfl, _, rfl, q, rfl, ⟨_, SqT.of (s3 _ _ g2)⟩, fun D0 nD0 => ?_⟩
      have hpl : g.2.2.length ≤ 3 := by rcases hok.ok with ⟨_, z | z⟩ | ⟨_, z⟩ | ⟨_, z⟩ | ⟨_, z⟩ | ⟨_, z⟩ <;> omega
      refine lcMap yields_tup (fV ρi) nD0 (fun H4 s4 => SqT.of (s4 _ _ (s3 _ _ g2))) (by rw [List.length_map]; omega) ?_ ?_
      · intro j x H4 kk hx s4 hk
        obtain ⟨y, hy, rfl⟩ := str_item hx
        have hv := (hh y (hps y (List.mem_of_getElem? hy))).1
        exact ⟨_, rfl, _, rfl, td, _, rfl, dget (s4 _ _ ht3) hv, hk⟩
      rw [map_fV]
      refine ⟨g.2.1, D0, g.2.2.map ρi, rfl, upd_same, ?_, by rw [List.length_map]; exact hok, fun H5 s5 => ?_⟩
      · intro z hz
        obtain ⟨y, hy, rfl⟩ := List.mem_map.mp hz
        exact (hh y (hps y hy)).2
      have s35 : Same H3 H5 := (Same.new nD0).trans s5
      refine ⟨_, rfl, _, rfl, td, _, rfl, DPut.k (k := (Sum.inr g.1 : Key)) (s35 _ _ ht3) (small1000 (by omega)), putK kv (Sum.inr g.1) (.int (gateVal g.2.1 (g.2.2.map ρi))), _, _, _, rfl, upd_same, ?_, ?_, ?_⟩
      · rw [take_snoc hg, evalG_snoc, hR, List.map_append, ← List.append_assoc]
        exact hh.put (gateVal_bit _ _)
      · have := length_putK kv (Sum.inr g.1 : Key) (.int (gateVal g.2.1 (g.2.2.map ρi))); omega
      · exact fun c o e => by rw [upd_ne (ne_of_none e ntd)]; exact s35 c o (s3 c o e)
    · rintro σ H3 ⟨kv, v3, v4, v5, rfl, ht3, hh, hl, s3⟩
      rw [List.length_map, paired_len c5, List.take_of_length_le (Nat.le_refl _)] at hh
      exact hu' _ _ ⟨kv, v3, v4, v5, rfl, ht3, hh, s3⟩
  rintro σ H3 ⟨kv3, v3, v4, v5, rfl, ht3, hh3, s3⟩
  -- the outputs
  refine ⟨_, pss_one (ps_ret (pe_callTy call_tuple_of (by rfl) T.tuple PyProof.Rows.boot_tuple (pa_c (pe_lc ["name"] ["told"] [2] rfl (pi_tup (pe_ix ix_tup (pv 0) pe_int (fun _ _ => rfl))) rfl rfl (fun s₀ H₀ C cl fp => pg_name (i := 0) ndNT rfl (Or.inl rfl)) (fun s₀ H₀ C cl fp => pifs_nil)
    (fun s₀ H₀ C cl fp => pe_dget hu (pv 1) (pv 0) (fun _ _ => rfl))) pa_nil))), ?_⟩
  refine ⟨_, rfl, ce, _, _, .ref oa, rfl, rfl, SqT.of (s3 _ _ c1), rfl, oa, rfl, ⟨_, SqT.of (s3 _ _ c4)⟩, fun D0 nD0 => ?_⟩
  refine lcMap yields_tup (fV (evalC C ρ)) nD0 (fun H4 s4 => SqT.of (s4 _ _ (s3 _ _ c4))) (by rw [List.length_map]; omega) ?_ ?_
  · intro j x H4 kk hx s4 hk
    obtain ⟨y, hy, rfl⟩ := str_item hx
    have hv := (hh3 y (hG.os y (List.mem_of_getElem? hy))).1
    exact ⟨_, rfl, _, rfl, td, _, rfl, dget (s4 _ _ ht3) hv, hk⟩
  rw [map_fV]
  refine ⟨D0, _, rfl, .inl ⟨SqL.of upd_same, fun t nt => ?_⟩⟩
  have s4 := s3.trans (Same.new (o := .lst ((C.outs.map (evalC C ρ)).map V.int)) nD0)
  exact k t _ (s4.free nt) upd_same (s4.trans (Same.new nt))
set_option maxHeartbeats 1000000 in
theorem ok_told {f fG fT : Addr} {fd fdG fdT : FuncData} (F : Fun K "told_by" "told_by" sToldBy f fd) (T : Txt mg) (gG : Gd K mg "gate_bit" sGateBit ["word", "bits"] fG fdG) (gTh : Gd K mg "check_there" sThere ["names", "given"] fT fdT) : FnOk P w K mg base CX0 2 f fd ["cell", "bits"] spTold := by
  have GB : FnOk P w K mg base CX0 1 fG fdG ["word", "bits"] spGB := ok_gb gG.F T
  have TH : FnOk P w K mg base CX0 1 fT fdT ["names", "given"] (spThere K) := ok_there gTh.F
  refine F.ok scTold (fun vs H Q E h => ?_) (fun cdv A outer s H vs Q E hr h => ?_)
  · obtain ⟨ce, b, C, kvs, ρ, rfl, _⟩ := h
    rfl
  · obtain ⟨ce, b, C, kvs, ρ, rfl, hC, hG, hb, hH, k⟩ := h
    have hu := hu_of hr
    obtain ⟨ia, ga, oa, as, c1, c2, c3, c4, c5⟩ := hC.ex
    have li := hG.li
    have lg := hG.lg
    have lo := hG.lo
    -- all there
    refine ex_cut (fun σ H2 => H = H2 ∧ σ = [some (.ref ce), some (.ref b), none, none, none, none]) (fun u hu' => ?_) ?_
    · refine ⟨_, ps_expr (pe_call TH hr rfl gTh.m gTh.k gTh.b .nil pass0 (pa_c (pe_ix ix_tup (pv 0) pe_int (fun _ _ => rfl)) (pa_c (pv 1) pa_nil))), ?_⟩
      exact ⟨_, rfl, ce, _, _, .ref ia, rfl, rfl, SqT.of c1, rfl, _, rfl, ia, b, C.ins, kvs, rfl, SqT.of c2, hb, fun x hx => ⟨_, (hH x hx).1⟩, hu' _ _ ⟨rfl, rfl⟩⟩
    rintro σ H1 ⟨rfl, rfl⟩
    exact told_tail T gG hr hC hG hb hH k
end
end Lw

namespace PySem
/-- how an exception lies: its class, its own dict, its head entry at T, whose flight is fl -/
structure XAt (h : Heap) (e : Addr) (cls : Value) (od : Option Addr) (T : Addr) (fl : Value) : Prop where
  ex : ∃ oe vs oT ts, h.get? e = some oe ∧ oe.cls = cls ∧ oe.dict = od ∧ oe.data = .fields vs ∧ vs[1]? = some (.ref T) ∧ T ≠ e ∧ h.get? T = some oT ∧ oT.data = .fields ts ∧ ts[3]? = some fl
/-- what stays behind a note of the frames fs: all but e and the old head; of frames their slots may change -/
structure XKeep (fs xs : List Addr) (h h' : Heap) : Prop where
  keep : ∀ b o, h.get? b = some o → b ∉ xs → b ∉ fs → h'.get? b = some o
  slot : ∀ b o, h.get? b = some o → b ∉ xs → ∃ sl, h'.get? b = some { o with slots := sl }
  there : ∀ b o, h.get? b = some o → ∃ o', h'.get? b = some o'
theorem XKeep.refl (fs xs : List Addr) (h : Heap) : XKeep fs xs h h := ⟨fun _ _ e _ _ => e, fun _ o e _ => ⟨o.slots, e⟩, fun _ o e => ⟨o, e⟩⟩
theorem XKeep.trans {fs xs : List Addr} {h h1 h2 : Heap} (a : XKeep fs xs h h1) (b : XKeep fs xs h1 h2) : XKeep fs xs h h2 where
  keep := fun c o e n1 n2 => b.keep c o (a.keep c o e n1 n2) n1 n2
  slot := fun c o e n1 => by
    obtain ⟨s1, e1⟩ := a.slot c o e n1
    obtain ⟨s2, e2⟩ := b.slot c _ e1 n1
    exact ⟨s2, e2⟩
  there := fun c o e => by
    obtain ⟨o1, e1⟩ := a.there c o e
    exact b.there c o1 e1
theorem XKeep.more {fs xs ys : List Addr} {h h' : Heap} (a : XKeep fs xs h h') (hs : ∀ b ∈ xs, b ∈ ys) : XKeep fs ys h h' :=
  ⟨fun c o e n1 n2 => a.keep c o e (fun z => n1 (hs _ z)) n2, fun c o e n1 => a.slot c o e fun z => n1 (hs _ z), a.there⟩
section
variable {M : Model} {A : Around} {E : Value → Shared → Prop} {s : Shared}
abbrev frOf (l : List Env) : List Addr := l.filterMap (·.frame)
theorem frames_no_fields {h base : Heap} {l : List Env} (hl : h.FunFrames base l) {e : Addr} {oe : Obj} {vs : Array Value} (he : h.get? e = some oe) (hd : oe.data = .fields vs) : e ∉ frOf l := fun hm => by
  obtain ⟨_, o, ho, hnf⟩ := hl.mem hm
  have := ho.symm.trans he
  cases this
  exact hnf vs hd
theorem x_entry {base : Heap} {env : Env} {outer : List Env} {L e : Addr} {oe : Obj} {vs : Array Value} {head : Value} {had : Bool} {Q : Unit → Shared → Prop}
    (hfr : A.frames = some (env :: outer)) (hl : s.heap.FunFrames base (env :: outer)) (hf : env.frame = some L) (he : s.heap.get? e = some oe) (hd : oe.data = .fields vs) (hsz : 1 < vs.size)
    (k : ∀ h' T, XKeep (frOf (env :: outer)) [e] s.heap h' → XAt h' e oe.cls oe.dict T (rawInt L) → s.heap.objs.size ≤ T → Q () { s with heap := h' }) :
    wpAny M A (do let a ← frameOf env; let pl ← entryPlaceOf L had; let b ← EntryCells.newEntry head a .none (rawInt L) .none pl; setField (.ref e) 1 b) Q E s := by
  have hne := frames_no_fields hl he hd
  refine wpAny_bind (wpAny_frameOf_fun hfr hl hf fun g so => wpAny_bind (wpAny_entryPlaceOf fun pl hpl => ?_))
  unfold EntryCells.newEntry newFields
  have ge : g.get? e = some oe := by rw [so.2.1 e hne]; exact he
  have hTe : g.objs.size ≠ e := fun z => absurd (Heap.lt_size ge) (by rw [z]; exact Nat.lt_irrefl _)
  refine wpAny_bind (wpAny_newObj_type ?_ (hpl.sizeOk5 _ _ _ _ _))
  generalize hob : ({ cls := .type "traceback", dict := none, data := .fields _ } : Obj) = ob
  refine wpAny_setField (Heap.get?_push_of_some ob ge) hd hsz (k _ g.objs.size ?_ ?_ ?_)
  · have st : ∀ b o, g.get? b = some o → b ≠ e → ((g.push ob).update e (Obj.mapFields (·.setIfInBounds 1 (Value.ref g.objs.size)))).get? b = some o := fun b o hb n => by
      rw [Heap.get?_update_other _ _ (Ne.symm n)]; exact Heap.get?_push_of_some _ hb
    refine ⟨fun b o hb n1 n2 => st b o (by rw [so.2.1 b n2]; exact hb) (by simpa using n1), fun b o hb n1 => ?_, fun b o hb => ?_⟩
    · obtain ⟨sl, q⟩ := so.2.2 b o hb
      exact ⟨sl, st b _ q (by simpa using n1)⟩
    · obtain ⟨sl, q⟩ := so.2.2 b o hb
      by_cases n : b = e
      · subst n
        exact ⟨_, Heap.get?_update_self _ (Heap.get?_push_of_some ob ge) (Obj.isFreed_of_fields (Obj.data_mapFields hd _))⟩
      · exact ⟨_, st b _ q n⟩
  · refine ⟨_, _, ob, _, Heap.get?_update_self _ (Heap.get?_push_of_some ob ge) (Obj.isFreed_of_fields (Obj.data_mapFields hd _)), Obj.cls_mapFields _ _, ?_, Obj.data_mapFields hd _, by simp [hsz], hTe, ?_, by rw [← hob], ?_⟩
    · obtain ⟨c, dc, dt, sl⟩ := oe
      simp only at hd
      subst hd
      rfl
    · rw [Heap.get?_update_other _ _ (Ne.symm hTe)]
      exact Heap.get?_push_size g (by rw [← hob]; rfl)
    · rcases hpl with rfl | ⟨_, _, _, _, _, _, _, rfl⟩ <;> simp
  · rw [so.1]; exact Nat.le_refl _
theorem x_flight {e T : Addr} {cls fl : Value} {od : Option Addr} {Q : Unit → Shared → Prop} (x : XAt s.heap e cls od T fl)
    (k : ∀ h', XKeep [] [T] s.heap h' → XAt h' e cls od T .none → Q () { s with heap := h' }) : wpAny M A (setFlight (.ref e) none) Q E s := by
  obtain ⟨oe, vs, oT, ts, he, hc, hdi, hd, h1, hTe, hT, hdT, h3⟩ := x.ex
  have z3 : 3 < ts.size := (Array.getElem?_eq_some_iff.mp h3).1
  unfold setFlight
  refine wpAny_bind (wpAny_field he hd h1 ?_)
  rw [if_pos (by simp)]
  refine wpAny_setField hT hdT z3 (k _ ?_ ?_)
  · have ot : ∀ b o, s.heap.get? b = some o → b ≠ T → (s.heap.update T (Obj.mapFields (·.setIfInBounds 3 ((none : Option Addr).elim Value.none fun f => rawInt f)))).get? b = some o := fun b o hb n => by
      rw [Heap.get?_update_other _ _ (Ne.symm n)]; exact hb
    refine ⟨fun b o hb n1 _ => ot b o hb (by simpa using n1), fun b o hb n1 => ⟨o.slots, ot b o hb (by simpa using n1)⟩, fun b o hb => ?_⟩
    by_cases n : b = T
    · subst n
      exact ⟨_, Heap.get?_update_self _ hT (Obj.isFreed_of_fields (Obj.data_mapFields hdT _))⟩
    · exact ⟨o, ot b o hb n⟩
  · exact ⟨oe, vs, _, _, by rw [Heap.get?_update_other _ _ hTe]; exact he, hc, hdi, hd, h1, hTe, Heap.get?_update_self _ hT (Obj.isFreed_of_fields (Obj.data_mapFields hdT _)), Obj.data_mapFields hdT _, by simp [z3]⟩
/-- the first frame that notes it -/
theorem x_note1 {base : Heap} {env : Env} {outer : List Env} {L e : Addr} {oe : Obj} {vs : Array Value} {Q : Unit → Shared → Prop}
    (hfr : A.frames = some (env :: outer)) (hl : s.heap.FunFrames base (env :: outer)) (hf : env.frame = some L) (he : s.heap.get? e = some oe) (hd : oe.data = .fields vs) (h1 : vs[1]? = some .none)
    (k : ∀ h' T, XKeep (frOf (env :: outer)) [e] s.heap h' → XAt h' e oe.cls oe.dict T (rawInt L) → s.heap.objs.size ≤ T → Q () { s with heap := h' }) : wpAny M A (noteFrame (.ref e) env) Q E s := by
  unfold noteFrame
  simp only [hf]
  refine wpAny_bind (wpAny_field he hd h1 ?_)
  rw [if_neg (by decide)]
  exact x_entry hfr hl hf he hd (Array.getElem?_eq_some_iff.mp h1).1 k
/-- a further one -/
theorem x_note2 {base : Heap} {env : Env} {outer : List Env} {L e T : Addr} {cls : Value} {od : Option Addr} {Q : Unit → Shared → Prop}
    (hfr : A.frames = some (env :: outer)) (hl : s.heap.FunFrames base (env :: outer)) (hf : env.frame = some L) (x : XAt s.heap e cls od T .none)
    (k : ∀ h' T', XKeep (frOf (env :: outer)) [e, T] s.heap h' → XAt h' e cls od T' (rawInt L) → s.heap.objs.size ≤ T' → Q () { s with heap := h' }) : wpAny M A (noteFrame (.ref e) env) Q E s := by
  obtain ⟨oe, vs, oT, ts, he, hc, hdi, hd, h1, hTe, hT, hdT, h3⟩ := x.ex
  subst hc hdi
  unfold noteFrame
  simp only [hf]
  refine wpAny_bind (wpAny_field he hd h1 ?_)
  rw [if_pos (by simp)]
  refine wpAny_bind (wpAny_field hT hdT h3 ?_)
  rw [if_neg (by simp [rawInt])]
  refine wpAny_bind (wpAny_setField hT hdT (Array.getElem?_eq_some_iff.mp h3).1 ?_)
  have ot : ∀ b o, s.heap.get? b = some o → b ≠ T → (s.heap.update T (Obj.mapFields (·.setIfInBounds 3 Value.none))).get? b = some o := fun b o hb n => by
    rw [Heap.get?_update_other _ _ (Ne.symm n)]; exact hb
  have kp : XKeep (frOf (env :: outer)) [e, T] s.heap (s.heap.update T (Obj.mapFields (·.setIfInBounds 3 Value.none))) := by
    refine ⟨fun b o hb n1 _ => ot b o hb (fun z => n1 (by simp [z])), fun b o hb n1 => ⟨o.slots, ot b o hb (fun z => n1 (by simp [z]))⟩, fun b o hb => ?_⟩
    by_cases n : b = T
    · subst n
      exact ⟨_, Heap.get?_update_self _ hT (Obj.isFreed_of_fields (Obj.data_mapFields hdT _))⟩
    · exact ⟨o, ot b o hb n⟩
  refine x_entry hfr (hl.of_keeps fun b o hb nf => ⟨o, ot b o hb fun z => ?_, rfl⟩) hf (ot e oe he (Ne.symm hTe)) hd (Array.getElem?_eq_some_iff.mp h1).1 fun h' T' kp' x' n' => k h' T' (kp.trans (kp'.more fun b z => by simp at z; simp [z])) x' ?_
  · subst z
    have := hb.symm.trans hT
    cases this
    exact nf ts hdT
  · rw [Heap.size_update] at n'; exact n'
/-- it leaves the frame: the first one, a further one -/
theorem x_leave1 {base : Heap} {env : Env} {outer : List Env} {L e : Addr} {oe : Obj} {vs : Array Value} {Q : Unit → Shared → Prop}
    (hfr : A.frames = some (env :: outer)) (hl : s.heap.FunFrames base (env :: outer)) (hf : env.frame = some L) (he : s.heap.get? e = some oe) (hd : oe.data = .fields vs) (h1 : vs[1]? = some .none)
    (k : ∀ h' T, XKeep (frOf (env :: outer)) [e] s.heap h' → XAt h' e oe.cls oe.dict T .none → s.heap.objs.size ≤ T → Q () { s with heap := h' }) : wpAny M A (leaving env (.ref e)) Q E s := by
  unfold leaving
  refine wpAny_bind (x_note1 hfr hl hf he hd h1 fun h1' T kp x nT' => have nT := Heap.get?_none_of_le nT'; x_flight x fun h2 kp2 x2 => k h2 T ⟨fun b o e1 n1 n2 => ?_, fun b o e1 n1 => ?_, fun b o e1 => ?_⟩ x2 nT')
  · exact kp2.keep b o (kp.keep b o e1 n1 n2) (fun z => by simp at z; subst z; rw [nT] at e1; cases e1) (by simp)
  · obtain ⟨s1, q1⟩ := kp.slot b o e1 n1
    exact ⟨s1, kp2.keep b _ q1 (fun z => by simp at z; subst z; rw [nT] at e1; cases e1) (by simp)⟩
  · obtain ⟨o1, q1⟩ := kp.there b o e1
    exact kp2.there b o1 q1
theorem x_leave2 {base : Heap} {env : Env} {outer : List Env} {L e T : Addr} {cls : Value} {od : Option Addr} {Q : Unit → Shared → Prop}
    (hfr : A.frames = some (env :: outer)) (hl : s.heap.FunFrames base (env :: outer)) (hf : env.frame = some L) (x : XAt s.heap e cls od T .none)
    (k : ∀ h' T', XKeep (frOf (env :: outer)) [e, T] s.heap h' → XAt h' e cls od T' .none → s.heap.objs.size ≤ T' → Q () { s with heap := h' }) : wpAny M A (leaving env (.ref e)) Q E s := by
  unfold leaving
  refine wpAny_bind (x_note2 hfr hl hf x fun h1' T' kp x' nT' => have nT := Heap.get?_none_of_le nT'; x_flight x' fun h2 kp2 x2 => k h2 T' ⟨fun b o e1 n1 n2 => ?_, fun b o e1 n1 => ?_, fun b o e1 => ?_⟩ x2 nT')
  · exact kp2.keep b o (kp.keep b o e1 n1 n2) (fun z => by simp at z; subst z; rw [nT] at e1; cases e1) (by simp)
  · obtain ⟨s1, q1⟩ := kp.slot b o e1 n1
    exact ⟨s1, kp2.keep b _ q1 (fun z => by simp at z; subst z; rw [nT] at e1; cases e1) (by simp)⟩
  · obtain ⟨o1, q1⟩ := kp.there b o e1
    exact kp2.there b o1 q1
end
end PySem

namespace PySem
section
variable {prog : Program} {w : World} {A : Around} {E : Value → Shared → Prop} {h : Heap} {g : Array GenState} {d : Drawn} {t : Nat} {os : OsState}
variable {nm q : Str} {C N : Addr} {bs bm bmB : List Value} {hdct : Bool} {sn : List Str} {sub : List Value} {ab : Bool} {col : Option Bool} {dd : Option Addr} {k0 k1 k2 k3 k5 : Option Value} {B Bn newId nid initId inN : String} {bmN : List Value}
abbrev xTup (args : List Value) : Obj := { cls := .type "tuple", data := .seq args.toArray }
abbrev xNew (C t : Addr) : Obj := { cls := .ref C, data := .fields #[.ref t, .none, .none, .none, .bool false, .none] }
theorem x_made (Fn : ExcBaseFacts Bn newId inN bmN) (hBn : bmB.contains (.type Bn) = true) (F : ExcBaseFacts B nid initId bmB) (T : OwnTail h bmB bm) {mN : Str → Option Value} {args : List Value} {fI : Addr} {oI : Obj} {Q : Fin → Shared → Prop}
    (cC : h.get? C = some (excClassObj nm q C N bs bm hdct sn sub ab col dd k0 k1 k2 k3 k5 newId)) (cN : h.Ns N mN) (ci : mN "__init__" = some (.ref fI)) (cf : h.get? fI = some oI) (ct : oI.cls = .type "function") (hz : args.length ≤ sizeLine)
    (k : ∀ h' e, h.objs.size ≤ e → Heap.MadeExcOf h h' e (.ref C) args → wpAny (model prog w) A (call (.ref fI) (.ref e :: args)) (fun r s' => r = .none ∧ Q (.done (.ret (.ref e))) s') E ⟨h', g, d, t, os⟩) :
    wpAny (model prog w) A (Builtin.«type.__call__» ⟨.ref C :: args, []⟩) Q E ⟨h, g, d, t, os⟩ := by
  repeat (first | with_reducible refine wpAny_loadPart_at cC ?_ | with_reducible refine wpAny_madeBy_exc cC ?_ | wp_step)
  refine codeAny_call_builtin_code (Code.quiet_builtin _ Fn.quiet) (wpAny_check_new_subU Fn hBn T cC (codeAny_exc_new_subU Fn hBn F T cC ?_ hz))
  show wpAny _ _ _ _ _ _
  have up : ∀ b o, h.get? b = some o → ((h.push (xTup args)).push (xNew C h.objs.size)).get? b = some o := fun b o z => Heap.get?_push_of_some _ (Heap.get?_push_of_some _ z)
  have ge : ((h.push (xTup args)).push (xNew C h.objs.size)).get? (h.objs.size + 1) = some (xNew C h.objs.size) := Heap.get?_push_at (by rw [Heap.size_push]) rfl
  have gt : ((h.push (xTup args)).push (xNew C h.objs.size)).get? h.objs.size = some (xTup args) := Heap.get?_push_of_some _ (Heap.get?_push_at rfl rfl)
  have cC1 := up C _ cC
  have cN1 : ((h.push (xTup args)).push (xNew C h.objs.size)).Ns N mN := let ⟨o, es, ep, e, r⟩ := cN; ⟨o, es, ep, up _ _ e, r⟩
  have own : (Value.ref C :: bm).contains (.ref C) = true := by simp
  unfold isInstance
  repeat (first | with_reducible refine wpAny_loadPart_at ge ?_ | (with_reducible refine wpAny_isSubtype_exc cC1 ?_; rw [own]) | wp_step)
  show wpAny _ _ (typeLookup (.ref C) _) _ _ _
  refine wpAny_typeLookup_tail cC1 cN1 (T.keeps up) F.mroIs F.init.lookup ?_
  rw [ci]
  refine wpAny_holding (wpAny_bind ?_)
  unfold bindSpecial
  refine wpAny_bind (wpAny_typeOf (T := "function") ⟨_, up _ _ cf, ct⟩ ?_)
  rw [if_pos (by decide)]
  refine wpAny_pure (wpAny_bind (wpAny_mono (k _ (h.objs.size + 1) (Nat.le_succ _) ⟨up, Heap.get?_none_of_le (Nat.le_succ _), h.objs.size, ge, Heap.get?_none_of_le (Nat.le_refl _), gt⟩) (fun r s' hr => ?_) fun _ _ z => z))
  obtain ⟨rfl, hQ⟩ := hr
  wp_walk
  exact hQ
theorem x_call (Fn : ExcBaseFacts Bn newId inN bmN) (hBn : bmB.contains (.type Bn) = true) (F : ExcBaseFacts B nid initId bmB) (T : OwnTail h bmB bm) {mN : Str → Option Value} {args : List Value} {fI : Addr} {oI : Obj} {Q : Value → Shared → Prop}
    (cC : h.get? C = some (excClassObj nm q C N bs bm hdct sn sub ab col dd k0 k1 k2 k3 k5 newId)) (cN : h.Ns N mN) (ci : mN "__init__" = some (.ref fI)) (cf : h.get? fI = some oI) (ct : oI.cls = .type "function") (hz : args.length ≤ sizeLine)
    (k : ∀ h' e, h.objs.size ≤ e → Heap.MadeExcOf h h' e (.ref C) args → wpAny (model prog w) (A.under (.builtin "type.__call__" ⟨.ref C :: args, []⟩)) (call (.ref fI) (.ref e :: args)) (fun r s' => r = .none ∧ Q (.ref e) s') E ⟨h', g, d, t, os⟩) :
    wpAny (model prog w) A (call (.ref C) args) Q E ⟨h, g, d, t, os⟩ := by
  have l1 := tc_lookup
  have l2 := tc_bind (.ref C)
  have l3 : (⟨h, g, d, t, os⟩ : Shared).TypeIs (.ref C) "type" := ⟨_, cC, rfl⟩
  refine wpAny_call (codeAny_of_tree ?_)
  show wpAny _ _ (callAny (.ref C) _) _ _ _
  repeat (any_goals (first | assumption | with_reducible refine wpAny_loadPart_at cC ?_ | wp_step))
  refine ⟨rfl, codeAny_call_builtin_at (Code.quiet_builtin _ (by decide +kernel)) entry_typeCall (wpAny_check_type_call_sub cC (x_made Fn hBn F T cC cN ci cf ct hz fun h' e hl hm => k h' e hl hm))⟩
/-- a made exception is raised -/
theorem x_throw {env : Env} {s : Shared} {x : Sem Value} {Q : Flow → Shared → Prop} (hh : A.handled = none)
    (k : wpAny (model prog w) A x (fun v s1 => ∃ (e : Addr) (oe : Obj) (vs : Array Value) (C N : Addr) (bm : List Value) (nm q : Str) (bs : List Value) (hdct : Bool) (sn : List Str) (sub : List Value) (ab : Bool) (col : Option Bool) (dd : Option Addr) (k0 k1 k2 k3 k5 : Option Value) (newId : String), v = .ref e ∧
      s1.heap.get? C = some (excClassObj nm q C N bs bm hdct sn sub ab col dd k0 k1 k2 k3 k5 newId) ∧ bm.contains (.type "BaseException") = true ∧ s1.heap.get? e = some oe ∧ oe.cls = .ref C ∧ oe.data = .fields vs ∧ vs[1]? = some .none ∧ E (.ref e) s1) E s) :
    wpAny (model prog w) A (raiseStmt env (some x) none) Q E s := by
  unfold raiseStmt
  refine wpAny_bind (wpAny_mono k (fun v s1 z => ?_) fun _ _ z => z)
  obtain ⟨e, oe, vs, C, N, bm, nm, q, bs, hdct, sn, sub, ab, col, dd, k0, k1, k2, k3, k5, newId, rfl, cC, hB, he, hc, hd, h1, hE⟩ := z
  have isB : (Value.ref C :: bm).contains (.type "BaseException") = true := by rw [List.contains_cons, hB, Bool.or_true]
  obtain ⟨hp, g1, d1, tk, os1⟩ := s1
  obtain ⟨oc, od, odt, osl⟩ := oe
  simp only at hc hd
  subst hc hd
  repeat (first | with_reducible refine wpAny_loadPart_at he ?_ | with_reducible refine wpAny_loadPart_at cC ?_ | (with_reducible refine wpAny_isSubtype_exc cC ?_; rw [isB]) | wp_step)
  rw [h1]
  refine wpAny_pure ?_
  rw [if_neg (by decide)]
  exact wpAny_pure (wpAny_raiseNew_none hh hE)
end
end PySem

namespace L2
open PySem PySem.Spec PyProof.Rows
def delH (H : Hp) (a : Addr) : Hp := fun b => if b = a then none else H b
theorem delH_self {H : Hp} {a : Addr} : delH H a a = none := by unfold delH; rw [if_pos rfl]
theorem delH_ne {H : Hp} {a b : Addr} (h : b ≠ a) : delH H a b = H b := by unfold delH; rw [if_neg h]
def ExC (e : Addr) (C : Value) (od : Option Addr) : HO := .ext fun h => ∃ oe vs, h.get? e = some oe ∧ oe.cls = C ∧ oe.dict = od ∧ oe.data = .fields vs
def AnyO (a : Addr) : HO := .ext fun h => ∃ o, h.get? a = some o
theorem exC_ok {P : Program} {w : World} {H : Hp} {h : Heap} {e : Addr} {C : Value} {od : Option Addr} {oe : Obj} {vs : Array Value} (he : h.get? e = some oe) (h1 : oe.cls = C) (h2 : oe.dict = od) (h3 : oe.data = .fields vs) : ObjOk P w H h e (ExC e C od) :=
  ⟨⟨oe, vs, he, h1, h2, h3⟩, ⟨_, he⟩, fun _ _ ⟨oe, vs, z, r⟩ k => ⟨oe, vs, k _ z, r⟩⟩
theorem anyO_ok {P : Program} {w : World} {H : Hp} {h : Heap} {a : Addr} {o : Obj} (he : h.get? a = some o) : ObjOk P w H h a (AnyO a) := ⟨⟨o, he⟩, ⟨_, he⟩, fun _ _ ⟨o, z⟩ k => ⟨o, k _ z⟩⟩
theorem xat_ok {P : Program} {w : World} {H : Hp} {h : Heap} {e T : Addr} {C fl : Value} {od : Option Addr} (x : XAt h e C od T fl) : ObjOk P w H h e (ExC e C od) := by
  obtain ⟨oe, vs, oT, ts, he, hc, hdi, hd, _⟩ := x.ex
  exact exC_ok he hc hdi hd
theorem xat_okT {P : Program} {w : World} {H : Hp} {h : Heap} {e T : Addr} {C fl : Value} {od : Option Addr} (x : XAt h e C od T fl) : ObjOk P w H h T (AnyO T) := by
  obtain ⟨oe, vs, oT, ts, _, _, _, _, _, _, hT, _⟩ := x.ex
  exact anyO_ok hT
/-- behind a note of the frames: e and its old head are tracked, the new head is laid -/
theorem hok_note {P : Program} {w : World} {H : Hp} {h h' : Heap} {fs xs : List Addr} {e T : Addr} {C fl : Value} {od : Option Addr} (hok : HOk P w H h) (k : XKeep fs xs h h') (hf : ∀ b ∈ fs, H b = none) (he : H e = some (ExC e C od)) (hx : ∀ b ∈ xs, b = e ∨ H b = some (AnyO b)) (x : XAt h' e C od T fl) (hT : H T = none) :
    HOk P w (upd H T (AnyO T)) h' := fun a o q => by
  by_cases n : a = T
  · subst n
    rw [upd_same] at q
    cases q
    exact xat_okT x
  rw [upd_ne n] at q
  by_cases ne : a = e
  · subst ne
    rw [he] at q
    cases q
    exact xat_ok x
  by_cases nx : a ∈ xs
  · rcases hx a nx with z | z
    · exact absurd z ne
    · rw [z] at q
      cases q
      obtain ⟨⟨o, ho⟩, _⟩ := hok a _ z
      obtain ⟨o', ho'⟩ := k.there a o ho
      exact anyO_ok ho'
  refine (hok a o q).stay (fun b u hb r => k.keep b u r (fun z => ?_) fun z => ?_) (fun b r => ?_) fun b ys r => ?_
  · rcases hb with rfl | hb
    · exact nx z
    · rcases hx b z with y | y
      · rw [y, he] at hb; cases hb
      · rw [y] at hb; cases hb
  · have := hf b z
    rcases hb with rfl | hb
    · rw [q] at this; cases this
    · rw [hb] at this; cases this
  · rw [upd_ne (fun z => by rw [z, hT] at r; cases r)]; exact r
  · rw [upd_ne (fun z => by rw [z, hT] at r; cases r)]; exact r
theorem un_note {fs fs' xs : List Addr} {H0 H : Hp} {h0 h h' : Heap} {T : Addr} {o : HO} (u : Un fs [] H0 H h0 h) (k : XKeep fs' xs h h') (hf : ∀ b o, h0.get? b = some o → b ∈ fs' → b ∈ fs) (hx : ∀ b ∈ xs, H b ≠ none) (hT : H T = none) (lT : h.objs.size ≤ T) : Un fs [] H0 (upd H T o) h0 h' where
  keep := fun b v q n nf nx => k.keep b v (u.keep b v q n nf nx) (fun z => hx b z (u.free b v q n nx)) fun z => nf (hf b v q z)
  slot := fun b v q n hb nx => by
    obtain ⟨sl, e⟩ := u.slot b v q n hb nx
    obtain ⟨sl2, e2⟩ := k.slot b _ e fun z => hx b z (u.free b v q n nx)
    exact ⟨sl2, e2⟩
  free := fun b v q n nx => by
    obtain ⟨o', e⟩ := u.there b v q nx
    rw [upd_ne (fun z => absurd (Heap.lt_size e) (by rw [z]; exact Nat.not_lt.mpr lT))]
    exact u.free b v q n nx
  there := fun b v q nx => let ⟨o', e⟩ := u.there b v q nx; k.there b o' e
  tups := fun b ys q => by
    have := u.tups b ys q
    rw [upd_ne (fun z => by rw [z, hT] at this; cases this)]; exact this
  frzs := fun b v x q => by
    have := u.frzs b v x q
    rw [upd_ne (fun z => by rw [z, hT] at this; cases this)]; exact this
  tbls := fun b ps q => by
    obtain ⟨m, e⟩ := u.tbls b ps q
    rw [upd_ne (fun z => by rw [z, hT] at e; cases e)]; exact ⟨m, e⟩
/-- an exception behind a call: it and its head entry are tracked -/
def CXe (P : Program) (w : World) : CXT := fun outer H s E ev s' => ∃ (e T : Addr) (C : Value) (od : Option Addr) (H' : Hp), ev = .ref e ∧ s'.os = s.os ∧ AllBare s'.gens ∧ Un (frs outer) [] H H' s.heap s'.heap ∧ HOk P w H' s'.heap ∧
  XAt s'.heap e C od T .none ∧ H' e = some (ExC e C od) ∧ H' T = some (AnyO T) ∧ E C od H'
section
variable {P : Program} {w : World} {K : PySem.W.Frag} {mg : Str → Option Value} {base : Heap} {N : List Str} {qual : Str} {scope : Scope} {f : Addr} {cd : Value} {A : Around} {outer : List Env} {s0 : Shared} {H0 : Hp} {E E1 : XK}
theorem fs_old {b : Addr} {o : Obj} (q : s0.heap.get? b = some o) (hb : b ∈ frOf (envOfC qual scope s0.heap.objs.size f cd :: outer)) : b ∈ frs outer := by
  unfold frOf at hb
  rw [List.filterMap_cons] at hb
  rcases List.mem_cons.mp hb with z | z
  · have := Heap.lt_size q
    rw [z] at this
    exact absurd this (Nat.lt_irrefl _)
  · exact z
/-- a callee's exception passes on out of this def; the head entry of this frame is laid -/
theorem passX (hE : ∀ C od H e T', E1 C od H → H e = some (ExC e C od) → H T' = none → E C od (upd H T' (AnyO T'))) : Passes (CXe P w) (cxOf (CXe P w) P w K mg base N qual scope f cd A outer s0 H0 E) E1 := by
  intro pins σ H s ev s' I h
  obtain ⟨e, T, C, od, H', rfl, hos, hb, un, hok, xa, te, tT, h1⟩ := h
  have I' : Inv (cxOf (CXe P w) P w K mg base N qual scope f cd A outer s0 H0 E) pins σ H' s' := I.call' (ch := []) hos un hok hb (fun b z => absurd z (by simp))
  refine x_leave2 (base := base) (env := envOfC qual scope s0.heap.objs.size f cd) (outer := outer) (L := s0.heap.objs.size) I'.ok.frames I'.stack rfl xa fun h' T' kp x' nT' => ?_
  have hT' : H' T' = none := hok.fresh nT'
  have ne : T' ≠ e := fun z => by rw [z, te] at hT'; cases hT'
  have hx : ∀ b ∈ [e, T], b = e ∨ H' b = some (AnyO b) := fun b z => by
    rcases List.mem_cons.mp z with z | z
    · exact .inl z
    · rw [List.mem_singleton.mp z]; exact .inr tT
  refine ⟨e, T', C, od, upd H' T' (AnyO T'), rfl, I'.os, I'.bare, un_note I'.base kp (fun b o q z => fs_old q z) (fun b z => ?_) hT' nT', hok_note hok kp I'.stkFree te hx x' hT', x', by rw [upd_ne ne.symm]; exact te, upd_same, hE C od H' e T' h1 te hT'⟩
  rcases hx b z with y | y
  · rw [y, te]; simp
  · rw [y]; simp
end
end L2

namespace PySem.W
open PySem PySem.Calls PyProof.Rows Builtin Builtin.ObjectAttr
section
variable {prog : Program} {w : World} {A : Around} {E : Value → Shared → Prop} {s : Shared} {K : Frag} {x C : Addr} {ox : Obj} {od : Option Obj} {name : Str} {expr : Bool} {Q : Value → Shared → Prop}
theorem bga_kind : builtinKind "BaseException.__getattribute__" = some .slot := by decide +kernel
theorem bga_split : splitId "BaseException.__getattribute__" = some ("BaseException", "__getattribute__") := by decide +kernel
theorem ga_args (x v : Value) : slotArgs "__getattribute__" 1 ⟨[x, v], []⟩ = pure (x, [v]) := by kernel_rfl
/-- an attribute in an exception's own dict -/
theorem x_attr {v : Value} (X : K.In s.heap) (I : InstAt s.heap x ox C od) (hga : findIn K (.ref C) "__getattribute__" = some (some (.builtin "BaseException.__getattribute__"))) (hk : findIn K (.ref C) "__getattr__" = some none)
    (hB : mroIn K C (.type "BaseException") = some true) (hf : findObj K C od name = some (.value v)) (hh : handedIn v = true) (h : Q v { s with toks := s.toks + 1 }) : wpAny (model prog w) A (getAttr (.ref x) name expr) Q E s := by
  obtain ⟨hp, g, d, t, os⟩ := s
  have L0 := I.type (M := model prog w)
  have L1 := looks_findIn (M := model prog w) X hga
  have L2 : Looks (model prog w) hp (hookBefore (.ref C)) none := looks_hook X hk
  have L3 := looks_find (M := model prog w) X I hf
  have L4 : Looks (model prog w) hp (isInstance (.ref x) (.type "BaseException")) true := L0.andThen (looks_mroIn X hB)
  have nb : (onTheHeap (Value.ref C) && Value.builtin "BaseException.__getattribute__" == Value.builtin "object.__getattribute__") = false := by
    rw [show (Value.builtin "BaseException.__getattribute__" == Value.builtin "object.__getattribute__") = false by decide +kernel]; rfl
  have ne : (expr && onTheHeap (Value.builtin "BaseException.__getattribute__")) = false := by cases expr <;> rfl
  unfold getAttr getAttrBy
  refine wpAny_bind (wpAny_mkText (wpAny_holding (wpAny_bind (L0.at (wpAny_bind (L1.at ?_))))))
  simp only [nb, Bool.false_eq_true, if_false]
  unfold getAttrByItsOwn
  refine wpAny_bind (L2.at (wpAny_bind (wpAny_attempt (wpAny_holding ?_))))
  unfold callGetattribute
  simp only [ne, Bool.false_eq_true, if_false]
  unfold boundAndCalled
  rw [PySem.F.excAttr_ValueError.ga.bind]
  refine wpAny_bind (wpAny_pure ?_)
  show wpAny _ _ (call (Value.builtin "BaseException.__getattribute__") [Value.ref x, Value.str name t]) _ _ _
  refine wpAny_call (codeAny_call_builtin PySem.F.excAttr_ValueError.ga.plain PySem.F.entry_bexc_ga (@check_slot (model prog w) _ _ ⟨hp, g, d, t + 1, os⟩ "BaseException.__getattribute__" "BaseException" "__getattribute__" (.ref x) [.str name t] [] _ bga_kind bga_split L4 (PySem.F.args_bexc_ga (.ref x) (.str name t)) ?_))
  unfold Builtin.«object.__getattribute__»
  rw [ga_args]
  refine wpAny_bind (wpAny_pure ?_)
  show wpAny _ _ (attrName (Value.str name t) >>= _) _ _ _
  rw [show attrName (Value.str name t) = pure name from rfl]
  refine wpAny_bind (wpAny_pure (wpAny_bind (L0.at (wpAny_bind (L3.at (wpAny_pure ?_))))))
  show wpAny _ _ (handedOut v) _ _ _
  rw [handedOut_of hh]
  exact wpAny_pure h
end
end PySem.W

namespace PySem.W
open PySem PySem.Calls PyProof.Rows Builtin Builtin.ObjectAttr
section
variable {prog : Program} {w : World} {A : Around} {E : Value → Shared → Prop} {s : Shared} {K : Frag} {x C : Addr} {ox : Obj} {name : Str}
/-- x.name = v, the first attribute of an exception -/
theorem x_set {cd : ClassData} {v : Value} {vs : Array Value} {Q : Unit → Shared → Prop} (X : K.In s.heap) (hx : s.heap.get? x = some ox) (hc : ox.cls = .ref C) (hd : ox.dict = none) (hda : ox.data = .fields vs)
    (hsa : findIn K (.ref C) "__setattr__" = some (some (.builtin "object.__setattr__"))) (hcl : clsIn K C = some cd) (hh : cd.hasDict = true) (hO : mroIn K C (.type "object") = some true) (hp : refuseLoop (.ref x) "__setattr__" cd.mro = pure ()) (hn : findIn K (.ref C) name = some none)
    (k : ∀ h' tk', h'.get? x = some { ox with dict := some s.heap.objs.size } → h'.Ns1 s.heap.objs.size (fun y => if y = name then some v else none) → (∀ b o, b ≠ x → s.heap.get? b = some o → h'.get? b = some o) → Q () { s with heap := h', toks := tk' }) :
    wpAny (model prog w) A (setAttr (.ref x) name v) Q E s := by
  obtain ⟨h0, g, d, t, os⟩ := s
  have SF := PySem.F.store_ValueError
  have I : InstAt h0 x ox C none := ⟨hx, hc, by unfold notCls; rw [hda], by rw [hd]; trivial⟩
  have L0 := I.type (M := model prog w)
  have L1 := looks_findIn (M := model prog w) X hsa
  have L2 : Looks (model prog w) h0 (isInstance (.ref x) (.type "object")) true := L0.andThen (looks_mroIn X hO)
  have L3 : Looks (model prog w) h0 (mroOf (.ref C)) cd.mro := (looks_clsIn X hcl).andThen .now
  have L4 := looks_findIn (M := model prog w) X hn
  unfold setAttr
  refine wpAny_bind (wpAny_mkText ?_)
  refine wpAny_bind (wpAny_bind (wpAny_bind (L0.at (L1.at (wpAny_holding (wpAny_bind ?_))))))
  rw [SF.slot.bind]
  refine wpAny_pure (wpAny_bind ?_)
  show wpAny _ _ (call (Value.builtin "object.__setattr__") [Value.ref x, Value.str name t, v]) _ _ _
  refine wpAny_call (codeAny_call_builtin SF.slot.plain SF.entry (@check_slot (model prog w) _ _ ⟨h0, g, d, t + 1, os⟩ "object.__setattr__" "object" "__setattr__" (.ref x) [.str name t, v] [] _ SF.kind SF.split L2 (SF.args (.ref x) (.str name t) v) ?_))
  rw [osa_eq, refuse_eq]
  refine wpAny_bind (wpAny_bind (L0.at (wpAny_bind (L3.at ?_))))
  rw [hp]
  refine wpAny_pure (wpAny_bind (L0.at (wpAny_bind (L4.at (wpAny_bind (wpAny_pure ?_))))))
  show wpAny _ _ (storeInOwnDict (.ref x) (.ref C) (.str name t) name v _) _ _ _
  obtain ⟨oc, odi, oda, osl⟩ := ox
  simp only at hc hd hda
  subst hc hd hda
  have hne : x ≠ h0.objs.size := Nat.ne_of_lt (Heap.lt_size hx)
  unfold storeInOwnDict
  refine wpAny_bind (wpAny_pure ?_)
  show wpAny _ _ (ownDictForStores (.ref x) >>= _) _ _ _
  refine wpAny_bind ?_
  unfold ownDictForStores instanceDict
  refine wpAny_bind (wpAny_loadPart hx ?_)
  dsimp only
  refine wpAny_bind ((looks_clsIn X hcl).at ?_)
  rw [hh]
  refine wpAny_bind (wpAny_alloc' ?_)
  have hx1 : (h0.push { cls := .type "dict", data := .dict #[] }).get? x = some { cls := .ref C, dict := none, data := .fields vs, slots := osl } := Heap.get?_push_of_some _ hx
  refine wpAny_bind (wpAny_update' hx1 ?_)
  refine wpAny_pure ?_
  have gx : ((h0.push { cls := .type "dict", data := .dict #[] }).update x fun o => { o with dict := some h0.objs.size }).get? x = some { cls := .ref C, dict := some h0.objs.size, data := .fields vs, slots := osl } := Heap.get?_update_self _ hx1 rfl
  have gd : ((h0.push { cls := .type "dict", data := .dict #[] }).update x fun o => { o with dict := some h0.objs.size }).get? h0.objs.size = some { cls := .type "dict", data := .dict #[] } := (Heap.get?_update_ne _ _ _ _ hne.symm).trans (Heap.get?_push_at rfl rfl)
  have nd : ((h0.push { cls := .type "dict", data := .dict #[] }).update x fun o => { o with dict := some h0.objs.size }).Ns h0.objs.size (fun _ => none) := ⟨_, #[], _, gd, rfl, fun e he => absurd he (by simp), fun _ => rfl⟩
  show wpAny _ _ (storeInDict h0.objs.size (.str name t) name v) _ _ _
  unfold storeInDict newKeyGuard
  refine wpAny_bind (wpAny_pure (wpAny_bind (wpAny_nsSet1 (Heap.Ns1.of_empty nd) fun h' hn' hs => ?_)))
  obtain ⟨oD, eD, pD, h1, h2, h3⟩ := hn'.count (Within.cons name v Within.nil)
  refine wpAny_bind (wpAny_lookBehind h1 (by rw [h2]; exact pastItsLine_dict (Nat.le_trans h3 (by rw [List.length_cons, List.length_nil, sizeLine_eq]; omega))) ?_)
  refine wpAny_pure ?_
  refine wpAny_pure (wpAny_pure (k h' _ ((hs.2 x hne).trans gx) ?_ fun b o nb hb => ?_))
  · obtain ⟨o', es, ep, e1, e2, e3, eu, e4⟩ := hn'
    exact ⟨o', es, ep, e1, e2, e3, eu, fun y => by rw [e4 y]⟩
  · exact (hs.2 b (Nat.ne_of_lt (Heap.lt_size hb))).trans ((Heap.get?_update_ne _ _ _ _ nb).trans (Heap.get?_push_of_some _ hb))
end
end PySem.W

namespace PySem
section
variable {prog : Program} {w : World} {A : Around} {E : Value → Shared → Prop} {h : Heap} {g : Array GenState} {d : Drawn} {t : Nat} {os : OsState}
variable {nm q : Str} {C N : Addr} {bs bm bmB : List Value} {hdct : Bool} {sn : List Str} {sub : List Value} {ab : Bool} {col : Option Bool} {dd : Option Addr} {k0 k1 k2 k3 k5 : Option Value} {B Bn newId nid initId inN : String} {bmN : List Value}
/-- the built-in __init__ of an exception lays its arguments anew -/
theorem x_init (F : ExcBaseFacts B nid initId bmB) (T : OwnTail h bmB bm) {e t0 : Addr} {args : List Value} {Q : Value → Shared → Prop} (hz : args.length ≤ sizeLine)
    (cC : h.get? C = some (excClassObj nm q C N bs bm hdct sn sub ab col dd k0 k1 k2 k3 k5 newId)) (he : h.get? e = some (xNew C t0))
    (k : ∀ h' t', h'.get? e = some (xNew C t') → (∀ b o, b ≠ e → h.get? b = some o → h'.get? b = some o) → Q .none ⟨h', g, d, t, os⟩) :
    wpAny (model prog w) A (call (.builtin initId) (.ref e :: args)) Q E ⟨h, g, d, t, os⟩ := by
  refine wpAny_call (codeAny_call_builtin F.init.plain F.initEntry (wpAny_check_init_subU F T cC he rfl ?_))
  have hes := Heap.lt_size he
  wp_walk
  refine k _ h.objs.size ?_ fun b o nb hb => ?_
  · rw [Heap.get?_update_self _ (Heap.get?_push_of_some _ he) rfl]
    rfl
  · rw [Heap.get?_update_other _ _ (Ne.symm nb)]
    exact Heap.get?_push_of_some _ hb
end
end PySem

namespace L2
open PySem PySem.Spec PyProof.Rows
def vMro : List Value := [.type "ValueError", .type "Exception", .type "BaseException", .type "object"]
theorem ns_some {K : PySem.W.Frag} {h : Heap} {N : Addr} {mg : Str → Option Value} {n : Str} {v : Value} (X : K.In h) (G : h.Ns N mg) (e : PySem.W.nsIn K N n = some (some v)) : mg n = some v := by
  obtain ⟨o, es, ep, ho, hd, _, hf⟩ := G; unfold PySem.W.nsIn at e
  split at e
  · rename_i c d es' n' sl q; have z := X _ _ q; rw [ho] at z; cases z; cases hd
    split at e
    · rename_i en he; cases e; rw [← hf]; unfold nsFind findBy; rw [← Array.find?_toList, he]; rfl
    · split at e <;> cases e
  · cases e
/-- a class of the text that is an exception under ValueError, as the fragment has it -/
def xcIn (K : PySem.W.Frag) (C N : Addr) (bm : List Value) (init : Option Value) : Bool := match K.lookup C with
  | some ⟨.type "type", _, .cls cd, sl⟩ => (match cd.mro, sl.toList with
    | .ref C' :: bm', [_, _, _, _, some (.builtin n), _] => C' == C && (bm' == bm && (n == "ValueError.__new__" && (!cd.hasDel && (cd.hasDict && (cd.ns == N && (PySem.W.tailIn K vMro bm && (PySem.W.nsOkIn K N && PySem.W.nsIn K N "__init__" == some init)))))))
    | _, _ => false)
  | _ => false
structure XCls (h : Heap) (C N : Addr) (bm : List Value) (init : Option Value) : Prop where
  ex : ∃ nm q bs sn sub ab col dd k0 k1 k2 k3 k5 mN, h.get? C = some (excClassObj nm q C N bs bm true sn sub ab col dd k0 k1 k2 k3 k5 "ValueError.__new__") ∧ h.Ns N mN ∧ mN "__init__" = init
  tail : OwnTail h vMro bm
theorem xc_of {K : PySem.W.Frag} {h : Heap} {C N : Addr} {bm : List Value} {init : Option Value} (X : K.In h) (q : xcIn K C N bm init = true) : XCls h C N bm init := by
  unfold xcIn at q
  split at q
  · rename_i dd cd sl ho
    split at q
    · rename_i C' bm' k0 k1 k2 k3 n k5 hm hs
      simp only [Bool.and_eq_true, beq_iff_eq, Bool.not_eq_true'] at q
      obtain ⟨rfl, rfl, rfl, hdel, hdic, rfl, ht, hok, hni⟩ := q
      obtain ⟨nm, bs, mro, ns, qn, hd, sn, sub, ab, col, del⟩ := cd
      dsimp only at hm hdel hok hni hdic ht
      subst hm hdel hdic
      have hsl : sl = #[k0, k1, k2, k3, some (.builtin "ValueError.__new__"), k5] := by
        obtain ⟨l⟩ := sl
        simp only at hs
        rw [hs]
      subst hsl
      refine (⟨⟨nm, qn, bs, sn, sub, ab, col, dd, k0, k1, k2, k3, k5, h.nsMap ns, X _ _ ho, .of_isNs (PySem.W.isNs_of_in X hok), ?_⟩, PySem.W.tail_of_in X ht⟩ : XCls h _ _ _ _)
      cases init with
      | none => exact PySem.W.nsMap_none_of_in X hok hni
      | some v => exact ns_some X (.of_isNs (PySem.W.isNs_of_in X hok)) hni
    · cases q
  · cases q

def ExN (e C : Addr) : HO := .ext fun h => ∃ t, h.get? e = some (xNew C t)
def ExD (e C dd : Addr) : HO := .ext fun h => ∃ t, h.get? e = some { xNew C t with dict := some dd }
theorem upd_id {H : Hp} {a : Addr} {o : HO} (h : H a = some o) : upd H a o = H := by
  funext b
  unfold upd
  split
  · rename_i z; rw [z]; exact h.symm
  · rfl
section
variable {X : Cx}
/-- f"..{e!r}.." -/
def tFstr (a b : Str) (te : TE) : TE := fun σ H Q => te σ H fun y H1 => ∃ x : Str, y = .str x ∧ (∀ c ∈ x.cps.toList, c < 16 ^ 8) ∧ x.length ≤ 1000 ∧ ∀ z : Str, Q (.str z) H1
theorem pe_fstr {a b : Str} {e : Expr} {te : TE} {i j : Nat} {p1 p2 p3 pos : Pos} (he : PE X e te) (ha : a.length ≤ 1000 := by decide +kernel) (hb : b.length ≤ 1000 := by decide +kernel) : PE X (.JoinedStr [.Constant (.str a) i p1, .FormattedValue e 114 none p2, .Constant (.str b) j p3] pos) (tFstr a b te) := by
  intro pins s σ H Q I h
  have big : 20000 ≤ sizeLine := by decide
  have e0 : (Str.empty ++ a).length = a.length := by rw [strLen_append]; simp [Str.empty, Str.length]
  refine wpAny_JoinedStr ?_
  refine Calls.Constant_str ⟨a, _, rfl, by omega, ?_⟩
  refine wpAny_FormattedValue_repr (thn (he pins _ σ H _ (I.tok _) h) fun u s1 ⟨y, H1, I1, ry, x, ey, hc, hx, q⟩ => ?_)
  subst ey
  obtain ⟨t, rfl⟩ := ry
  have hl := StrLaws.reprText_len x hc
  have e1 : (Str.empty ++ a ++ reprText x).length = a.length + (reprText x).length := by rw [strLen_append, e0]
  have e2 : (Str.empty ++ a ++ reprText x ++ b).length = a.length + (reprText x).length + b.length := by rw [strLen_append, e1]
  refine wpAny_pyReprObj_str (hsz := by omega) (wpAny_formatField_str (hx := by omega) ?_ ?_)
  · refine ⟨_, _, rfl, by omega, Calls.Constant_str ⟨b, _, rfl, by omega, ⟨by omega, .str _, H1, ?_, ⟨_, rfl⟩, q _⟩⟩⟩
    exact ((I1.tok _).tok _).tok _
  · refine ⟨_, _, rfl, by omega, Calls.Constant_str ⟨b, _, rfl, by omega, ⟨by omega, .str _, H1, ?_, ⟨_, rfl⟩, q _⟩⟩⟩
    exact (((I1.tok _).tok _).tok _).tok _
end
end L2

namespace L2
open PySem PySem.Spec PyProof.Rows
theorem exN_ok {P : Program} {w : World} {H : Hp} {h : Heap} {e C t : Addr} (he : h.get? e = some (xNew C t)) : ObjOk P w H h e (ExN e C) := ⟨⟨t, he⟩, ⟨_, he⟩, fun _ _ ⟨t, z⟩ k => ⟨t, k _ z⟩⟩
theorem exD_ok {P : Program} {w : World} {H : Hp} {h : Heap} {e C t dd : Addr} (he : h.get? e = some { xNew C t with dict := some dd }) : ObjOk P w H h e (ExD e C dd) := ⟨⟨t, he⟩, ⟨_, he⟩, fun _ _ ⟨t, z⟩ k => ⟨t, k _ z⟩⟩
section
variable {X : Cx}
/-- C.__init__(self, text), C an own class under ValueError without one: what it inherits -/
def tCeInit (K : PySem.W.Frag) (ts tf : TE) : TE := fun σ H Q => ts σ H fun x H1 => tf σ H1 fun y H2 => ∃ (e C N : Addr) (bm : List Value) (i : Option Value) (z : Str), x = .ref e ∧ y = .str z ∧ H2 e = some (ExN e C) ∧ xcIn K C N bm i = true ∧ Q .non H2
theorem pe_ceInit {x : Str} {np apos pos : Pos} {es ef : Expr} {ts tf : TE} {CE : Addr} (hg : Gl X x) (hm : X.mg x = some (.ref CE)) (hgm : PySem.W.specialIn X.K (.ref CE) "__getattribute__" = some (some (.builtin "type.__getattribute__")))
    (hrd : PySem.W.readsIn X.K CE (.type "type") = true) (hfc : PySem.W.findCls X.K (.ref CE) (.type "type") "__init__" = some (.val (.builtin "ValueError.__init__"))) (hs : PE X es ts) (hf : PE X ef tf) (m : M2 X (.Name x np) "__init__" apos es ef pos)
    (hdb : (x == ("__debug__" : Str)) = false := by decide) : PE X (.Call (.Attribute (.Name x np) "__init__" apos) [es, ef] [] pos) (tCeInit X.K ts tf) := by
  intro pins s σ H Q I h
  rw [arm_eval_Call, m.base]
  refine wpAny_bind (ld_glob I hg hm ?_ hdb)
  refine wpAny_bind (wpAny_standAt ?_)
  have form : methodCallForm (([es, ef] : List Expr).length + ([] : List Keyword).length) (backTo pos (starEach [es, ef] X.env)) (backToKw pos (keywordEach [] X.env)) = true := m.few
  have hpos : methodCallPos true (.Name x np) X.env apos pos = pure pos := by unfold methodCallPos; simp [m.line]
  unfold methodCall
  rw [form]
  refine wpAny_bind (wpAny_holding ?_)
  refine PySem.W.method_cls I.kIn hgm (PySem.W.cls_value I.kIn hrd hfc rfl ?_)
  refine wpAny_bind (wpAny_of_eq hpos ?_)
  rw [m.trees]
  refine Calls.callWith_builtin rfl (Calls.evalArgs_plain (Calls.spliced_cons (thn (hs pins _ σ H _ (I.tok _) h) fun u s2 ⟨y, H2, I2, ry, q2⟩ =>
    Calls.spliced_cons (thn (hf pins s2 σ H2 _ I2 q2) fun fv s3 ⟨z, H3, I3, rz, e, C, N, bm, i, zz, ey, ez, he, xc, q3⟩ => Calls.spliced_nil ?_))))
  subst ey ez
  obtain rfl : u = Value.ref e := ry
  obtain ⟨⟨t0, het⟩, _, _⟩ := I3.hok e _ he
  have xk := xc_of I3.kIn xc
  obtain ⟨nm, q, bs, sn, sub, ab, col, dd, k0, k1, k2, k3, k5, mN, cC, cN, ci⟩ := xk.ex
  obtain ⟨h3, g3, d3, t3, os3⟩ := s3
  refine x_init PySem.F.excBase_ValueError xk.tail (show ([fv] : List Value).length ≤ sizeLine by show 1 ≤ sizeLine; decide) cC het fun h' t' he' keep => ?_
  have I4 := I3.write (x := e) (e := e) (o := ExN e C) (t' := t3) (by rw [he]; exact True.intro) (.inl rfl) keep ⟨_, he'⟩ (exN_ok he')
  rw [upd_id he] at I4
  exact ⟨.non, H3, I4, rfl, q3⟩
/-- self.a = v: the first attribute of an exception -/
def sXset (K : PySem.W.Frag) (to tv : TE) (f : Str) : TS := fun D σ H => tv σ H fun y H1 => to σ H1 fun x H2 => ∃ (e C N : Addr) (bm : List Value) (i : Option Value), x = .ref e ∧ H2 e = some (ExN e C) ∧ xcIn K C N bm i = true ∧
  PySem.W.findIn K (.ref C) "__setattr__" = some (some (.builtin "object.__setattr__")) ∧ PySem.W.findIn K (.ref C) f = some none ∧ (∀ a, refuseLoop (.ref a) "__setattr__" (.ref C :: bm) = pure ()) ∧ bm.contains (.type "object") = true ∧
  ∀ dd, H2 dd = none → D.nx σ (upd (upd H2 dd (.xd [(f, y)])) e (ExD e C dd))
theorem xcls_clsIn {K : PySem.W.Frag} {C N : Addr} {bm : List Value} {i : Option Value} (q : xcIn K C N bm i = true) : ∃ cd, PySem.W.clsIn K C = some cd ∧ cd.hasDict = true ∧ cd.mro = .ref C :: bm := by
  unfold xcIn at q
  split at q
  · rename_i dd cd sl ho
    split at q
    · rename_i C' bm' k0 k1 k2 k3 n k5 hm hs
      simp only [Bool.and_eq_true, beq_iff_eq, Bool.not_eq_true'] at q
      obtain ⟨rfl, rfl, rfl, hdel, hdic, rfl, ht, hok, hni⟩ := q
      refine ⟨cd, ?_, hdic, hm⟩
      unfold PySem.W.clsIn
      rw [ho]
    · cases q
  · cases q
theorem ps_xset {o value : Expr} {f : Str} {to tv : TE} {pos' pos : Pos} (ho : PE X o to) (hv : PE X value tv) (hs : swapsWith value (some (.Attribute o f pos')) pos.line X.env = pure false) : PS X (.Assign [.Attribute o f pos'] value pos) (sXset X.K to tv f) := by
  intro pins s σ H D I h
  refine plainObj_wpAny_Assign_Attribute (thn (hv pins s σ H _ I h) fun u s1 ⟨y, H1, I1, ry, q⟩ => thn (ho pins s1 σ H1 _ I1 q) fun ov s2 ⟨x, H2, I2, rx, e, C, N, bm, i, ex, he, xc, fs, fn, rf, hob, q2⟩ => ?_) hs
  subst ex
  obtain rfl : ov = Value.ref e := rx
  obtain ⟨⟨t0, het⟩, _, _⟩ := I2.hok e _ he
  obtain ⟨cd, hcl, hdi, hmr⟩ := xcls_clsIn xc
  have hO : PySem.W.mroIn X.K C (.type "object") = some true := by
    unfold PySem.W.mroIn
    rw [hcl, Option.bind_some, hmr, if_neg (by simp), List.contains_cons, hob, Bool.or_true]
  refine PySem.W.x_set I2.kIn het rfl rfl rfl fs hcl hdi hO (by rw [hmr]; exact rf e) fn fun h' tk' g1 g2 g3 => ?_
  have ne : s2.heap.objs.size ≠ e := fun z => absurd (Heap.lt_size het) (by rw [← z]; exact Nat.lt_irrefl _)
  have u1 : (h'.update e fun _ => xNew C t0).get? e = some (xNew C t0) := Heap.get?_update_self _ g1 rfl
  have u2 : ∀ b, b ≠ e → (h'.update e fun _ => xNew C t0).get? b = h'.get? b := fun b n => Heap.get?_update_other _ _ (Ne.symm n)
  have hnd := I2.hok.fresh (Nat.le_refl s2.heap.objs.size)
  have I3 := I2.laid (a := s2.heap.objs.size) (o := .xd [(f, y)]) (h' := h'.update e fun _ => xNew C t0) (t' := tk') (fun b v q => ?_) (Nat.le_refl _) ?_
  rotate_left
  · by_cases n : b = e
    · subst n
      rw [het] at q
      cases q
      exact u1
    · rw [u2 b n]; exact g3 b v n q
  · obtain ⟨o', es, ep, e1, e2⟩ := g2
    refine ⟨_, ⟨o', es, ep, by rw [u2 _ ne]; exact e1, e2⟩, fun f' => ?_⟩
    by_cases n : f' = f
    · subst n
      simp only [List.lookup_cons, beq_self_eq_true, if_true]
      exact ry
    · have : (f' == f) = false := beq_eq_false_iff_ne.mpr n
      simp only [List.lookup_cons, this, if_neg n, List.lookup_nil]
      trivial
  have I4 := I3.write (x := e) (e := e) (o := ExD e C s2.heap.objs.size) (h' := h') (t' := tk') (by rw [upd_ne ne.symm, he]; exact True.intro) (.inl rfl) (fun b v n q => by rw [← u2 b n]; exact q) ⟨_, g1⟩ (exD_ok g1)
  exact ⟨σ, _, I4, q2 _ hnd⟩
end
end L2

namespace L2
open PySem PySem.Spec PyProof.Rows
section
variable {X : Cx} {k : Nat} {f C N : Addr} {bm : List Value} {fd : FuncData} {ps : List Str} {sp : Sp} {x : Str} {p pos : Pos} {e : Expr} {es : List Expr} {t : TA}
/-- C(..), C an own exception class with an __init__ of its own -/
def tXmake (C : Addr) (sp : Sp) (t : TA) : TE := fun σ H Q => t σ H fun vs H1 => vs.length ≤ 10 ∧ ∀ a, H1 a = none → sp (.ref a :: vs) (upd H1 a (ExN a C)) (fun v H2 => v = .non ∧ Q (.ref a) H2) E0
theorem pe_xmake (xc : xcIn X.K C N bm (some (.ref f)) = true) (hkC : PySem.W.keepIn X.K (.ref C) = true) {oI : Obj} (hf : X.K.lookup f = some oI) (hfc : oI.cls = .type "function") (F : FnOk X.prog X.w X.K X.mg X.base CX0 k f fd ps sp) (hr : Room (k + 1) X.A) (hg : Gl X x) (hm : X.mg x = some (.ref C)) (hb : Binds X.K fd ps [])
    (ha : PA X (e :: es) t) (hdb : (x == ("__debug__" : Str)) = false := by decide) (he : starEach (e :: es) X.env = (false, eval e X.env) :: starEach es X.env := by rfl) (hpl : (backTo pos (starEach es X.env)).any (·.1) = false := by rfl) :
    PE X (.Call (.Name x p) (e :: es) [] pos) (tXmake C sp t) := by
  intro pins s σ H Q I h
  refine wpAny_Call_Name_kw (ld_glob I hg hm ?_ hdb)
  refine PySem.W.callWith_K (h₀ := X.base) I.ok.mod.kin hkC (thn (ha pos pins s σ H _ I h) fun us s1 ⟨vs, H1, I1, r, hl, q⟩ => ⟨I1.kIn, ?_⟩) he hpl
  have xk := xc_of I1.kIn xc
  obtain ⟨nm, qn, bs, sn, sub, ab, col, dd, k0, k1, k2, k3, k5, mN, cC, cN, ci⟩ := xk.ex
  have hz : us.length ≤ sizeLine := by rw [← r.length]; exact Nat.le_trans hl (by decide)
  obtain ⟨h1, g1, d1, t1, os1⟩ := s1
  refine x_call PySem.F.excBase_ValueError PySem.F.excBase_ValueError.hasB PySem.F.excBase_ValueError xk.tail cC cN ci (I1.kIn _ _ hf) hfc hz fun h' a la mk => ?_
  obtain ⟨ta, ea, nta, eta⟩ := mk.there
  have na : H1 a = none := I1.hok.fresh la
  have q1 := q a na
  have I2 : Inv X pins σ (upd H1 a (ExN a C)) ⟨h', g1, d1, t1, os1⟩ := I1.laid (a := a) (o := ExN a C) (t' := t1) mk.keeps la (exN_ok ea)
  have r2 : Vals (V.ref a :: vs) (Value.ref a :: us) := .cons rfl r
  have hlen : (Value.ref a :: us ++ []).length = ps.length := by
    rw [List.append_nil, ← r2.length]; exact F.len _ _ _ _ q1
  have bb := hb _ (Value.ref a :: us) I2.kIn hlen
  rw [List.append_nil] at bb
  refine wpAny_call (codeAny_mono (F.run _ X.stack _ _ ⟨Value.ref a :: us, []⟩ (Value.ref a :: us) _ _ E0 (hr.make C us []) (I2.env0.make C us []) bb r2 q1) fun rr s' hq' => ?_)
  cases rr with
  | error ev => exact hq'.elim
  | ok fl =>
    cases fl with
    | ret u =>
      obtain ⟨v, H', I3, rv, ev, q3⟩ := I2.after hq'
      subst ev
      exact ⟨rv, ⟨V.ref a, H', I3, rfl, q3⟩⟩
    | next => exact False.elim hq'
    | brk => exact False.elim hq'
    | cont => exact False.elim hq'
end
section
variable {P : Program} {w : World} {K : PySem.W.Frag} {mg : Str → Option Value} {base : Heap} {Nm : List Str} {qual : Str} {scope : Scope} {f : Addr} {cd : Value} {A : Around} {outer : List Env} {s0 : Shared} {H0 : Hp} {E : XK}
/-- raise e, e a made exception: out of this def -/
def tRaise (K : PySem.W.Frag) (E : XK) (t : TE) : TS := fun _ σ H => t σ H fun v H1 => ∃ (e C N dd : Addr) (bm : List Value) (i : Option Value), v = .ref e ∧ H1 e = some (ExD e C dd) ∧ xcIn K C N bm i = true ∧ bm.contains (.type "BaseException") = true ∧
  ∀ T, H1 T = none → E (.ref C) (some dd) (upd (upd H1 e (ExC e (.ref C) (some dd))) T (AnyO T))
theorem ps_raiseV {ec : Expr} {pos : Pos} {t : TE} (he : PE (cxOf (CXe P w) P w K mg base Nm qual scope f cd A outer s0 H0 E) ec t) : PS (cxOf (CXe P w) P w K mg base Nm qual scope f cd A outer s0 H0 E) (.Raise (some ec) none pos) (tRaise K E t) := by
  intro pins s σ H D I h
  rw [arm_exec_Raise]
  refine wpAny_bind (wpAny_standAt ?_)
  refine x_throw (I.ok.hd rfl) (wpAny_bind (thn (he pins s σ H _ I h) fun u s1 z => wpAny_bind (wpAny_standAt (wpAny_pure ?_))))
  obtain ⟨v, H1, I1, rv, e, C, N, dd, bm, i, ev, hx, xc, hB, hE⟩ := z
  subst ev
  obtain rfl : u = Value.ref e := rv
  have xk := xc_of I1.kIn xc
  obtain ⟨nm, qn, bs, sn, sub, ab, col, ddc, k0, k1, k2, k3, k5, mN, cC, cN, ci⟩ := xk.ex
  obtain ⟨⟨t0, het⟩, _, _⟩ := I1.hok e _ hx
  refine ⟨e, _, _, C, N, bm, nm, qn, bs, true, sn, sub, ab, col, ddc, k0, k1, k2, k3, k5, _, rfl, cC, hB, het, rfl, rfl, rfl, ?_⟩
  have I2 := I1.write (x := e) (e := e) (o := ExC e (.ref C) (some dd)) (h' := s1.heap) (t' := s1.toks) (by rw [hx]; exact True.intro) (.inl rfl) (fun _ _ _ q => q) ⟨_, het⟩ (exC_ok het rfl rfl rfl)
  refine x_leave1 (base := base) (env := envOfC qual scope s0.heap.objs.size f cd) (outer := outer) (L := s0.heap.objs.size) I1.ok.frames I1.stack rfl het rfl rfl fun h' T kp xa nT => ?_
  have te : (upd H1 e (ExC e (.ref C) (some dd))) e = some (ExC e (.ref C) (some dd)) := upd_same
  have hT : (upd H1 e (ExC e (.ref C) (some dd))) T = none := I2.hok.fresh nT
  have hT1 : H1 T = none := I1.hok.fresh nT
  have ne : T ≠ e := fun z => by rw [z, te] at hT; cases hT
  exact ⟨e, T, .ref C, some dd, _, rfl, I2.os, I2.bare, un_note I2.base kp (fun b o q z => fs_old q z) (fun b z => by rw [List.mem_singleton.mp z, te]; simp) hT nT, hok_note I2.hok kp I2.stkFree te (fun b z => .inl (List.mem_singleton.mp z)) xa hT, xa, by rw [upd_ne ne.symm]; exact te, upd_same, hE T hT1⟩
end
end L2

namespace L2
open PySem PySem.Spec PyProof.Rows
theorem x_matches {K : PySem.W.Frag} {M : Model} {A : Around} {E : Value → Shared → Prop} {s : Shared} {e : Addr} {oe : Obj} {cls c : Value} {b : Bool} {Q : Bool → Shared → Prop} (X : K.In s.heap) (he : s.heap.get? e = some oe) (hc : oe.cls = cls) (h : PySem.W.exmOne K cls c = some b) (q : Q b s) :
    wpAny M A (excMatches (.ref e) c) Q E s := by
  obtain ⟨L1, L2⟩ := PySem.W.exm_cls (M := M) X h
  have L3 := PySem.W.exm_ty (M := M) X h
  have L4 : PySem.W.Looks M s.heap (typeOf (.ref e)) cls := hc ▸ (PySem.W.Looks.ld he).andThen .now
  unfold excMatches
  refine wpAny_bind (L3.here ?_)
  simp only [Bool.false_eq_true, if_false]
  refine wpAny_bind (wpAny_pure ?_)
  simp only [List.forIn_cons, List.forIn_nil]
  refine wpAny_bind (wpAny_bind (wpAny_bind (L1.here ?_)))
  simp only [Bool.not_true, Bool.false_eq_true, if_false]
  refine wpAny_pure (wpAny_pure (wpAny_bind (L4.here (wpAny_bind (wpAny_bind (wpAny_bind (L2.here ?_)))))))
  cases b
  · simp only [Bool.false_eq_true, if_false]
    exact wpAny_pure (wpAny_pure (wpAny_pure q))
  · simp only [if_true]
    exact wpAny_pure (wpAny_pure (wpAny_pure q))
section
variable {X : Cx} {pins : List (Addr × Obj)} {σ : St} {H : Hp} {s : Shared}
/-- a name goes behind a suite -/
theorem goes_ok {M : Model} {A : Around} {E : Value → Shared → Prop} {j : Nat} {n : Str} {pos : Pos} {Q : Unit → Shared → Prop} (I : Inv X pins σ H s) (hN : X.N.Nodup) (hj : X.N[j]? = some n) (hl : X.env.scope.names.lookup n = some .local)
    (h : ∀ s', Inv X pins (σ.set j none) H s' → Q () s') : wpAny M A (do bindName X.env n .none; unbindBehindTheSuite X.env n pos) Q E s := by
  obtain ⟨m, hn, hv⟩ := id I.loc
  refine wpAny_nameGoes_keeps hl hn (by rw [I.ok.kind]; rfl) fun h' v hn' sb => h _ ?_
  have keep : ∀ b o, b ≠ X.env.locals → s.heap.get? b = some o → h'.get? b = some o := fun b o nb q => (sb.2 b nb).trans q
  refine ⟨I.ok, I.os, I.bare, ?_, ⟨_, hn', fun i x w hi hσ hvis => ?_⟩, fun x c hc => ?_, I.free, I.freeC, fun p hp => ?_, fun a o e => ?_, by rw [List.length_set]; exact I.len⟩
  · have neL : ∀ b o, X.s₀.heap.get? b = some o → b ≠ X.env.locals := fun b o e => Nat.ne_of_lt (Nat.lt_of_lt_of_le (Heap.lt_size e) I.ok.above)
    refine ⟨fun b o q z nf nx => keep b o (neL b o q) (I.base.keep b o q z nf nx), fun b o q z hb nx => ?_, I.base.free, fun b o q nx => ?_, I.base.tups, I.base.frzs, I.base.tbls⟩
    · obtain ⟨sl, r⟩ := I.base.slot b o q z hb nx
      exact ⟨sl, keep b _ (neL b o q) r⟩
    · obtain ⟨o', r⟩ := I.base.there b o q nx
      exact ⟨o', keep b _ (neL b o q) r⟩
  · by_cases ij : j = i
    · subst ij
      by_cases hlt : j < σ.length
      · rw [List.getElem?_set_self hlt] at hσ; cases hσ
      · rw [List.getElem?_eq_none (by rw [List.length_set]; omega)] at hσ; cases hσ
    rw [List.getElem?_set_ne ij] at hσ
    have xn : x ≠ n := fun z => by
      subst z
      have l1 := (List.getElem?_eq_some_iff.mp hi)
      have l2 := (List.getElem?_eq_some_iff.mp hj)
      exact ij ((List.getElem_inj (hN)).mp (l2.2.trans l1.2.symm))
    obtain ⟨u, ru, lk⟩ := hv i x w hi hσ hvis
    refine ⟨u, ru, ?_⟩
    rcases lk with ⟨k1, k2⟩ | ⟨k1, c, k2, o, k3, k4⟩
    · exact .inl ⟨k1, by show (if x = n then v else m x) = some u; rw [if_neg xn]; exact k2⟩
    · exact .inr ⟨k1, c, k2, o, keep c o (I.cne x c k2) k3, k4⟩
  · obtain ⟨v', o, k3, k4⟩ := I.cell x c hc
    exact ⟨v', o, keep c o (I.cne x c hc) k3, k4⟩
  · obtain ⟨a1, a2, a3, a4⟩ := I.pin p hp
    exact ⟨keep _ _ a3 a1, a2, a3, a4⟩
  · refine (I.hok a o e).stay (fun b u hb q => keep b u (fun z => ?_) q) (fun _ q => q) fun _ _ q => q
    have := I.free
    rcases hb with rfl | hb
    · rw [z, this] at e; cases e
    · rw [z, this] at hb; cases hb
/-- within an except suite -/
abbrev Cx.marked (X : Cx) (e : Addr) (E : Value → Shared → Prop) : Cx := { X with A := X.A.mark (some (.ref e)), calm := false, xe := E }
theorem Inv.marked (I : Inv X pins σ H s) (e : Addr) (E : Value → Shared → Prop) : Inv (X.marked e E) pins σ H s := by
  obtain ⟨ok, a1, a2, a3, a4, a5, a6, a7, a8, a9, a10⟩ := I
  obtain ⟨b1, b2, b3, b4, b5, b6, b7, b8, b9, b10, b11, b12, b13, b14, b15, b16, b17, b18⟩ := ok
  exact ⟨⟨b1, b2, b3, b4, b5, b6, b7, b8, (fun z => by cases z), b10, b11, b12, b13, b14, b15, b16, b17, b18⟩, a1, a2, a3, a4, a5, a6, a7, a8, a9, a10⟩
theorem Inv.unmarked {e : Addr} {E : Value → Shared → Prop} (ok : X.Ok) (I : Inv (X.marked e E) pins σ H s) : Inv X pins σ H s := by
  obtain ⟨_, a1, a2, a3, a4, a5, a6, a7, a8, a9, a10⟩ := I
  exact ⟨ok, a1, a2, a3, a4, a5, a6, a7, a8, a9, a10⟩
end
theorem inv_note {X : Cx} {pins : List (Addr × Obj)} {σ : St} {H : Hp} {s : Shared} {h' : Heap} {xs : List Addr} {e T : Addr} {C fl : Value} {od : Option Addr} (I : Inv X pins σ H s) (k : XKeep (frOf X.stack) xs s.heap h') (te : H e = some (ExC e C od)) (hx : ∀ b ∈ xs, b = e ∨ H b = some (AnyO b)) (x : XAt h' e C od T fl) (hT : s.heap.objs.size ≤ T) :
    Inv X pins σ (upd H T (AnyO T)) { s with heap := h' } := by
  have nT := I.hok.fresh hT
  refine I.call (g' := s.gens) (d' := s.drawn) (t' := s.toks) (ch := []) (un_note Un.refl k (fun b o _ z => z) (fun b z => ?_) nT hT) (hok_note I.hok k I.stkFree te hx x nT) I.bare (fun b z => absurd z (by simp))
  rcases hx b z with y | y
  · rw [y, te]; simp
  · rw [y]; simp
theorem inv_flight {X : Cx} {pins : List (Addr × Obj)} {σ : St} {H : Hp} {s : Shared} {h' : Heap} {T : Addr} (I : Inv X pins σ H s) (k : XKeep [] [T] s.heap h') (tT : H T = some (AnyO T)) : Inv X pins σ H { s with heap := h' } := by
  obtain ⟨⟨o, ho⟩, _⟩ := I.hok T _ tT
  obtain ⟨o', ho'⟩ := k.there T o ho
  have J := I.write (x := T) (e := T) (o := AnyO T) (t' := s.toks) (by rw [tT]; exact True.intro) (.inl rfl) (fun b u n q => k.keep b u q (by simpa using n) (by simp)) ⟨_, ho'⟩ (anyO_ok ho')
  rw [upd_id tT] at J
  exact J
section
variable {X : Cx} {P : Program} {w : World} {K : PySem.W.Frag} {k : Nat} {f CE : Addr} {fd : FuncData} {ps : List Str} {sp : Sp} {ta : TA}
/-- try: name = f(..) except C as e: caught = e -/
def tTry (K : PySem.W.Frag) (CE : Addr) (i j l : Nat) (sp : Sp) (ta : TA) : TS := fun D σ H => ta σ H fun vs H1 => sp vs H1 (fun v H2 => D.nx (σ.set i (some v)) H2)
  (fun C od H2 => ∀ e T, H2 e = some (ExC e C od) → H2 T = none → PySem.W.exmOne K C (.ref CE) = some true ∧ D.nx (((σ.set j (some (.ref e))).set l (some (.ref e))).set j none) (upd H2 T (AnyO T)))
theorem ps_tryAs {i j l : Nat} {fx g cx en ct : Str} {e0 : Expr} {es : List Expr} {fp gp cpos ap cp tp ep sp' hp pos : Pos} {f : Addr}
    (F : FnOk X.prog X.w X.K X.mg X.base (CXe X.prog X.w) k f fd ps sp) (hr : Room k X.A) (hgf : Gl X g) (hmf : X.mg g = some (.ref f)) (hkf : PySem.W.keepIn X.K (.ref f) = true) (hb : Binds X.K fd ps []) (ha : PA X.nox (e0 :: es) ta)
    (hgc : Gl X cx) (hmc : X.mg cx = some (.ref CE)) (hN : X.N.Nodup) (hi : X.N[i]? = some fx) (hj : X.N[j]? = some en) (hl : X.N[l]? = some ct) (lf : Loc X.env.scope fx) (le : X.env.scope.names.lookup en = some .local) (lc : X.env.scope.names.lookup ct = some .local)
    (hff : X.fn fx = true) (hst : X.stack = X.env :: X.outer) (hfl : X.env.frame = some X.env.locals) (hc : X.calm = true) (hex : X.ex = [])
    (hd1 : (g == ("__debug__" : Str)) = false := by decide) (hd2 : (cx == ("__debug__" : Str)) = false := by decide) (hd3 : (en == ("__debug__" : Str)) = false := by decide) (hd4 : (en == ("__classdict__" : Str)) = false := by decide)
    (he : starEach (e0 :: es) X.env = (false, eval e0 X.env) :: starEach es X.env := by rfl) (hpl : (backTo cpos (starEach es X.env)).any (·.1) = false := by rfl)
    (hs1 : swapsWith (.Call (.Name g gp) (e0 :: es) [] cpos) (some (.Name fx fp)) ap.line X.env = pure false := by rfl) (hs2 : swapsWith (.Name en ep) (some (.Name ct tp)) sp'.line X.env = pure false := by rfl) :
    PS X (.Try [.Assign [.Name fx fp] (.Call (.Name g gp) (e0 :: es) [] cpos) ap] [.ExceptHandler (some (.Name cx cp)) (some en) [.Assign [.Name ct tp] (.Name en ep) sp'] hp] [] [] pos) (tTry X.K CE i j l sp ta) := by
  intro pins s σ H D I h
  refine wpAny_Try_except ?_
  refine wpAny_execs_cons (wpAny_Assign_Name (wpAny_Call_Name_kw (ld_glob I hgf hmf ?_ hd1)) hs1)
  refine PySem.W.callWith_K (h₀ := X.base) I.ok.mod.kin hkf (wpAny_mono (ha cpos pins s σ H _ (I.wish _) h) (fun us s1 z => ?_) fun _ _ z => z.elim) he hpl
  obtain ⟨vs, H1, I1w, r, q⟩ := z
  have I1 : Inv X pins σ H1 s1 := I1w.unwish
  refine ⟨I1.kIn, ?_⟩
  have hlen : (us ++ []).length = ps.length := by rw [List.append_nil, ← r.length]; exact F.len _ _ _ _ q
  have bb := hb s1 us I1.kIn hlen
  rw [List.append_nil] at bb
  refine wpAny_call (codeAny_mono (F.run X.A X.stack s1 H1 ⟨us, []⟩ us vs _ _ hr I1.env0 bb r q) fun rr s' hq => ?_)
  cases rr with
  | ok fl =>
    cases fl with
    | ret u =>
      obtain ⟨v, H2, I2, rv, q2⟩ := I1.after hq
      exact store_ok I2 hN hi lf rv (fun s3 I3 => wpAny_execs_nil (wpAny_execs_nil ⟨_, H2, I3, q2⟩)) (.inl hff)
    | next => exact False.elim hq
    | brk => exact False.elim hq
    | cont => exact False.elim hq
  | error ev =>
    obtain ⟨e, T, C, od, H2, rfl, hos, hbare, un, hok, xa, te, tT, hE⟩ := hq
    have I2 : Inv X pins σ H2 s' := I1.call' (ch := []) hos un hok hbare (fun b z => absurd z (by simp))
    have frm : X.A.frames = some (X.env :: X.outer) := by rw [← hst]; exact I2.ok.frames
    refine x_note2 (base := X.base) frm (by rw [← hst]; exact I2.stack) hfl xa fun h3 T3 kp3 x3 n3 => ?_
    refine x_flight x3 fun h4 kp4 x4 => ?_
    have nT3 := Heap.get?_none_of_le n3
    have kp : XKeep (frOf X.stack) [e, T] s'.heap h4 := by
      rw [hst]
      refine ⟨fun b o e1 n1 n2 => ?_, fun b o e1 n1 => ?_, fun b o e1 => ?_⟩
      · exact kp4.keep b o (kp3.keep b o e1 n1 n2) (fun z => by simp at z; subst z; rw [nT3] at e1; cases e1) (by simp)
      · obtain ⟨y1, q1⟩ := kp3.slot b o e1 n1
        exact ⟨y1, kp4.keep b _ q1 (fun z => by simp at z; subst z; rw [nT3] at e1; cases e1) (by simp)⟩
      · obtain ⟨o1, q1⟩ := kp3.there b o e1
        exact kp4.there b o1 q1
    have hT3 : H2 T3 = none := hok.fresh n3
    have I4 : Inv X pins σ (upd H2 T3 (AnyO T3)) { s' with heap := h4 } := inv_note I2 kp te (fun b z => by
      rcases List.mem_cons.mp z with z | z
      · exact .inl z
      · rw [List.mem_singleton.mp z]; exact .inr tT) x4 n3
    obtain ⟨hm, hD⟩ := hE e T3 te hT3
    obtain ⟨oe, vs', oT, ts, he4, hc4, _⟩ := id x4.ex
    refine wpAny_handleBy_cons (codeAny_handlers_test (ld_glob (X := X.marked e (notedBy (model X.prog X.w) (X.A.mark (some (.ref e))) X.env (cameBackBy (model X.prog X.w) X.A X.env X.xe))) (I4.marked e _) hgc hmc ?_ hd2)) (by intro z; cases z)
    refine x_matches I4.kIn he4 hc4 hm ?_
    refine codeAny_handlers_suite_as (x_flight x4 fun h5 kp5 x5 => ?_)
    have I5 := inv_flight (s := { s' with heap := h4 }) I4 kp5 upd_same
    refine store_ok (v := V.ref e) I5 hN hj (Or.inl le) (show RelV (V.ref e) (Value.ref e) from rfl) (fun s6 I6 => ?_) (.inr le)
    have hjl : j < σ.length := by rw [I5.len]; exact (List.getElem?_eq_some_iff.mp hj).1
    have suite : PSs (X.marked e (fun _ _ => False)) [.Assign [.Name ct tp] (.Name en ep) sp'] (tAsg (tVar j) (gName l)) := pss_one (ps_set (X := X.marked e (fun _ _ => False)) (i := l) hN hl (Or.inl lc) (pe_var (X := X.marked e (fun _ _ => False)) hj (Or.inl le) hd3 hd4) hs2 (.inr lc))
    refine wpAny_mono (suite pins s6 _ _ { nx := fun σ' H' => σ' = ((σ.set j (some (.ref e))).set l (some (.ref e))) ∧ H' = upd H2 T3 (AnyO T3), rt := fun _ _ => False } (I6.marked e (fun _ _ => False)) ⟨.ref e, by rw [List.getElem?_set_self hjl], rfl, rfl⟩) (fun fl s7 z => ?_) fun _ _ z => z.elim
    cases fl with
    | next =>
      obtain ⟨σ7, H7, I7, rfl, rfl⟩ := z
      exact goes_ok (I7.unmarked I.ok) hN hj le fun s8 I8 => ⟨_, _, I8, hD⟩
    | ret u => obtain ⟨_, _, _, _, _, z⟩ := z; exact z.elim
    | brk => obtain ⟨_, _, _, z⟩ := z; exact z.elim
    | cont => obtain ⟨_, _, _, z⟩ := z; exact z.elim
end
end L2

namespace PySem.W
open PySem PySem.Calls PyProof.Rows Builtin Builtin.ObjectAttr
structure XFacts (K : Frag) (C : Addr) : Prop where
  ga : findIn K (.ref C) "__getattribute__" = some (some (.builtin "BaseException.__getattribute__"))
  gh : findIn K (.ref C) "__getattr__" = some none
  mb : mroIn K C (.type "BaseException") = some true
  mo : mroIn K C (.type "object") = some true
  cl : findIn K (.ref C) "__class__" = some (some (.builtin "object.__class__"))
  cg : specialIn K (.builtin "object.__class__") "__get__" = some (some (.builtin "getset_descriptor.__get__"))
  ct : takesIn K (.builtin "object.__class__") = some true
section
variable {prog : Program} {w : World} {A : Around} {E : Value → Shared → Prop} {s : Shared} {K : Frag} {x C : Addr} {ox : Obj} {od : Option Obj}
theorem XFacts.cls (F : XFacts K C) : ∃ cd, clsIn K C = some cd := by
  have := F.mb
  unfold mroIn at this
  cases h : clsIn K C with
  | none => rw [h] at this; cases this
  | some cd => exact ⟨cd, rfl⟩
theorem x_class {Q : Option Value → Shared → Prop} (F : XFacts K C) (X : K.In s.heap) (I : InstAt s.heap x ox C od) (h : Q (some (.ref C)) { s with toks := s.toks + 1 }) : wpAny (model prog w) A (getAttr? (.ref x) "__class__") Q E s := by
  obtain ⟨hp, g, d, t, os⟩ := s
  obtain ⟨cd, hcd⟩ := F.cls
  have hf : findObj K C od "__class__" = some (.bind (.builtin "getset_descriptor.__get__") (.builtin "object.__class__")) := by
    unfold findObj
    rw [hcd, F.cl]
    simp only [Option.bind_some, F.cg, F.ct]
  have L0 := I.type (M := model prog w)
  have L1 := looks_findIn (M := model prog w) X F.ga
  have L2 : Looks (model prog w) hp (hookBefore (.ref C)) none := looks_hook X F.gh
  have L3 := looks_find (M := model prog w) X I hf
  have L4 : Looks (model prog w) hp (isInstance (.ref x) (.type "BaseException")) true := L0.andThen (looks_mroIn X F.mb)
  have nb : (onTheHeap (Value.ref C) && Value.builtin "BaseException.__getattribute__" == Value.builtin "object.__getattribute__") = false := by
    rw [show (Value.builtin "BaseException.__getattribute__" == Value.builtin "object.__getattribute__") = false by decide +kernel]; rfl
  unfold getAttr? getAttrBy? getAttrBy
  refine wpAny_bind (wpAny_mkText (wpAny_bind (wpAny_attempt (wpAny_holding (wpAny_bind (L0.at (wpAny_bind (L1.at ?_))))))))
  simp only [nb, Bool.false_eq_true, if_false]
  unfold getAttrByItsOwn
  refine wpAny_bind (L2.at (wpAny_bind (wpAny_attempt (wpAny_holding ?_))))
  unfold callGetattribute
  simp only [Bool.false_and, Bool.false_eq_true, if_false]
  unfold boundAndCalled
  rw [PySem.F.excAttr_ValueError.ga.bind]
  refine wpAny_bind (wpAny_pure ?_)
  show wpAny _ _ (call (Value.builtin "BaseException.__getattribute__") [Value.ref x, Value.str "__class__" t]) _ _ _
  refine wpAny_call (codeAny_call_builtin PySem.F.excAttr_ValueError.ga.plain PySem.F.entry_bexc_ga (@check_slot (model prog w) _ _ ⟨hp, g, d, t + 1, os⟩ "BaseException.__getattribute__" "BaseException" "__getattribute__" (.ref x) [.str "__class__" t] [] _ bga_kind bga_split L4 (PySem.F.args_bexc_ga (.ref x) (.str "__class__" t)) ?_))
  unfold Builtin.«object.__getattribute__»
  rw [ga_args]
  refine wpAny_bind (wpAny_pure ?_)
  show wpAny _ _ (attrName (Value.str "__class__" t) >>= _) _ _ _
  rw [show attrName (Value.str "__class__" t) = pure "__class__" from rfl]
  refine wpAny_bind (wpAny_pure (wpAny_bind (L0.at (wpAny_bind (L3.at ?_)))))
  show wpAny _ _ (bindTo (.builtin "getset_descriptor.__get__") (.builtin "object.__class__") (.ref x) (.ref C)) _ _ _
  unfold bindTo
  refine wpAny_bind (wpAny_holding (wpAny_call (class_get X I F.mo ?_)))
  refine wpAny_pure ?_
  show wpAny _ _ (handedOut (.ref C)) _ _ _
  exact wpAny_pure (wpAny_pure h)
/-- an exception, for isinstance -/
theorem kitx_exc (F : XFacts K C) : KitX K (.ref x) (.ref C) (fun h => ∃ ox od, InstAt h x ox C od) where
  ty := fun _ _ _ ⟨_, _, I⟩ => I.type
  it := fun _ _ X _ => by
    obtain ⟨cd, hc⟩ := F.cls
    unfold clsIn at hc
    split at hc
    · rename_i ho
      intro A' Q' E' s' k q
      unfold isType loadHead
      exact wpAny_bind (wpAny_loadPart (k _ _ (X _ _ ho)) (wpAny_pure q))
    · cases hc
  ne := fun h tp dd its n sl X htp => by
    obtain ⟨cd, hc⟩ := F.cls
    refine Bool.eq_false_iff.mpr fun q => ?_
    obtain rfl : C = tp := Value.ref.inj (beq_iff_eq.mp q)
    unfold clsIn at hc
    split at hc
    · rename_i ho
      have z := (X _ _ ho).symm.trans htp
      cases z
    · cases hc
  ca := fun X ⟨_, _, I⟩ k => x_class F X I k
end
end PySem.W
namespace L2
open PySem PySem.Spec PyProof.Rows
section
variable {X : Cx}
theorem exc_inst {P : Program} {w : World} {H : Hp} {h : Heap} {e C : Addr} {od : Option Addr} (hok : HOk P w H h) (he : H e = some (ExC e (.ref C) od)) (hd : ∀ dd, od = some dd → ∃ fs, H dd = some (.xd fs)) : ∃ ox odo, PySem.W.InstAt h e ox C odo := by
  obtain ⟨⟨oe, vs, h1, h2, h3, h4⟩, _⟩ := hok e _ he
  cases od with
  | none => exact ⟨oe, none, h1, h2, by unfold PySem.W.notCls; rw [h4], by rw [h3]; trivial⟩
  | some dd =>
    obtain ⟨fs, hx⟩ := hd dd rfl
    obtain ⟨mA, ⟨o, es, ep, e1, _⟩, _⟩ := hok dd _ hx
    exact ⟨oe, some o, h1, h2, by unfold PySem.W.notCls; rw [h4], by rw [h3]; exact e1⟩
/-- isinstance(e, c), e an exception -/
def rIsx (K : PySem.W.Frag) : List V → Hp → VK → Prop := fun xs H Q => ∃ (e C : Addr) (od : Option Addr) (c : V) (cv : Value) (b : Bool), xs = [.ref e, c] ∧ ((∃ a, c = .ref a ∧ cv = .ref a) ∨ ∃ n, c = .ty n ∧ cv = .type n) ∧ H e = some (ExC e (.ref C) od) ∧ (∀ dd, od = some dd → ∃ fs, H dd = some (.xd fs)) ∧ PySem.W.XFacts K C ∧ PySem.W.kitOne K (.ref C) cv = some b ∧ Q (.bl b) H
theorem call_isx : CallR X (.builtin "isinstance") (rIsx X.K) := by
  intro pins s σ H xs us Q I r h
  obtain ⟨e, C, od, c, cv, b, rfl, rc, he, hd, F, hk, q⟩ := h
  obtain ⟨u, w', rfl, r1, r2⟩ := vals2 r
  cases r1
  obtain rfl : w' = cv := by
    rcases rc with ⟨a, rfl, rfl⟩ | ⟨n, rfl, rfl⟩
    · exact r2
    · exact r2
  exact PySem.W.kia_one (PySem.W.kitx_exc F) I.kIn (exc_inst I.hok he hd) hk (fun z => nomatch z) fun tk => ⟨.bl b, H, I.tok _, rfl, q⟩
theorem vals_refs : ∀ {as : List Addr} {us : List Value}, Vals (as.map V.ref) us → us = as.map Value.ref
  | [], _, r => by cases r; rfl
  | a :: as, _, r => by
    cases r with
    | cons r1 r2 =>
      cases r1
      rw [vals_refs r2]; rfl
def rIsxT (K : PySem.W.Frag) : List V → Hp → VK → Prop := fun xs H Q => ∃ (e C tp : Addr) (od : Option Addr) (as : List Addr) (b : Bool), xs = [.ref e, .ref tp] ∧ H tp = some (.tup (as.map V.ref)) ∧ H e = some (ExC e (.ref C) od) ∧ (∀ dd, od = some dd → ∃ fs, H dd = some (.xd fs)) ∧ PySem.W.XFacts K C ∧ PySem.W.kitAny K (.ref C) (as.map Value.ref) = some b ∧ Q (.bl b) H
theorem call_isxT : CallR X (.builtin "isinstance") (rIsxT X.K) := by
  intro pins s σ H xs us Q I r h
  obtain ⟨e, C, tp, od, as, b, rfl, ht, he, hd, F, hk, q⟩ := h
  obtain ⟨u, w', rfl, r1, r2⟩ := vals2 r
  cases r1
  cases r2
  obtain ⟨_, its, rv, o, e1, e2, n, e3⟩ := I.hok tp _ ht
  obtain ⟨oc, od', odt, osl⟩ := o
  simp only at e2 e3
  subst e2 e3
  rw [vals_refs rv] at e1
  exact PySem.W.kia_tup (PySem.W.kitx_exc F) I.kIn (exc_inst I.hok he hd) e1 hk (fun z => nomatch z) fun tk => ⟨.bl b, H, I.tok _, rfl, q⟩
theorem lookIn_ns1 {h : Heap} {a : Addr} {mA : Str → Option Value} {o : Obj} {name : Str} {u : Value} (hn : h.Ns1 a mA) (ho : h.get? a = some o) (hu : mA name = some u) : PySem.W.lookIn name o = some (some u) := by
  obtain ⟨o', es, ep, e1, e2, e3, e4, e5⟩ := hn
  rw [ho] at e1
  cases e1
  have z := e5 name
  rw [hu] at z
  unfold nsFind findBy at z
  rw [← Array.find?_toList] at z
  unfold PySem.W.lookIn
  rw [e2]
  cases hf : es.toList.find? (fun e => e.key.isStr name) with
  | none => rw [hf] at z; cases z
  | some en => rw [hf] at z; simp only [Option.map_some, Option.some.injEq] at z; simp only [hf, z]
theorem handed_rel {v : V} {u : Value} (r : RelV v u) : PySem.W.handedIn u = true := by
  cases v with
  | non => cases r; rfl
  | bl _ => cases r; rfl
  | int _ => obtain ⟨t, rfl⟩ := r; rfl
  | str _ => obtain ⟨t, rfl⟩ := r; rfl
  | byt _ => obtain ⟨t, rfl⟩ := r; rfl
  | flt _ => obtain ⟨t, rfl⟩ := r; rfl
  | ref _ => cases r; rfl
  | ty _ => cases r; rfl
/-- e.a, e a caught exception, a in its own dict -/
def tXattr (K : PySem.W.Frag) (te : TE) (f : Str) : TE := fun σ H Q => te σ H fun x H1 => ∃ (e C N dd : Addr) (bm : List Value) (i : Option Value) (fs : List (Str × V)) (v : V), x = .ref e ∧ H1 e = some (ExC e (.ref C) (some dd)) ∧ H1 dd = some (.xd fs) ∧ fs.lookup f = some v ∧ PySem.W.XFacts K C ∧ xcIn K C N bm i = true ∧ PySem.W.findIn K (.ref C) f = some none ∧ Q v H1
theorem pe_xattr {e : Expr} {te : TE} {f : Str} {pos : Pos} (he : PE X e te) (hb : attributeBase e f X.env (eval e X.env) = eval e X.env) : PE X (.Attribute e f pos) (tXattr X.K te f) := by
  intro pins s σ H Q I h
  refine Attribute_any_ (thn (he pins s σ H _ I h) fun u s1 ⟨x, H1, I1, rx, ea, C, N, dd, bm, i, fs, v, ex, h1, h2, h3, F, xc, fn, q⟩ => ?_) (by rw [arm_eval_Attribute, hb])
  subst ex
  obtain rfl : u = Value.ref ea := rx
  obtain ⟨⟨oe, vs, g1, g2, g3, g4⟩, _⟩ := I1.hok ea _ h1
  obtain ⟨mA, hns, hrel⟩ := I1.hok dd _ h2
  have hr := hrel f
  rw [h3] at hr
  obtain ⟨y, ey, ry⟩ := hr.some_of
  obtain ⟨o, es, ep, e1, erest⟩ := id hns
  have lk := lookIn_ns1 hns e1 ey
  obtain ⟨cd, hcl, hdi, hmr⟩ := xcls_clsIn xc
  have inst : PySem.W.InstAt s1.heap ea oe C (some o) := ⟨g1, g2, by unfold PySem.W.notCls; rw [g4], by rw [g3]; exact e1⟩
  have hf : PySem.W.findObj X.K C (some o) f = some (.value y) := by
    unfold PySem.W.findObj PySem.W.ownOf
    rw [hcl, fn]
    simp only [Option.bind_some, hdi, if_true, lk]
  exact PySem.W.x_attr I1.kIn inst F.ga F.gh F.mb hf (handed_rel ry) ⟨v, H1, I1.tok _, ry, q⟩
end
end L2

namespace PySem
section
variable {prog : Program} {w : World} {A : Around} {E : Value → Shared → Prop} {h : Heap} {g : Array GenState} {d : Drawn} {t : Nat} {os : OsState}
variable {nm q : Str} {C N : Addr} {bs bm bmB : List Value} {hdct : Bool} {sn : List Str} {sub : List Value} {ab : Bool} {col : Option Bool} {dd : Option Addr} {k0 k1 k2 k3 k5 : Option Value} {B Bn newId nid initId inN : String} {bmN : List Value}
theorem x_made0 (Fn : ExcBaseFacts Bn newId inN bmN) (hBn : bmB.contains (.type Bn) = true) (F : ExcBaseFacts B nid initId bmB) (T : OwnTail h bmB bm) {mN : Str → Option Value} {args : List Value} {Q : Fin → Shared → Prop}
    (cC : h.get? C = some (excClassObj nm q C N bs bm hdct sn sub ab col dd k0 k1 k2 k3 k5 newId)) (cN : h.Ns N mN) (ci : mN "__init__" = none) (hz : args.length ≤ sizeLine)
    (k : ∀ h' e t', h.objs.size ≤ e → h'.get? e = some (xNew C t') → (∀ b o, h.get? b = some o → h'.get? b = some o) → Q (.done (.ret (.ref e))) ⟨h', g, d, t, os⟩) :
    wpAny (model prog w) A (Builtin.«type.__call__» ⟨.ref C :: args, []⟩) Q E ⟨h, g, d, t, os⟩ := by
  repeat (first | with_reducible refine wpAny_loadPart_at cC ?_ | with_reducible refine wpAny_madeBy_exc cC ?_ | wp_step)
  refine codeAny_call_builtin_code (Code.quiet_builtin _ Fn.quiet) (wpAny_check_new_subU Fn hBn T cC (codeAny_exc_new_subU Fn hBn F T cC ?_ hz))
  show wpAny _ _ _ _ _ _
  have up : ∀ b o, h.get? b = some o → ((h.push (xTup args)).push (xNew C h.objs.size)).get? b = some o := fun b o z => Heap.get?_push_of_some _ (Heap.get?_push_of_some _ z)
  have ge : ((h.push (xTup args)).push (xNew C h.objs.size)).get? (h.objs.size + 1) = some (xNew C h.objs.size) := Heap.get?_push_at (by rw [Heap.size_push]) rfl
  have cC1 := up C _ cC
  have cN1 : ((h.push (xTup args)).push (xNew C h.objs.size)).Ns N mN := let ⟨o, es, ep, e, r⟩ := cN; ⟨o, es, ep, up _ _ e, r⟩
  have own : (Value.ref C :: bm).contains (.ref C) = true := by simp
  unfold isInstance
  repeat (first | with_reducible refine wpAny_loadPart_at ge ?_ | (with_reducible refine wpAny_isSubtype_exc cC1 ?_; rw [own]) | wp_step)
  show wpAny _ _ (typeLookup (.ref C) _) _ _ _
  refine wpAny_typeLookup_tail cC1 cN1 (T.keeps up) F.mroIs F.init.lookup ?_
  rw [ci]
  refine wpAny_holding (wpAny_bind (wpAny_of_eq (F.init.bind _) ?_))
  refine wpAny_bind (x_init F (T.keeps up) hz cC1 ge fun h' t' he' kp => ?_)
  wp_walk
  refine k h' _ t' (Nat.le_succ _) he' fun b o hb => kp b o (fun z => ?_) (up b o hb)
  have := Heap.lt_size hb
  rw [z] at this
  exact absurd this (Nat.not_lt.mpr (Nat.le_succ _))
theorem x_call0 (Fn : ExcBaseFacts Bn newId inN bmN) (hBn : bmB.contains (.type Bn) = true) (F : ExcBaseFacts B nid initId bmB) (T : OwnTail h bmB bm) {mN : Str → Option Value} {args : List Value} {Q : Value → Shared → Prop}
    (cC : h.get? C = some (excClassObj nm q C N bs bm hdct sn sub ab col dd k0 k1 k2 k3 k5 newId)) (cN : h.Ns N mN) (ci : mN "__init__" = none) (hz : args.length ≤ sizeLine)
    (k : ∀ h' e t', h.objs.size ≤ e → h'.get? e = some (xNew C t') → (∀ b o, h.get? b = some o → h'.get? b = some o) → Q (.ref e) ⟨h', g, d, t, os⟩) :
    wpAny (model prog w) A (call (.ref C) args) Q E ⟨h, g, d, t, os⟩ := by
  have l1 := tc_lookup
  have l2 := tc_bind (.ref C)
  have l3 : (⟨h, g, d, t, os⟩ : Shared).TypeIs (.ref C) "type" := ⟨_, cC, rfl⟩
  refine wpAny_call (codeAny_of_tree ?_)
  show wpAny _ _ (callAny (.ref C) _) _ _ _
  repeat (any_goals (first | assumption | with_reducible refine wpAny_loadPart_at cC ?_ | wp_step))
  exact ⟨rfl, codeAny_call_builtin_at (Code.quiet_builtin _ (by decide +kernel)) entry_typeCall (wpAny_check_type_call_sub cC (x_made0 Fn hBn F T cC cN ci hz fun h' e t' l1 l2 l3 => k h' e t' l1 l2 l3))⟩
end
end PySem
namespace L2
open PySem PySem.Spec PyProof.Rows
section
variable {X : Cx} {C N : Addr} {bm : List Value} {x : Str} {p pos : Pos} {e : Expr} {es : List Expr} {t : TA}
/-- C(..), C an own exception class without an __init__ -/
def tXmk0 (C : Addr) (t : TA) : TE := fun σ H Q => t σ H fun vs H1 => vs.length ≤ 10 ∧ ∀ a, H1 a = none → Q (.ref a) (upd H1 a (ExC a (.ref C) none))
theorem pe_xmk0 (xc : xcIn X.K C N bm none = true) (hkC : PySem.W.keepIn X.K (.ref C) = true) (hg : Gl X x) (hm : X.mg x = some (.ref C)) (ha : PA X (e :: es) t) (hdb : (x == ("__debug__" : Str)) = false := by decide)
    (he : starEach (e :: es) X.env = (false, eval e X.env) :: starEach es X.env := by rfl) (hpl : (backTo pos (starEach es X.env)).any (·.1) = false := by rfl) : PE X (.Call (.Name x p) (e :: es) [] pos) (tXmk0 C t) := by
  intro pins s σ H Q I h
  refine wpAny_Call_Name_kw (ld_glob I hg hm ?_ hdb)
  refine PySem.W.callWith_K (h₀ := X.base) I.ok.mod.kin hkC (thn (ha pos pins s σ H _ I h) fun us s1 ⟨vs, H1, I1, r, hl, q⟩ => ⟨I1.kIn, ?_⟩) he hpl
  have xk := xc_of I1.kIn xc
  obtain ⟨nm, qn, bs, sn, sub, ab, col, dd, k0, k1, k2, k3, k5, mN, cC, cN, ci⟩ := xk.ex
  have hz : us.length ≤ sizeLine := by rw [← r.length]; exact Nat.le_trans hl (by decide)
  obtain ⟨h1, g1, d1, t1, os1⟩ := s1
  exact x_call0 PySem.F.excBase_ValueError PySem.F.excBase_ValueError.hasB PySem.F.excBase_ValueError xk.tail cC cN ci hz fun h' a t' la ea keep => ⟨.ref a, _, I1.laid (a := a) (o := ExC a (.ref C) none) (t' := t1) keep la (exC_ok ea rfl rfl rfl), rfl, q a (I1.hok.fresh la)⟩
end
end L2

namespace L2
open PySem PySem.Spec PyProof.Rows
/-- a def that may raise -/
theorem Fun.okX {P : Program} {w : World} {K : PySem.W.Frag} {mg : Str → Option Value} {base : Heap} {x qual : Str} {st : Stmt} {f : Addr} {fd : FuncData} {N ps : List Str} {k : Nat} {sp : Sp} (F : Fun K x qual st f fd) (S : FnScope N ps (defScope st)) (len : ∀ vs H Q E, sp vs H Q E → vs.length = ps.length)
    (hbody : ∀ (cdv : Value) (A : Around) (outer : List Env) (s : Shared) (H : Hp) (vs : List V) (Q : VK) (E : XK), Room k (A.deeper (envOfC qual (defScope st) s.heap.objs.size f cdv)) → sp vs H Q E →
      ∃ t, PSs (cxOf (CXe P w) P w K mg base N qual (defScope st) f cdv A outer s H E) (defBody st) t ∧ t { nx := fun _ H' => Q .non H', rt := Q } (start N vs) H) : FnOk P w K mg base (CXe P w) (k + 1) f fd ps sp := by
  obtain ⟨oc, od, kV, doc, pm, an, cdv, ct, osl, rfl, lk, hcd⟩ := F.ex
  exact fn_of lk hcd S len fun A outer s H vs Q E hr hsp => hbody cdv A outer s H vs Q E hr hsp
end L2
namespace Lw
open PySem L2
/-- NoName and CellError, as the text has them -/
structure NN (K : PySem.W.Frag) (mg : Str → Option Value) (CE CN N fI : Addr) (bm : List Value) : Prop where
  mCE : mg "CellError" = some (.ref CE)
  g1 : PySem.W.specialIn K (.ref CE) "__getattribute__" = some (some (.builtin "type.__getattribute__"))
  g2 : PySem.W.readsIn K CE (.type "type") = true
  g3 : PySem.W.findCls K (.ref CE) (.type "type") "__init__" = some (.val (.builtin "ValueError.__init__"))
  mCN : mg "NoName" = some (.ref CN)
  xc : xcIn K CN N bm (some (.ref fI)) = true
  kp : PySem.W.keepIn K (.ref CN) = true
  sa : PySem.W.findIn K (.ref CN) "__setattr__" = some (some (.builtin "object.__setattr__"))
  fw : PySem.W.findIn K (.ref CN) "word" = some none
  rf : ∀ a, refuseLoop (.ref a) "__setattr__" (.ref CN :: bm) = pure ()
  ob : bm.contains (.type "object") = true
  bb : bm.contains (.type "BaseException") = true
  xf : PySem.W.XFacts K CN
  ex : PySem.W.exmOne K (.ref CN) (.ref CE) = some true
/-- signs that a repr can show -/
def Sm (x : Str) : Prop := (∀ c ∈ x.cps.toList, c < 16 ^ 8) ∧ x.length ≤ 1000
def spInit (CN : Addr) : Sp := fun vs H Q _ => ∃ (e : Addr) (y : Str), vs = [.ref e, .str y] ∧ Sm y ∧ H e = some (ExN e CN) ∧ ∀ dd, H dd = none → Q .non (upd (upd H dd (.xd [("word", .str y)])) e (ExD e CN dd))
def lack (xs : List Str) (kvs : List (Key × V)) : Option Str := xs.find? fun x => (valV kvs (Sum.inr x)).isNone
def Rz (CN : Addr) (y : Str) (H : Hp) (E : XK) : Prop := ∀ dd H', H dd = none → H' dd = some (.xd [("word", .str y)]) → Same H H' → E (.ref CN) (some dd) H'
def spThereX (K : PySem.W.Frag) (CN : Addr) : Sp := fun vs H Q E => ∃ (na b : Addr) (xs : List Str) (kvs : List (Key × V)), vs = [.ref na, .ref b] ∧ SqT K H na (xs.map V.str) ∧ (∀ x ∈ xs, Sm x) ∧ H b = some (.dK kvs) ∧ (lack xs kvs = none → Q .non H) ∧ ∀ y, lack xs kvs = some y → Rz CN y H E
def spToldX (CN : Addr) : Sp := fun vs H Q E => ∃ (ce b : Addr) (C : Cel) (kvs : List (Key × V)), vs = [.ref ce, .ref b] ∧ CellAt H ce C ∧ Good C ∧ H b = some (.dK kvs) ∧
  ((∃ ρ, Has kvs C.ins ρ ∧ ∀ (t : Addr) (H' : Hp), H t = none → H' t = some (.tup ((C.outs.map (evalC C ρ)).map V.int)) → Same H H' → Q (.ref t) H') ∨ ∃ y, lack C.ins kvs = some y ∧ Rz CN y H E)
section
variable {P : Program} {w : World} {K : PySem.W.Frag} {mg : Str → Option Value} {base : Heap} {CE CN N fI : Addr} {bm : List Value}
theorem scInit : FnScope ["self", "word"] ["self", "word"] (defScope sInit) := ⟨rfl, rfl, rfl, by decide +kernel, rfl, by decide +kernel, by decide +kernel⟩
set_option maxHeartbeats 1000000 in
theorem ok_init {f : Addr} {fd : FuncData} (F : Fun K "__init__" "NoName.__init__" sInit f fd) (O : NN K mg CE CN N fI bm) : FnOk P w K mg base CX0 1 f fd ["self", "word"] (spInit CN) := by
  refine F.ok scInit (fun vs H Q E h => ?_) (fun cdv A outer s H vs Q E hr h => ?_)
  · obtain ⟨e, y, rfl, _⟩ := h
    rfl
  · obtain ⟨e, y, rfl, ⟨s1, s2⟩, he, k⟩ := h
    refine ⟨_, pss_cons (ps_expr (pe_ceInit (by rfl) O.mCE O.g1 O.g2 O.g3 (pv 0) (pe_fstr (pv 1)) ⟨rfl, rfl, rfl, rfl⟩)) (pss_one (ps_xset (pv 0) (pv 1) rfl)), ?_⟩
    refine ⟨_, rfl, _, rfl, y, rfl, s1, s2, fun z => ⟨e, CN, N, bm, _, z, rfl, rfl, he, O.xc, ?_⟩⟩
    exact ⟨_, rfl, _, rfl, e, CN, N, bm, _, rfl, he, O.xc, O.sa, O.fw, O.rf, O.ob, k⟩
end
end Lw

namespace Lw
open PySem L2
theorem lack_none {xs : List Str} {kvs : List (Key × V)} (h : lack xs kvs = none) : ∀ x ∈ xs, ∃ v, valV kvs (Sum.inr x) = some v := fun x hx => by
  have := List.find?_eq_none.mp h x hx
  cases e : valV kvs (Sum.inr x : Key) with
  | none => rw [e] at this; simp at this
  | some v => exact ⟨v, rfl⟩
theorem lack_take {xs : List Str} {kvs : List (Key × V)} {i : Nat} {y : Str} (hy : xs[i]? = some y) (h : ∀ x ∈ xs.take i, ∃ v, valV kvs (Sum.inr x) = some v) (hn : valV kvs (Sum.inr y) = none) : lack xs kvs = some y := by
  unfold lack
  have e : xs = xs.take i ++ y :: xs.drop (i + 1) := by
    obtain ⟨hi, rfl⟩ := List.getElem?_eq_some_iff.mp hy
    rw [List.getElem_cons_drop, List.take_append_drop]
  rw [e, List.find?_append]
  have z : (xs.take i).find? (fun x => (valV kvs (Sum.inr x)).isNone) = none := List.find?_eq_none.mpr fun x hx => by
    obtain ⟨v, hv⟩ := h x hx
    rw [hv]; simp
  rw [z]
  simp [List.find?_cons, hn]
section
variable {P : Program} {w : World} {K : PySem.W.Frag} {mg : Str → Option Value} {base : Heap} {CE CN N fI : Addr} {bm : List Value}
set_option maxHeartbeats 2000000 in
theorem ok_thereX {f : Addr} {fd fdI : FuncData} {oI : Obj} (F : Fun K "check_there" "check_there" sThere f fd) (O : NN K mg CE CN N fI bm) (FI : FnOk P w K mg base CX0 1 fI fdI ["self", "word"] (spInit CN)) (bI : Binds K fdI ["self", "word"] []) (lI : K.lookup fI = some oI) (cI : oI.cls = .type "function") :
    FnOk P w K mg base (CXe P w) 3 f fd ["names", "given"] (spThereX K CN) := by
  refine F.okX (k := 2) scThere (fun vs H Q E h => ?_) (fun cdv A outer s H vs Q E hr h => ?_)
  · obtain ⟨na, b, xs, kvs, rfl, _⟩ := h
    rfl
  · obtain ⟨na, b, xs, kvs, rfl, hn, hsm, hb, k1, k2⟩ := h
    have hu := hu_of hr
    refine ⟨_, pss_one (ps_for PassesOwn.leaving rfl (pi_tup (pv 0)) (pg_name (i := 2) scThere.nd rfl (Or.inl rfl)) (pss_one (ps_if (pt_cmp (pc_dnotin hu (pv 2) (pv 1)))
      (pss_one (ps_raiseV (pe_xmake (x := "NoName") O.xc O.kp lI cI FI hr (by rfl) O.mCN bI (pa_c (pv 2) pa_nil)))) pss_nil))), ?_⟩
    refine ⟨_, rfl, na, rfl, ⟨_, hn⟩, ?_⟩
    refine for_tup (K := K) (a := na) (xs := xs.map V.str) (fun i σ H2 => H = H2 ∧ (∃ v3, σ = [some (.ref na), some (.ref b), v3]) ∧ ∀ x ∈ xs.take i, ∃ v, valV kvs (Sum.inr x) = some v) ⟨rfl, ⟨none, rfl⟩, fun x hx => by simp at hx⟩ (fun i σ H2 _ ⟨e, _⟩ => by rw [← e]; exact hn) ?_ ?_
    · rintro i x σ H2 hx ⟨rfl, ⟨v3, rfl⟩, hp⟩
      obtain ⟨y, hy, rfl⟩ := str_item hx
      cases hv : valV kvs (Sum.inr y : Key) with
      | some v =>
        refine ⟨_, rfl, _, rfl, b, _, rfl, dget hb hv, _, rfl, iteF ⟨rfl, ⟨_, rfl⟩, fun x hx => ?_⟩⟩
        rw [take_snoc hy] at hx
        rcases List.mem_append.mp hx with z | z
        · exact hp x z
        · rw [List.mem_singleton.mp z]; exact ⟨v, hv⟩
      | none =>
        have dg : DGet H b (.str y) none := by
          have := DGet.k (k := (Sum.inr y : Key)) hb
          rw [hv] at this
          exact this
        refine ⟨_, rfl, _, rfl, b, _, rfl, dg, _, rfl, ?_⟩
        refine (if_pos rfl).mpr ?_
        refine ⟨_, rfl, (by show 1 ≤ 10; decide), fun a nA => ⟨a, y, rfl, hsm y (List.mem_of_getElem? hy), upd_same, fun dd nD => ⟨rfl, a, CN, N, dd, bm, _, rfl, upd_same, O.xc, O.bb, fun T nT => ?_⟩⟩⟩
        have da : dd ≠ a := fun z => by rw [z, upd_same] at nD; cases nD
        have nD' : H dd = none := by rw [upd_ne da] at nD; exact nD
        have Ta : T ≠ a := fun z => by rw [z, upd_same] at nT; cases nT
        have Td : T ≠ dd := fun z => by rw [z, upd_ne da, upd_same] at nT; cases nT
        have nT' : H T = none := by rw [upd_ne Ta, upd_ne Td, upd_ne Ta] at nT; exact nT
        refine k2 y (lack_take hy hp hv) dd _ nD' (by rw [upd_ne Td.symm, upd_ne da, upd_ne da, upd_same]) fun c o e => ?_
        rw [upd_ne (ne_of_none e nT'), upd_ne (ne_of_none e nA), upd_ne (ne_of_none e nA), upd_ne (ne_of_none e nD'), upd_ne (ne_of_none e nA)]
        exact e
    · rintro σ H2 ⟨rfl, _, hp⟩
      rw [List.length_map, List.take_of_length_le (Nat.le_refl _)] at hp
      refine k1 ?_
      unfold lack
      exact List.find?_eq_none.mpr fun x hx => by obtain ⟨v, hv⟩ := hp x hx; rw [hv]; simp
theorem good_sm {C : Cel} (G : Good C) : ∀ x ∈ C.ins, Sm x := fun x hx => by
  have h := (G.nm x (List.mem_append_left _ hx)).ls
  refine ⟨fun c hc => ?_, ?_⟩
  · have := (h.az c hc).2
    exact Nat.lt_of_le_of_lt this (by decide)
  · have := h.hi
    omega
set_option maxHeartbeats 2000000 in
theorem ok_toldX {f fG fT : Addr} {fd fdG fdT : FuncData} (F : Fun K "told_by" "told_by" sToldBy f fd) (T : Txt mg) (gG : Gd K mg "gate_bit" sGateBit ["word", "bits"] fG fdG) (gTh : Gd K mg "check_there" sThere ["names", "given"] fT fdT) (TH : FnOk P w K mg base (CXe P w) 3 fT fdT ["names", "given"] (spThereX K CN)) :
    FnOk P w K mg base (CXe P w) 4 f fd ["cell", "bits"] (spToldX CN) := by
  refine F.okX (k := 3) scTold (fun vs H Q E h => ?_) (fun cdv A outer s H vs Q E hr h => ?_)
  · obtain ⟨ce, b, C, kvs, rfl, _⟩ := h
    rfl
  · obtain ⟨ce, b, C, kvs, rfl, hC, hG, hb, hk⟩ := h
    obtain ⟨ia, ga, oa, as, c1, c2, c3, c4, c5⟩ := id hC.ex
    refine ex_cut (fun σ H2 => H = H2 ∧ σ = [some (.ref ce), some (.ref b), none, none, none, none] ∧ lack C.ins kvs = none) (fun u hu' => ?_) ?_
    · refine ⟨_, ps_expr (pe_call (E := fun Cv od H1 => ∃ (y : Str) (dd : Addr), lack C.ins kvs = some y ∧ Cv = .ref CN ∧ od = some dd ∧ H dd = none ∧ H1 dd = some (.xd [("word", .str y)]) ∧ Same H H1) TH hr (by rfl) gTh.m gTh.k gTh.b .nil (passX ?_) (pa_c (pe_ix ix_tup (pv 0) pe_int (fun _ _ => rfl)) (pa_c (pv 1) pa_nil))), ?_⟩
      · rintro Cv od H1 e T' ⟨y, dd, hl, rfl, rfl, nd, hx, sm⟩ he nT
        rcases hk with ⟨ρ, hH, _⟩ | ⟨y', hl', rz⟩
        · unfold lack at hl
          have h1 := List.find?_some hl
          have h2 := (hH y (List.mem_of_find?_eq_some hl)).1
          rw [h2] at h1
          simp at h1
        · rw [hl] at hl'
          cases hl'
          refine rz dd _ nd (by rw [upd_ne (ne_of_none hx nT)]; exact hx) fun c o q => ?_
          rw [upd_ne (ne_of_none (sm c o q) nT)]
          exact sm c o q
      · refine ⟨_, rfl, ce, _, _, .ref ia, rfl, rfl, SqT.of c1, rfl, _, rfl, ia, b, C.ins, kvs, rfl, SqT.of c2, good_sm hG, hb, fun hl => hu' _ _ ⟨rfl, rfl, hl⟩, fun y hl dd H' nd hx sm => ⟨y, dd, hl, rfl, rfl, nd, hx, sm⟩⟩
    rintro σ H1 ⟨rfl, rfl, hl⟩
    rcases hk with ⟨ρ, hH, k⟩ | ⟨y, hl', _⟩
    · obtain ⟨t, h1, h2⟩ := told_tail (P := P) (w := w) (base := base) (f := f) (cdv := cdv) (outer := outer) (s := s) (E := E) T gG (hr.mono (by decide)) hC hG hb hH k
      exact ⟨t, PSs.nox h1, h2⟩
    · rw [hl] at hl'; cases hl'
end
end Lw

namespace Lw
open PySem L2
/-- a dict of just these names, each a bit -/
structure BitsD (xs : List Str) (kvs : List (Key × V)) : Prop where
  keys : kvs.map (·.1) = xs.map Sum.inr
  bits : ∀ p ∈ kvs, p.2 = .int 0 ∨ p.2 = .int 1
theorem inr_nodup : ∀ {xs : List Str}, xs.Nodup → (xs.map (Sum.inr : Str → Key)).Nodup
  | [], _ => List.nodup_nil
  | x :: r, h => by
    obtain ⟨h1, h2⟩ := List.nodup_cons.mp h
    refine List.nodup_cons.mpr ⟨fun m => ?_, inr_nodup h2⟩
    obtain ⟨y, hy, e⟩ := List.mem_map.mp m
    rw [Sum.inr.inj e] at hy
    exact h1 hy
theorem valV_mem {kvs : List (Key × V)} {k : Key} (h : k ∈ kvs.map (·.1)) : ∃ p ∈ kvs, p.1 = k ∧ valV kvs k = some p.2 := by
  induction kvs with
  | nil => simp at h
  | cons a r ih =>
    by_cases e : a.1 = k
    · exact ⟨a, List.mem_cons_self, e, valV_pos e⟩
    · have h' : k ∈ r.map (·.1) := by
        rcases List.mem_cons.mp h with q | q
        · exact absurd q.symm e
        · exact q
      obtain ⟨p, hp, e1, e2⟩ := ih h'
      exact ⟨p, List.mem_cons_of_mem _ hp, e1, by rw [valV_neg e]; exact e2⟩
theorem BitsD.has {xs : List Str} {kvs : List (Key × V)} (h : BitsD xs kvs) : Has kvs xs (rhoOf kvs) := by
  intro x hx
  obtain ⟨p, hp, _, e⟩ := valV_mem (kvs := kvs) (k := Sum.inr x) (by rw [h.keys]; exact List.mem_map.mpr ⟨x, hx, rfl⟩)
  have hr : rhoOf kvs x = match valV kvs (Sum.inr x) with | some (.int i) => i | _ => 0 := rfl
  rcases h.bits p hp with q | q
  · rw [q] at e; rw [e] at hr; rw [hr, e]; exact ⟨rfl, .inl rfl⟩
  · rw [q] at e; rw [e] at hr; rw [hr, e]; exact ⟨rfl, .inr rfl⟩
theorem BitsD.flat {xs : List Str} {kvs : List (Key × V)} (h : BitsD xs kvs) : ∀ p ∈ kvs, flatV p.2 = true ∧ eqV p.2 p.2 = true := by
  intro p hp
  rcases h.bits p hp with q | q <;> (rw [q]; exact ⟨rfl, rfl⟩)
theorem BitsD.nodup {xs : List Str} {kvs : List (Key × V)} (h : BitsD xs kvs) (hn : xs.Nodup) : (kvs.map (·.1)).Nodup := by rw [h.keys]; exact inr_nodup hn
def spBits : Sp := fun vs H Q _ => ∃ (n : Addr) (xs : List Str) (z : Int), vs = [.ref n, .int z] ∧ H n = some (.tup (xs.map V.str)) ∧ xs.Nodup ∧ xs.length ≤ 100 ∧ ∀ (p : Addr) (kvs : List (Key × V)) (H' : Hp), H p = none → H' p = some (.dK kvs) → BitsD xs kvs → Same H H' → Q (.ref p) H'
section
variable {P : Program} {w : World} {K : PySem.W.Frag} {mg : Str → Option Value} {base : Heap}
theorem scBits : FnScope ["names", "number", "found", "name"] ["names", "number"] (defScope sBits) := ⟨rfl, rfl, rfl, by decide +kernel, rfl, by decide +kernel, by decide +kernel⟩
set_option maxHeartbeats 4000000 in
theorem ok_bits {f : Addr} {fd : FuncData} (F : Fun K "_law_bits" "_law_bits" sBits f fd) : FnOk P w K mg base CX0 1 f fd ["names", "number"] spBits := by
  refine F.ok scBits (fun vs H Q E h => ?_) (fun cdv A outer s H vs Q E hr h => ?_)
  · obtain ⟨n, xs, z, rfl, _⟩ := h
    rfl
  · obtain ⟨n, xs, z, rfl, hn, hnd, hlen, k⟩ := h
    have hu := hu_of hr
    refine ⟨_, pss_cons (ps_set (i := 2) scBits.nd rfl (Or.inl rfl) pe_dnewK)
      (pss_cons (ps_for PassesOwn.never rfl (pi_tup (pv 0)) (pg_name (i := 3) scBits.nd rfl (Or.inl rfl))
        (pss_cons (ps_dput hu (pv 2) (pv 3) (pe_op op_mod (pv 1) pe_int) rfl) (pss_one (ps_set (i := 1) scBits.nd rfl (Or.inl rfl) (pe_op op_fdiv (pv 1) pe_int)))))
      (pss_one (ps_ret (pv 2)))), ?_⟩
    intro p np
    refine ⟨_, rfl, n, rfl, ⟨_, SqT.of (Same.new np _ _ hn)⟩, ?_⟩
    refine for_tup (K := K) (a := n) (xs := xs.map V.str) (fun i σ H2 => ∃ (kv : List (Key × V)) (y : Int) (v3 : Option V), σ = [some (.ref n), some (.int y), some (.ref p), v3] ∧ H2 p = some (.dK kv) ∧ BitsD (xs.take i) kv ∧ Same H H2)
      ⟨[], z, none, rfl, upd_same, ⟨by simp, fun p hp => nomatch hp⟩, Same.new np⟩ (fun i σ H2 _ ⟨_, _, _, _, _, _, s2⟩ => SqT.of (s2 _ _ hn)) ?_ ?_
    · rintro i x σ H2 hx ⟨kv, y, v3, rfl, h2, hB, s2⟩
      obtain ⟨nm, hy, rfl⟩ := str_item hx
      have hi : i < xs.length := (List.getElem?_eq_some_iff.mp hy).1
      have hkl : kv.length = i := by
        have := congrArg List.length hB.keys
        rw [List.length_map, List.length_map, List.length_take] at this
        omega
      have hno : valV kv (Sum.inr nm : Key) = none := by
        cases e : valV kv (Sum.inr nm : Key) with
        | none => rfl
        | some v =>
          have hm := valV_in e
          rw [hB.keys] at hm
          obtain ⟨q, hq, eq⟩ := List.mem_map.mp hm
          rw [Sum.inr.inj eq] at hq
          have hnd' : (xs.take i ++ [nm]).Nodup := by rw [← take_snoc hy]; exact hnd.sublist (List.take_sublist _ _)
          exact absurd rfl ((List.nodup_append.mp hnd').2.2 nm hq nm (by simp))
      have b0 := Int.emod_nonneg y (show (2 : Int) ≠ 0 by decide)
      have b1 := Int.emod_lt_of_pos y (show (0 : Int) < 2 by decide)
      refine ⟨_, rfl, _, _, rfl, rfl, (by show (0 : Int) < 2; decide), _, rfl, _, rfl, p, _, rfl, DPut.k (k := (Sum.inr nm : Key)) h2 (small1000 (by omega)), ?_⟩
      refine ⟨_, rfl, _, _, rfl, rfl, ⟨by decide, by decide⟩, putK kv (Sum.inr nm) (.int (y % 2)), _, _, rfl, upd_same, ?_, ?_⟩
      · rw [putK_new _ hno, take_snoc hy]
        refine ⟨by rw [List.map_append, hB.keys, List.map_append]; rfl, fun q hq => ?_⟩
        rcases List.mem_append.mp hq with e | e
        · exact hB.bits q e
        · rw [List.mem_singleton.mp e]
          rcases (show y % 2 = 0 ∨ y % 2 = 1 by omega) with e | e <;> (rw [e]; simp)
      · exact fun c o e => by rw [upd_ne (ne_of_none e np)]; exact s2 c o e
    · rintro σ H2 ⟨kv, y, v3, rfl, h2, hB, s2⟩
      rw [List.length_map, List.take_of_length_le (Nat.le_refl _)] at hB
      exact ⟨_, rfl, k p kv H2 np h2 hB s2⟩
theorem scAll : FnScope ["cell", "bits", "known", "name", "word", "names"] ["cell", "bits"] (defScope sAllBits) := ⟨rfl, rfl, rfl, by decide +kernel, rfl, by decide +kernel, by decide +kernel⟩
theorem ndOK : (["one", "known"] : List Str).Nodup := by decide +kernel
set_option maxHeartbeats 4000000 in
theorem ok_all {f fG : Addr} {fd fdG : FuncData} (F : Fun K "_law_all_bits" "_law_all_bits" sAllBits f fd) (T : Txt mg) (gG : Gd K mg "_law_gate_bit" sLGateBit ["word", "bits"] fG fdG) : FnOk P w K mg base CX0 2 f fd ["cell", "bits"] spAll := by
  have GB : FnOk P w K mg base CX0 1 fG fdG ["word", "bits"] spGB := ok_lgb gG.F T
  refine F.ok scAll (fun vs H Q E h => ?_) (fun cdv A outer s H vs Q E hr h => ?_)
  · obtain ⟨ce, b, C, kvs, ρ, rfl, _⟩ := h
    rfl
  · obtain ⟨ce, b, C, kvs, ρ, rfl, hC, hG, hb, hH, k⟩ := h
    have hu := hu_of hr
    obtain ⟨ia, ga, oa, as, c1, c2, c3, c4, c5⟩ := hC.ex
    have li := hG.li
    have lg := hG.lg
    refine ex_cut (fun σ H2 => ∃ td, σ = [some (.ref ce), some (.ref b), some (.ref td), none, none, none] ∧ H2 td = some (.dK []) ∧ H td = none ∧ Same H H2) (fun u hu' => ?_) ?_
    · refine ⟨_, ps_set (i := 2) scAll.nd rfl (Or.inr rfl) pe_dnewK, fun td ntd => hu' _ _ ⟨td, rfl, upd_same, ntd, Same.new ntd⟩⟩
    rintro σ H1 ⟨td, rfl, ht1, ntd, s1⟩
    -- the inputs
    refine ex_cut (fun σ H2 => ∃ (kv : List (Key × V)) (v3 : Option V), σ = [some (.ref ce), some (.ref b), some (.ref td), v3, none, none] ∧ H2 td = some (.dK kv) ∧ Has kv C.ins ρ ∧ kv.length ≤ 6 ∧ Same H H2) (fun u hu' => ?_) ?_
    · refine ⟨_, ps_for PassesOwn.never rfl (pi_tup (pe_ix ix_tup (pv 0) pe_int (fun _ _ => rfl))) (pg_name (i := 3) scAll.nd rfl (Or.inl rfl)) (pss_one (ps_dput hu (pv 2) (pv 3) (pe_dget hu (pv 1) (pv 3) (fun _ _ => rfl)) rfl)), ?_⟩
      refine ⟨_, rfl, ce, _, _, .ref ia, rfl, rfl, SqT.of (s1 _ _ c1), rfl, ia, rfl, ⟨_, SqT.of (s1 _ _ c2)⟩, ?_⟩
      refine for_tup (K := K) (a := ia) (xs := C.ins.map V.str) (fun i σ H2 => ∃ (kv : List (Key × V)) (v3 : Option V), σ = [some (.ref ce), some (.ref b), some (.ref td), v3, none, none] ∧ H2 td = some (.dK kv) ∧ Has kv (C.ins.take i) ρ ∧ kv.length ≤ i ∧ Same H H2)
        ⟨[], none, rfl, ht1, (fun x hx => by simp at hx), Nat.le_refl _, s1⟩ (fun i σ H2 _ ⟨_, _, _, _, _, _, s2⟩ => SqT.of (s2 _ _ c2)) ?_ ?_
      · rintro i x σ H2 hx ⟨kv, v3, rfl, ht2, hh, hl, s2⟩
        obtain ⟨y, hy, rfl⟩ := str_item hx
        have hi : i < C.ins.length := (List.getElem?_eq_some_iff.mp hy).1
        obtain ⟨hv, hbit⟩ := hH y (List.mem_of_getElem? hy)
        have hb2 := s2 _ _ hb
        refine ⟨_, rfl, _, rfl, b, _, rfl, dget hb2 hv, _, rfl, _, rfl, td, _, rfl, DPut.k (k := (Sum.inr y : Key)) ht2 (small1000 (by omega)), putK kv (Sum.inr y) (.int (ρ y)), _, rfl, upd_same, ?_, ?_, ?_⟩
        · rw [take_snoc hy]; exact hh.step hbit
        · have := length_putK kv (Sum.inr y : Key) (.int (ρ y)); omega
        · exact fun c o e => by rw [upd_ne (ne_of_none e ntd)]; exact s2 c o e
      · rintro σ H2 ⟨kv, v3, rfl, ht2, hh, hl, s2⟩
        rw [List.length_map] at hh hl
        rw [List.take_of_length_le (Nat.le_refl _)] at hh
        exact hu' _ _ ⟨kv, v3, rfl, ht2, hh, by omega, s2⟩
    rintro σ H2 ⟨kv, v3, rfl, ht2, hh2, hl2, s2⟩
    -- the gates
    refine ex_cut (fun σ H3 => ∃ (kv : List (Key × V)) (v3 v4 v5 : Option V), σ = [some (.ref ce), some (.ref b), some (.ref td), v3, v4, v5] ∧ H3 td = some (.dK kv) ∧ Has kv C.names (evalC C ρ) ∧ Same H H3) (fun u hu' => ?_) ?_
    · refine ⟨_, ps_for PassesOwn.never rfl (pi_tup (pe_ix ix_tup (pv 0) pe_int (fun _ _ => rfl))) (pg_tup rfl (pgs_cons (pg_name (i := 3) scAll.nd rfl (Or.inl rfl)) (pgs_cons (pg_name (i := 4) scAll.nd rfl (Or.inl rfl)) (pgs_cons (pg_name (i := 5) scAll.nd rfl (Or.inl rfl)) pgs_nil))))
        (pss_one (ps_dput hu (pv 2) (pv 3) (pe_call GB hr rfl gG.m gG.k gG.b .nil pass0 (pa_c (pv 4) (pa_c (pe_lc ["one"] ["known"] [2] rfl (pi_tup (pv 5)) rfl rfl (fun s₀ H₀ C cl fp => pg_name (i := 0) ndOK rfl (Or.inl rfl)) (fun s₀ H₀ C cl fp => pifs_nil)
          (fun s₀ H₀ C cl fp => pe_dget hu (pv 1) (pv 0) (fun _ _ => rfl))) pa_nil))) rfl)), ?_⟩
      refine ⟨_, rfl, ce, _, _, .ref ga, rfl, rfl, SqT.of (s2 _ _ c1), rfl, ga, rfl, ⟨_, SqT.of (s2 _ _ c3)⟩, ?_⟩
      refine for_tup (K := K) (a := ga) (xs := as.map V.ref) (fun i σ H3 => ∃ (kv : List (Key × V)) (v3 v4 v5 : Option V), σ = [some (.ref ce), some (.ref b), some (.ref td), v3, v4, v5] ∧ H3 td = some (.dK kv) ∧ Has kv (C.ins ++ (C.gates.take i).map (·.1)) (evalG ρ (C.gates.take i)) ∧ kv.length ≤ 6 + i ∧ Same H H3)
        ⟨kv, v3, none, none, rfl, ht2, by simpa [evalG] using hh2, by omega, s2⟩ (fun i σ H3 _ ⟨_, _, _, _, _, _, _, _, s3⟩ => SqT.of (s3 _ _ c3)) ?_ ?_
      · rintro i x σ H3 hx ⟨kv, v3, v4, v5, rfl, ht3, hh, hl, s3⟩
        obtain ⟨a1, ha1, rfl⟩ := ref_item hx
        obtain ⟨g, hg, q, g1, g2⟩ := paired_get c5 ha1
        have hi : i < C.gates.length := (List.getElem?_eq_some_iff.mp hg).1
        obtain ⟨hok, hps⟩ := hG.gt.at hg
        generalize hR : evalG ρ (C.gates.take i) = ρi at hh
        refine ⟨a1, _, rfl, SqT.of (s3 _ _ g1), rfl, _, _, rfl, _, _, rfl, _, _, rfl, rfl, ?_⟩
        refine ⟨_, rfl, _, rfl, q, rfl, ⟨_, SqT.of (s3 _ _ g2)⟩, fun D0 nD0 => ?_⟩
        have hpl : g.2.2.length ≤ 3 := by rcases hok.ok with ⟨_, z | z⟩ | ⟨_, z⟩ | ⟨_, z⟩ | ⟨_, z⟩ | ⟨_, z⟩ <;> omega
        refine lcMap yields_tup (fV ρi) nD0 (fun H4 s4 => SqT.of (s4 _ _ (s3 _ _ g2))) (by rw [List.length_map]; omega) ?_ ?_
        · intro j x H4 kk hx s4 hk
          obtain ⟨y, hy, rfl⟩ := str_item hx
          have hv := (hh y (hps y (List.mem_of_getElem? hy))).1
          exact ⟨_, rfl, _, rfl, td, _, rfl, dget (s4 _ _ ht3) hv, hk⟩
        rw [map_fV]
        refine ⟨g.2.1, D0, g.2.2.map ρi, rfl, upd_same, ?_, by rw [List.length_map]; exact hok, fun H5 s5 => ?_⟩
        · intro z hz
          obtain ⟨y, hy, rfl⟩ := List.mem_map.mp hz
          exact (hh y (hps y hy)).2
        have s35 : Same H3 H5 := (Same.new nD0).trans s5
        refine ⟨_, rfl, _, rfl, td, _, rfl, DPut.k (k := (Sum.inr g.1 : Key)) (s35 _ _ ht3) (small1000 (by omega)), putK kv (Sum.inr g.1) (.int (gateVal g.2.1 (g.2.2.map ρi))), _, _, _, rfl, upd_same, ?_, ?_, ?_⟩
        · rw [take_snoc hg, evalG_snoc, hR, List.map_append, ← List.append_assoc]
          exact hh.put (gateVal_bit _ _)
        · have := length_putK kv (Sum.inr g.1 : Key) (.int (gateVal g.2.1 (g.2.2.map ρi))); omega
        · exact fun c o e => by rw [upd_ne (ne_of_none e ntd)]; exact s35 c o (s3 c o e)
      · rintro σ H3 ⟨kv, v3, v4, v5, rfl, ht3, hh, hl, s3⟩
        rw [List.length_map, paired_len c5, List.take_of_length_le (Nat.le_refl _)] at hh
        exact hu' _ _ ⟨kv, v3, v4, v5, rfl, ht3, hh, s3⟩
    rintro σ H3 ⟨kv3, v3, v4, v5, rfl, ht3, hh3, s3⟩
    exact ⟨_, pss_one (ps_ret (pv 2)), _, rfl, k td kv3 H3 ntd ht3 hh3 s3⟩
end
end Lw

namespace L2
open PySem PySem.Spec PyProof.Rows
section
variable {X : Cx}
/-! ### all(xs) of bools -/
theorem bl_get {bs : List Bool} {us : List Value} (r : Vals (bs.map V.bl) us) {i : Nat} {v : Value} (h : us[i]? = some v) : ∃ b, bs[i]? = some b ∧ v = .bool b := by
  have hl := r.length
  rw [List.length_map] at hl
  have hi : i < us.length := (List.getElem?_eq_some_iff.mp h).1
  have hb : bs[i]? = some (bs[i]'(by omega)) := List.getElem?_eq_getElem (by omega)
  obtain ⟨u, hu, ru⟩ := r.get (i := i) (x := V.bl (bs[i]'(by omega))) (by rw [List.getElem?_map, hb]; rfl)
  rw [h] at hu
  cases hu
  exact ⟨_, hb, ru⟩
theorem all_range (bs : List Bool) : ((List.range bs.length).all fun i => (bs[i]?).getD true) = bs.all id := by
  have e : (List.range bs.length).map (fun i => (bs[i]?).getD true) = bs := by
    apply List.ext_getElem (by simp)
    intro i p q
    simp [q]
  calc ((List.range bs.length).all fun i => (bs[i]?).getD true) = ((List.range bs.length).map fun i => (bs[i]?).getD true).all id := by rw [List.all_map]; rfl
    _ = bs.all id := by rw [e]
def rAll (K : PySem.W.Frag) : List V → Hp → VK → Prop := fun xs H Q => ∃ (p : Addr) (bs : List Bool), xs = [.ref p] ∧ SqL K H p (bs.map V.bl) ∧ Q (.bl (bs.all id)) H
theorem call_all (hc : X.calm = true) : CallR X (.builtin "all") (rAll X.K) := by
  intro pins s σ H xs us Q I r h
  obtain ⟨p, bs, rfl, hq, q⟩ := h
  obtain ⟨u, rfl, ru⟩ := vals1 r
  cases ru
  obtain ⟨its, rv, pl, _⟩ := I.list hq
  have hl := pl.isList
  have hlen := rv.length
  rw [List.length_map] at hlen
  have hlt : p < s.heap.objs.size := by obtain ⟨_, e, _⟩ := id hl; exact Heap.lt_size e
  refine call_all_walk (wpAny_pyIter_list hl ?_)
  refine ⟨s.heap.objs.size, [s.heap.objs.size, p], [s.heap.objs.size], its.toArray.size, _, _, fun i => (bs[i]?).getD true, rfl, Walks.list (A := X.A.in1) (I.ok.hd hc) _ p (Nat.ne_of_lt hlt) its.toArray,
    ⟨⟨_, Heap.get?_push_size _ rfl, rfl, rfl⟩, hl.push _⟩, fun i v s' Q' E' hP hQ => ?_, fun h' tk hk => ?_⟩
  · obtain ⟨b, e, rfl⟩ := bl_get rv (by simpa using hP)
    simp only [e, Option.getD_some] at hQ
    exact wpAny_truthy_bool hQ
  · have e : ((List.range its.toArray.size).all fun i => (bs[i]?).getD true) = bs.all id := by
      rw [List.size_toArray, ← hlen]; exact all_range bs
    rw [e]
    exact ⟨.bl _, H, I.kept fun b x e => hk b x (fun hm => by rw [List.mem_singleton.mp hm] at e; exact Nat.lt_irrefl _ (Heap.lt_size e)) (Heap.get?_push_of_some _ e), rfl, q⟩
/-! ### x.split(sep) -/
def rSplit : V → List V → Hp → VK → Prop := fun x vs H Q => ∃ (z y : Str), x = .str z ∧ vs = [.str y] ∧ y.length ≠ 0 ∧ z.length ≤ 1000000 ∧ ∀ p, H p = none → Q (.ref p) (upd H p (.lst ((Txt.split z y).map V.str)))
theorem vals_strs : ∀ (l : List (Str × Tok)), Vals ((l.map (·.1)).map V.str) (strValues l)
  | [] => .nil
  | a :: r => .cons ⟨a.2, rfl⟩ (vals_strs r)
theorem mt_split : MtR X "str.split" rSplit := by
  intro pins s σ H x vs v us Q I rx rv h
  obtain ⟨z, y, rfl, rfl, hy, hz, q⟩ := h
  obtain ⟨t, rfl⟩ := rx
  obtain ⟨u, rfl, t', rfl⟩ := rv.one
  have hy0 : (y.length == 0) = false := by simpa using hy
  have fin : ∀ (l : List (Str × Tok)) (tk : Nat), l.map (·.1) = Txt.split z y → l.length ≤ sizeLine → EP X pins σ Q (.ref s.heap.objs.size) { s with heap := s.heap.push { cls := .type "list", data := .seq (strValues l).toArray }, toks := tk } := by
    intro l tk e hl
    refine ⟨.ref _, _, I.lnew (its := strValues l) (ys := (Txt.split z y).map V.str) (t' := tk) (by rw [← e]; exact vals_strs l) ?_, rfl, q _ I.fresh⟩
    rw [List.length_map, ← e, List.length_map]; exact hl
  have hn : (Builtin.Str.partsBetween z (Builtin.Str.occurrences z y 0 z.length (z.length + 1)) y.length).length ≤ sizeLine := by
    have e1 := StrLaws.occ_length_le z y 0 z.length (z.length + 1)
    rw [length_partsBetween, sizeLine_eq]; omega
  cases g1 : (decide (z.length < y.length) || decide (Builtin.Str.strKind z < Builtin.Str.strKind y)) with
  | false =>
    cases g2 : (Builtin.Str.occurrences z y 0 z.length (z.length + 1)).isEmpty with
    | false =>
      refine call_meets PySem.F.slot_str_split (typeIs_str _ _ _) PySem.F.entry_str_split (PySem.F.args_str_split_2 _ _) (meets_str_split_sep z y t t' g1 hy0 g2 (by rw [sizeLine_eq]; omega) hn) ?_
      show wants _ _ _ { s with toks := _, heap := s.heap.push { cls := .type "list", data := .seq (strsFrom s.toks (Builtin.Str.partsBetween z (Builtin.Str.occurrences z y 0 z.length (z.length + 1)) y.length)).toArray } }
      rw [strsFrom_eq]
      have e9 : (numbered s.toks (Builtin.Str.partsBetween z (Builtin.Str.occurrences z y 0 z.length (z.length + 1)) y.length)).map (·.1) = Txt.split z y := (numbered_texts _ _).trans ((if_neg (ne_true_of_eq_false g1)).trans (if_neg (ne_true_of_eq_false g2))).symm
      refine fin _ _ e9 ?_
      have := congrArg List.length (numbered_texts s.toks (Builtin.Str.partsBetween z (Builtin.Str.occurrences z y 0 z.length (z.length + 1)) y.length))
      rw [List.length_map] at this
      rw [this]; exact hn
    | true =>
      exact call_meets PySem.F.slot_str_split (typeIs_str _ _ _) PySem.F.entry_str_split (PySem.F.args_str_split_2 _ _) (meets_str_split_not_found z y t t' g1 hy0 g2)
        (fin [(z, t)] s.toks ((if_neg (ne_true_of_eq_false g1)).trans (if_pos g2)).symm (by show 1 ≤ sizeLine; decide))
  | true =>
    exact call_meets PySem.F.slot_str_split (typeIs_str _ _ _) PySem.F.entry_str_split (PySem.F.args_str_split_2 _ _) (meets_str_split_cannot_occur z y t t' g1)
      (fin [(z, t)] s.toks (if_pos g1).symm (by show 1 ≤ sizeLine; decide))
end
end L2

namespace L2
open PySem PySem.Spec PyProof.Rows
section
variable {X : Cx} {pins : List (Addr × Obj)} {σ : St} {H : Hp} {s : Shared} {h' : Heap}
/-- records of ours have turned -/
theorem Inv.moved {t' : Nat} {fp : List Addr} (I : Inv X pins σ H s) (hf : ∀ b ∈ fp, FpOk X pins H b) (k : ∀ b o, b ∉ fp → s.heap.get? b = some o → h'.get? b = some o) : Inv X pins σ H { s with heap := h', toks := t' } := by
  have nit : ∀ b u, H b = some u → b ∉ fp := fun b u e z => by rw [(hf b z).1] at e; cases e
  refine I.step (g' := s.gens) (d' := s.drawn) (ch := fp) (fun b hb => ⟨(hf b hb).2.2.2.1, (hf b hb).2.1, (hf b hb).2.2.2.2.1, (hf b hb).2.2.2.2.2⟩) (fun b o _ _ hc e _ => k b o hc e) (fun b o _ _ hc e _ => ⟨o.slots, k b o hc e⟩) (fun _ _ _ _ n => n)
    (fun b o hc e => ⟨o, k b o hc e⟩) (fun _ _ e => e) (fun _ _ _ e => e) (fun b ps e => ⟨#[], by rw [e]; simp⟩) (fun m hm => ?_) (fun b u e => ?_) I.bare
  · obtain ⟨o, es, ep, ho, r⟩ := hm
    exact ⟨o, es, ep, k _ o (fun z => (hf _ z).2.1 rfl) ho, r⟩
  · refine (I.hok b u e).stay (fun c v hc q => k c v ?_ q) (fun _ q => q) fun _ _ q => q
    rcases hc with z | z
    · rw [z]; exact nit b u e
    · exact nit c _ z
/-- .. and a tuple is new -/
theorem Inv.movedT {t' : Nat} {fp : List Addr} {ys : List V} {its : List Value} (I : Inv X pins σ H s) (hf : ∀ b ∈ fp, FpOk X pins H b) (k : ∀ b o, b ∉ fp → s.heap.get? b = some o → h'.get? b = some o)
    (new : IsTup h' s.heap.objs.size its.toArray) (rv : Vals ys its) (hz : ys.length ≤ sizeLine) : Inv X pins σ (upd H s.heap.objs.size (.tup ys)) { s with heap := h', toks := t' } := by
  have hn := I.fresh
  have nit : ∀ b u, H b = some u → b ∉ fp := fun b u e z => by rw [(hf b z).1] at e; cases e
  have lt : ∀ b o, s.heap.get? b = some o → b ≠ s.heap.objs.size := fun b o e => Nat.ne_of_lt (Heap.lt_size e)
  refine I.step (g' := s.gens) (d' := s.drawn) (ch := fp) (fun b hb => ⟨(hf b hb).2.2.2.1, (hf b hb).2.1, (hf b hb).2.2.2.2.1, (hf b hb).2.2.2.2.2⟩) (fun b o _ _ hc e _ => k b o hc e) (fun b o _ _ hc e _ => ⟨o.slots, k b o hc e⟩) (fun b o _ e n => by rw [upd_ne (lt b o e)]; exact n)
    (fun b o hc e => ⟨o, k b o hc e⟩) (fun b xs e => by rw [upd_ne (ne_of_none e hn)]; exact e) (fun b o u e => by rw [upd_ne (ne_of_none e hn)]; exact e) (fun b ps e => ⟨#[], by rw [upd_ne (ne_of_none e hn), e]; simp⟩) (fun m hm => ?_) (fun b u e => ?_) I.bare
  · obtain ⟨o, es, ep, ho, r⟩ := hm
    exact ⟨o, es, ep, k _ o (fun z => (hf _ z).2.1 rfl) ho, r⟩
  · by_cases hb : b = s.heap.objs.size
    · subst hb
      rw [upd_same] at e
      cases e
      exact ⟨hz, its, rv, new⟩
    · rw [upd_ne hb] at e
      refine (I.hok b u e).stay (fun c v hc q => k c v ?_ q) (fun c q => by rw [upd_ne (ne_of_none q hn)]; exact q) fun c xs q => by rw [upd_ne (ne_of_none q hn)]; exact q
      rcases hc with z | z
      · rw [z]; exact nit b u e
      · exact nit c _ z
end
/-! ### for a, b in zip(xs, ys) -/
def Itz (K : PySem.W.Frag) (a b : Addr) : It :=
  ⟨fun i H => ∃ xs ys x y, SqL K H a xs ∧ SqL K H b ys ∧ xs[i]? = some x ∧ ys[i]? = some y,
   fun i H v H' => ∃ p x y, H p = none ∧ v = .ref p ∧ H' = upd H p (.tup [x, y]) ∧ (∀ xs, SqL K H a xs → xs[i]? = some x) ∧ (∀ ys, SqL K H b ys → ys[i]? = some y),
   fun i H => ∃ xs ys, SqL K H a xs ∧ SqL K H b ys ∧ (xs.length ≤ i ∨ ys.length ≤ i)⟩
def ZipSt (a b z TI TO i1 i2 : Addr) (i : Nat) (h : Heap) : Prop := IsZip h z TI TO .none ∧ IsPair h TI (.ref i1) (.ref i2) ∧ (∃ u v, IsPair h TO u v) ∧ h.IsListIter i1 a i ∧ h.IsListIter i2 b i
theorem turn_zip {P : Program} {w : World} {K : PySem.W.Frag} {elts : List Expr} {x1 : Nat} {pos : Pos} {a b z TI TO i1 i2 : Addr} (D : ZipApart z TI TO i1 i2 a b) :
    Turn P w K (.Tuple elts x1 pos) (Itz K a b) [z, TI, TO, i1, i2] z (ZipSt a b z TI TO i1 i2) where
  mem := by simp
  obj := fun i h st c hc => by
    obtain ⟨s1, s2, ⟨u, v, s3⟩, ⟨o4, s4, c4, d4⟩, ⟨o5, s5, c5, d5⟩⟩ := st
    simp only [List.mem_cons, List.not_mem_nil, or_false] at hc
    rcases hc with e | e | e | e | e <;> subst e
    · exact ⟨_, s1, fun v z => nomatch z⟩
    · exact ⟨_, s2, fun v z => nomatch z⟩
    · exact ⟨_, s3, fun v z => nomatch z⟩
    · exact ⟨_, s4, fun v z => by rw [d4] at z; cases z⟩
    · exact ⟨_, s5, fun v z => by rw [d5] at z; cases z⟩
  keep := fun i h h' st k => by
    obtain ⟨s1, s2, ⟨u, v, s3⟩, s4, s5⟩ := st
    exact ⟨k z (by simp) _ s1, k TI (by simp) _ s2, ⟨u, v, k TO (by simp) _ s3⟩, s4.at fun o e => k i1 (by simp) o e, s5.at fun o e => k i2 (by simp) o e⟩
  item := by
    intro X hP hw hK hc i pins s σ H E I hf st hg
    subst hP hw hK
    obtain ⟨s1, s2, ⟨u, v, s3⟩, s4, s5⟩ := st
    obtain ⟨xs, ys, x, y, qx, qy, hx, hy⟩ := hg
    obtain ⟨itx, rx, px, _⟩ := I.list qx
    obtain ⟨ity, ry, py, _⟩ := I.list qy
    obtain ⟨ux, hux, rux⟩ := rx.get hx
    obtain ⟨uy, huy, ruy⟩ := ry.get hy
    refine wpAny_pyNext_zip_item D s1 s2 s3 s4 s5 px.isList py.isList (x := ux) (y := uy) (by simpa using hux) (by simpa using huy) fun h' n1 n2 n3 n4 n5 n6 n7 => ?_
    refine ⟨_, rfl, wpAny_letOwnedTupleGo_zip n1 fun h2 m1 sb => ?_⟩
    have kp : ∀ c o, c ∉ [z, TI, TO, i1, i2] → s.heap.get? c = some o → h2.get? c = some o := fun c o hcc e => by
      simp only [List.mem_cons, List.not_mem_nil, or_false, not_or] at hcc
      obtain ⟨e1, e2, e3, e4, e5⟩ := hcc
      exact sb.extBut c o e1 (n7 c o e1 e3 e4 e5 e)
    have zs : s.heap.objs.size ≠ z := fun e => Nat.lt_irrefl _ (by have := Heap.lt_size s1; rw [← e] at this; exact this)
    have nt : IsTup h2 s.heap.objs.size [ux, uy].toArray := ⟨_, sb.extBut _ _ zs n5, rfl, _, rfl⟩
    have I2 := I.movedT (t' := s.toks) (ys := [x, y]) hf kp nt (.cons rux (.cons ruy .nil)) (by show 2 ≤ sizeLine; decide)
    refine ⟨.ref s.heap.objs.size, _, I2, rfl, ⟨_, x, y, I.fresh, rfl, rfl, fun xs' q' => by rw [I.list_inj q' qx]; exact hx, fun ys' q' => by rw [I.list_inj q' qy]; exact hy⟩, ⟨m1, ?_, ⟨ux, uy, ?_⟩, ?_, ?_⟩, fun c hcc => ?_⟩
    · exact sb.extBut _ _ D.TIz (n7 TI _ D.TIz D.TITO D.TIi1 D.TIi2 s2)
    · exact sb.extBut _ _ D.TOz n2
    · exact n3.at fun o e => sb.extBut _ o D.i1z e
    · exact n4.at fun o e => sb.extBut _ o D.i2z e
    · rw [upd_ne]
      · exact (hf c hcc).1
      · intro e
        obtain ⟨o, ho⟩ : ∃ o, s.heap.get? c = some o := by
          obtain ⟨o4, s4', _⟩ := s4
          obtain ⟨o5, s5', _⟩ := s5
          simp only [List.mem_cons, List.not_mem_nil, or_false] at hcc
          rcases hcc with q | q | q | q | q <;> rw [q]
          · exact ⟨_, s1⟩
          · exact ⟨_, s2⟩
          · exact ⟨_, s3⟩
          · exact ⟨_, s4'⟩
          · exact ⟨_, s5'⟩
        have := Heap.lt_size ho
        rw [e] at this
        exact Nat.lt_irrefl _ this
  done := by
    intro X hP hw hK hc i pins s σ H E I hf st hg
    subst hP hw hK
    obtain ⟨s1, s2, ⟨u, v, s3⟩, s4, s5⟩ := st
    obtain ⟨xs, ys, qx, qy, hend⟩ := hg
    obtain ⟨itx, rx, px, _⟩ := I.list qx
    obtain ⟨ity, ry, py, _⟩ := I.list qy
    have lx := rx.length
    have ly := ry.length
    refine wpAny_pyNext_zip_end (I.ok.hd hc) D s1 s2 s3 s4 s5 px.isList py.isList ?_ fun h' k => ⟨rfl, I.moved (t' := s.toks) hf fun c o hcc e => ?_⟩
    · rcases hend with q | q
      · exact .inl (by simp; omega)
      · exact .inr (by simp; omega)
    · simp only [List.mem_cons, List.not_mem_nil, or_false, not_or] at hcc
      obtain ⟨e1, e2, e3, e4, e5⟩ := hcc
      exact k c o e1 e3 e4 e5 e
  self := fun _ _ _ _ _ st h => wpAny_pyIter_zip st.1 h
section
variable {X : Cx}
def iZip (K : PySem.W.Frag) (ta : TA) : TI := fun σ H R => ta σ H fun vs H1 => ∃ a b, vs = [.ref a, .ref b] ∧ (∃ xs, SqL K H1 a xs) ∧ (∃ ys, SqL K H1 b ys) ∧ R (Itz K a b) H1
theorem pi_zip {elts : List Expr} {x1 : Nat} {ps : Pos} {e1 e2 : Expr} {ta : TA} {p pos : Pos} (hg : Gl X "zip") (hm : X.mg "zip" = none) (ha : PA X [e1, e2] ta) (hs : starEach [e1, e2] X.env = (false, eval e1 X.env) :: starEach [e2] X.env := by rfl)
    (hpl : (backTo pos (starEach [e2] X.env)).any (·.1) = false := by rfl) : PI X (.Tuple elts x1 ps) (.Call (.Name "zip" p) [e1, e2] [] pos) (iZip X.K ta) := by
  intro pins s σ H R I h
  refine Call_ (ld_blt I hg hm boot_zip (PyProof.Rows.callWith_type1 (thn (ha pos pins s σ H _ I h) fun us s1 ⟨vs, H1, I1, r1, q1⟩ => ?_) hs hpl))
  obtain ⟨a, b, rfl, ⟨xs, qx⟩, ⟨ys, qy⟩, q⟩ := q1
  obtain ⟨u, v, rfl, ru, rv⟩ := vals2 r1
  cases ru
  cases rv
  obtain ⟨itx, rx, px, _⟩ := I1.list qx
  obtain ⟨ity, ry, py, _⟩ := I1.list qy
  have la : a < s1.heap.objs.size := by obtain ⟨_, e, _⟩ := px.isList; exact Heap.lt_size e
  have lb : b < s1.heap.objs.size := by obtain ⟨_, e, _⟩ := py.isList; exact Heap.lt_size e
  refine call_zip_2 px.isList py.isList fun h' n1 n2 n3 n4 n5 n6 n7 => ?_
  have I2 : Inv X pins σ H1 { s1 with heap := h' } := I1.kept (t' := s1.toks) n7
  refine wpAny_pyIter_zip n1 ⟨_, [_, _, _, _, _], _, _, H1, rfl, I2, turn_zip (a := a) (b := b) (i1 := s1.heap.objs.size) (i2 := s1.heap.objs.size + 1) (z := s1.heap.objs.size + 4) (TI := s1.heap.objs.size + 2) (TO := s1.heap.objs.size + 3) ?_, ⟨n1, n2, ⟨_, _, n3⟩, n4, n5⟩, fun c hc => ?_, q⟩
  · constructor <;> first | exact Nat.ne_of_lt la | exact Nat.ne_of_lt lb | exact Nat.ne_of_lt (Nat.lt_of_lt_of_le la (Nat.le_add_right _ _)) | exact Nat.ne_of_lt (Nat.lt_of_lt_of_le lb (Nat.le_add_right _ _)) | exact Nat.ne_of_gt la | exact Nat.ne_of_gt lb | exact Nat.ne_of_gt (Nat.lt_of_lt_of_le la (Nat.le_add_right _ _)) | exact Nat.ne_of_gt (Nat.lt_of_lt_of_le lb (Nat.le_add_right _ _)) | exact (by show (_ : Nat) ≠ _; omega)
  · simp only [List.mem_cons, List.not_mem_nil, or_false] at hc
    rcases hc with e | e | e | e | e <;> (subst e; exact I1.fpOk (by omega) (I1.hok.fresh (by omega)))
end
end L2

namespace L2
open PySem PySem.Spec PyProof.Rows
/-! ### a dict of the module, its keys texts -/
def KDct (K : PySem.W.Frag) (w : World) (a : Addr) (kvs : List (Key × V)) : Prop := (a == sysModules) = false ∧ ∀ (P : Program) (h : Heap), K.In h → ∃ vs, KV kvs vs ∧ h.DictOf (mixKind P w) a vs
theorem rows_pairs (P : Program) (w : World) {es : List DictEntry} {D : List (Str × V × Value)} (h : KTD.Rows (fun (d : V × Value) v => v = d.2) es D) (hr : ∀ p ∈ D, RelV p.2.1 p.2.2) : es.map (·.hash) = D.map (fun p => hashStr w p.1) →
    (∀ e ∈ es, ∃ k, (mixKind P w).is k e.key = true ∧ e.hash = (mixKind P w).hash k) ∧ Pairs (mixKind P w) es (D.map fun p => ((.inr p.1 : Key), p.2.2)) ∧ KV (D.map fun p => ((.inr p.1 : Key), p.2.1)) (D.map fun p => ((.inr p.1 : Key), p.2.2)) := by
  induction h with
  | nil => exact fun _ => ⟨(fun _ h => nomatch h), .nil, .nil⟩
  | @cons e x t d es D hkey hv _ ih =>
    intro hh
    simp only [List.map_cons, List.cons.injEq] at hh
    obtain ⟨h1, h2, h3⟩ := ih (fun p hp => hr p (List.mem_cons_of_mem _ hp)) hh.2
    have hi : (mixKind P w).is (.inr x : Key) e.key = true := by rw [hkey]; exact mixKind_str P w x t
    refine ⟨fun e' he' => ?_, .cons hi hv h2, .cons ⟨rfl, hr (x, d) (List.mem_cons_self ..)⟩ h3⟩
    rcases List.mem_cons.mp he' with he' | he'
    · rw [he']; exact ⟨.inr x, hi, hh.1⟩
    · exact h1 e' he'
theorem kdct_of {K : PySem.W.Frag} {w : World} {a : Addr} {D : List (Str × V × Value)} (hr : ∀ p ∈ D, RelV p.2.1 p.2.2) (hl : KTD.tabLook (fun (d : V × Value) v => v == d.2) (fun b => K.lookup b) a D = true) (hn : (D.map (·.1)).Nodup)
    (hh : KTD.hashesOf (fun b => K.lookup b) a = D.map fun p => hashStr w p.1) : KDct K w a (D.map fun p => (.inr p.1, p.2.1)) := by
  simp only [KTD.tabLook, Bool.and_eq_true] at hl
  obtain ⟨h0, hl⟩ := hl
  refine ⟨by simpa using h0, fun P h hK => ?_⟩
  split at hl
  · rename_i o ho
    simp only [Bool.and_eq_true] at hl
    obtain ⟨⟨⟨e1, e2⟩, e3⟩, e4⟩ := hl
    split at e4
    · rename_i es ep hd
      have hh' : es.toList.map (·.hash) = D.map fun p => hashStr w p.1 := by
        rw [← hh]; unfold KTD.hashesOf; simp only [ho, hd]
      obtain ⟨hk, hp, hf⟩ := rows_pairs P w (KTD.rows_of_look (R := fun (d : V × Value) v => v = d.2) (fun d v e => beq_iff_eq.mp e) e4) hr hh'
      refine ⟨_, hf, o, es, ep, hK _ _ ho, ⟨beq_iff_eq.mp e1, by simpa using e2, by simpa using e3⟩, hd, fun e he => hk e (by simpa using he), hp, ?_⟩
      rw [List.map_map]
      have : (D.map ((fun (x : Key × Value) => x.1) ∘ fun p => ((.inr p.1 : Key), p.2.2))) = (D.map (·.1)).map (Sum.inr : Str → Key) := by rw [List.map_map]; rfl
      rw [this]
      exact hn.map _ (fun a b hab e => hab (Sum.inr.inj e))
    · cases e4
  · cases hl
section
variable {X : Cx}
def rInK (K : PySem.W.Frag) (w : World) (neg : Bool) : R2 := fun x y H Q => ∃ (z : Str) (a : Addr) (kvs : List (Key × V)), x = .str z ∧ y = .ref a ∧ KDct K w a kvs ∧ Q (.bl (if neg then !(valV kvs (.inr z)).isSome else (valV kvs (.inr z)).isSome)) H
theorem op_notInK : OpR X (compareOp .NotIn) (rInK X.K X.w true) := by
  intro pins s σ H x y v u Q I rx ry h
  obtain ⟨z, a, kvs, rfl, rfl, ⟨hd, kd⟩, q⟩ := h
  cases ry
  obtain ⟨vs, rel, dd⟩ := kd X.prog s.heap I.kIn
  refine wpAny_notIn_of (kV_is (k := .inr z) rx) hd dd.mapOf ?_
  rw [← (rel.val (.inr z)).isSome_eq]
  exact ⟨.bl _, H, I.tok _, rfl, q⟩
theorem op_inKd : OpR X (compareOp .In) (rInK X.K X.w false) := by
  intro pins s σ H x y v u Q I rx ry h
  obtain ⟨z, a, kvs, rfl, rfl, ⟨hd, kd⟩, q⟩ := h
  cases ry
  obtain ⟨vs, rel, dd⟩ := kd X.prog s.heap I.kIn
  refine wpAny_in_of (kV_is (k := .inr z) rx) hd dd.mapOf ?_
  rw [← (rel.val (.inr z)).isSome_eq]
  exact ⟨.bl _, H, I.tok _, rfl, q⟩
def tDGetK (K : PySem.W.Frag) (w : World) (td ty tx : TE) : TE := fun σ H Q => td σ H fun x H1 => ∃ (a : Addr) (kvs : List (Key × V)), x = .ref a ∧ KDct K w a kvs ∧ ty σ H1 fun y H2 => tx σ H2 fun z H3 => ∃ k : Str, y = .str k ∧ Q ((valV kvs (.inr k)).getD z) H3
theorem pe_dgetK {o e f : Expr} {apos cpos : Pos} {td ty tx : TE} (ho : PE X o td) (he : PE X e ty) (hf : PE X f tx) (m : M2 X o "get" apos e f cpos) : PE X (.Call (.Attribute o "get" apos) [e, f] [] cpos) (tDGetK X.K X.w td ty tx) := by
  intro pins s σ H Q I h
  refine wpAny_Call_method m.base m.few m.line PySem.F.plainAttrs_dict PySem.F.slot_dict_get PySem.F.type_dict_get (thn (ho pins s σ H _ I h) fun u s1 ⟨x, H1, I1, rx, a, kvs, ex, ⟨hd, kd⟩, q1⟩ => ?_)
  subst ex
  obtain rfl : u = Value.ref a := rx
  obtain ⟨vs1, _, dd1⟩ := kd X.prog s1.heap I1.kIn
  refine ⟨dd1.typeIs, fun b q => ?_, ?_⟩
  · cases q
    obtain ⟨ob, _, _, h1, h2, _⟩ := dd1
    exact ⟨ob, h1, h2.2.1⟩
  rw [m.trees]
  refine Calls.callWith_builtin rfl (Calls.evalArgs_plain (Calls.spliced_cons (thn (he pins s1 σ H1 _ I1 q1) fun iv s2 ⟨y, H2, I2, ry, q2⟩ =>
    Calls.spliced_cons (thn (hf pins s2 σ H2 _ I2 q2) fun fv s3 ⟨z, H3, I3, rz, k, ek, q3⟩ => Calls.spliced_nil ?_))))
  subst ek
  obtain ⟨vs, rel, dd⟩ := kd X.prog s3.heap I3.kIn
  refine call_meetsIn PySem.F.slot_dict_get dd.typeIs PySem.F.entry_dict_get (PySem.F.args_dict_get_3 _ _ _) (meets_dict_get_default (mixKind X.prog X.w) a (kV_is (k := .inr k) ry) hd fv) ⟨_, dd.mapOf, ?_⟩
  exact ⟨_, H3, I3.tok _, (rel.val (.inr k)).getD rz, q3⟩
end
end L2

namespace L2
open PySem PySem.Spec PyProof.Rows

section
variable {X : Cx}
set_option maxHeartbeats 1000000 in
theorem lc_core {elt tg iter : Expr} {ifs : List Expr} {scope : Scope} {pos : Pos} {wi : TI} {g : TG} {tt : TT} {te : TE} (T capN : List Str) (caps : List Nat) (hc : X.calm = true) (hi : PI X tg iter wi)
    (hk : scope.kind = .function) (ho : lcOk X.N X.env.kindOf scope T capN caps = true)
    (hg : ∀ s₀ H₀ C cl fp, PG (lcx X (T ++ capN) scope cl C s₀ H₀ fp) tg g)
    (ht : ∀ s₀ H₀ C cl fp, PIfs (lcx X (T ++ capN) scope cl C s₀ H₀ fp) ifs tt)
    (he : ∀ s₀ H₀ C cl fp, PE (lcx X (T ++ capN) scope cl C s₀ H₀ fp) elt te)
    (hs : ∀ x, foldedSetIterable iter X.env x = pure x := by intro _; rfl)
    {use : Option (Value → Sem Unit)} {Qs : Value → Shared → Prop} {pins : List (Addr × Obj)} {s : Shared} {σ : St} {H : Hp} {Q : VK} (I : Inv X pins σ H s) (h : tLC T caps wi g tt te σ H Q)
    (fin : ∀ (C D : Addr) (s6 : Shared) (H5 : Hp), Inv X pins σ H5 s6 → Q (.ref D) H5 → FpOk X pins H5 C → (∃ m, s6.heap.Ns C m) → compPost (model X.prog X.w) X.A X.xe use Qs (.ref D) C (.ok .next) s6) :
    wpAny (model X.prog X.w) X.A (comprehension (.ListComp elt [⟨tg, iter, ifs, 0⟩] scope pos) scope X.env (firstIterPos [⟨tg, iter, ifs, 0⟩] pos) (newList []) (firstAsync [⟨tg, iter, ifs, 0⟩]) (firstIter [⟨tg, iter, ifs, 0⟩] X.env) use) Qs X.xe s := by
  have O := lcOk_of ho
  have hfree : ∀ p ∈ scope.names, p.2 = .free → ∃ c, X.env.cells.lookup p.1 = some c := fun p hp e => I.ok.has p.1 (.inl (O.free p hp e))
  obtain ⟨cl, hclos, cl1, cl2⟩ := closureFor_ok hfree
  refine wpAny_comprehension_free (use := use) rfl hs hclos hk O.loc (thn (hi pins s σ H _ I h) fun v s1 h1 => thn h1 fun itv s2 h2 => ?_)
  obtain ⟨it, fp, tn, J, H2, rfl, I2, TT', st2, f2, hD⟩ := h2
  -- the new list, tracked
  refine wpAny_newObj_type ?_
  have I3 : Inv X pins σ (upd H2 s2.heap.objs.size (.lst [])) { s2 with heap := s2.heap.push { cls := .type "list", data := .seq ([] : List Value).toArray } } := I2.lnew (t' := s2.toks) (its := []) (ys := []) .nil (Nat.zero_le _)
  have fD : H2 s2.heap.objs.size = none := I2.fresh
  obtain ⟨W, ⟨m0, w0⟩, turn⟩ := hD s2.heap.objs.size fD
  generalize hDd : s2.heap.objs.size = D at I3 fD w0 turn ⊢
  have st3 : tn 0 (s2.heap.push { cls := .type "list", data := .seq ([] : List Value).toArray }) := TT'.keep _ _ _ st2 fun b _ o e => Heap.get?_push_of_some _ e
  have hfpD : ∀ b ∈ fp, b < D := fun b hb => by
    obtain ⟨o, e, _⟩ := TT'.obj _ _ st2 b hb
    rw [← hDd]; exact Heap.lt_size e
  generalize hs3 : ({ s2 with heap := s2.heap.push { cls := .type "list", data := .seq ([] : List Value).toArray } } : Shared) = s3 at I3 ⊢
  have st3' : tn 0 s3.heap := by rw [← hs3]; exact st3
  generalize hH3 : upd H2 D (.lst []) = H3 at I3 w0
  have f3 : ∀ b ∈ fp, FpOk X pins H3 b := fun b hb => by
    obtain ⟨z0, z⟩ := f2 b hb
    exact ⟨by rw [← hH3, upd_ne (Nat.ne_of_lt (hfpD b hb))]; exact z0, z⟩
  -- the block's env
  refine wpAny_newFunctionEnv O.nocell (by intro y hy; simp at hy) (fun h₁ hns₁ hsb₁ => ?_) hk
  have hCn : H3 s3.heap.objs.size = none := I3.fresh
  have old : ∀ b o, s3.heap.get? b = some o → h₁.get? b = some o := fun b o e => hsb₁.extBut b o (Nat.ne_of_lt (Heap.lt_size e)) (Heap.get?_push_of_some _ e)
  generalize hC : s3.heap.objs.size = C at hns₁ hsb₁ hCn ⊢
  have hltC : ∀ b o, s3.heap.get? b = some o → b ≠ C := fun b o e => by rw [← hC]; exact Nat.ne_of_lt (Heap.lt_size e)
  have fpC : ∀ b ∈ fp, b ≠ C := fun b hb => by
    obtain ⟨o, e, _⟩ := TT'.obj _ _ st3' b hb
    exact hltC b o e
  have fpS : ∀ b ∈ fp, b ∉ frs X.stack := fun b hb z => by
    rcases List.mem_cons.mp (I3.stkSub b z) with q | q
    · exact (f3 b hb).2.1 q
    · exact (f3 b hb).2.2.1 q
  have fpCl : ∀ b ∈ fp, ∀ x c, cl.lookup x = some c → c ≠ b := fun b hb x c e => (f3 b hb).2.2.2.2.1 x c (cl1 x c e)
  -- the block's context
  have hXok : (lcx X (T ++ capN) scope cl C s3 H3 fp).Ok := by
    refine ⟨I3.ok.mod, hk, I3.ok.glob, I3.ok.blt, Nat.le_of_eq hC, fun x y c e1 e2 => I3.ok.inj x y c (cl1 x c e1) (cl1 y c e2), fun x hx => ?_, fun x c e1 e2 => ?_, I3.ok.hd, I3.ok.frames, .inl rfl, fun b hb => ⟨fpC b hb, fun x c e => fpCl b hb x c e⟩,
      fun b o e => I3.bs b o e, ?_, fun b o e z => ?_, fun b hb => fpS b hb, I3.stack, I3.stkFree⟩
    · have hx' : (relabel scope X.env).names.lookup x = some .cell ∨ (relabel scope X.env).names.lookup x = some .free := hx
      have hf : scope.names.lookup x = some .free := by
        rcases hx' with q | q
        · exact relabel_inv q (.inl rfl) O.nocell
        · exact relabel_inv q (.inr rfl) O.nocell
      exact Option.isSome_iff_exists.mp (cl2 x (PySem.mem_of_lookup hf))
    · have e1 : (cl.lookup x).isNone = true := e1
      have e2 : cl.lookup x = some c := e2
      rw [e2] at e1; cases e1
    · exact Nat.le_trans I3.ok.bsz I3.sz
    · obtain ⟨z0, z1, z2, z3, _⟩ := f3 b z
      rcases z3 with q | q
      · exact I3.ok.noex b o e q
      · exact absurd (Nat.lt_of_lt_of_le (Heap.lt_size e) (Nat.le_trans I3.ok.bsz q)) (Nat.lt_irrefl _)
  have I4 : Inv (lcx X (T ++ capN) scope cl C s3 H3 fp) [] (lcs T caps σ) H3 { s3 with heap := h₁, toks := s3.toks + ([] : List (Str × Value)).length } := by
    refine ⟨hXok, rfl, I3.bare, Un.kept old, ⟨_, hns₁, fun i x v e1 e2 e3 => ?_⟩, fun x c e => ?_, hCn, fun x c e => I3.freeC x c (cl1 x c e), fun p hp => absurd (show p ∈ ([] : List (Addr × Obj)) from hp) (by simp), I3.hok.kept old, ?_⟩
    · have e1 : (T ++ capN)[i]? = some x := e1
      unfold lcs at e2
      by_cases hi : i < T.length
      · rw [List.getElem?_append_left (by simpa using hi), List.getElem?_map] at e2
        cases q : T[i]? with
        | none => rw [q] at e2; cases e2
        | some z => rw [q] at e2; cases e2
      · rw [List.getElem?_append_right (by omega)] at e1
        rw [List.getElem?_append_right (by simpa using hi), List.getElem?_map, List.length_map] at e2
        obtain ⟨k, k1, k2, k3⟩ := O.cap _ x e1
        rw [k1] at e2
        have e2 : (σ[k]?).join = some v := Option.some.inj e2
        have e2' : σ[k]? = some (some v) := by
          cases q : σ[k]? with
          | none => rw [q] at e2; cases e2
          | some z => rw [q] at e2; exact congrArg some e2
        have hcell : X.env.kindOf x = some .cell := O.free (x, .free) (PySem.mem_of_lookup k3) rfl
        obtain ⟨m, hn, hl⟩ := I3.loc
        obtain ⟨u, r, l⟩ := hl k x v k2 e2' (.inr (.inl hcell))
        refine ⟨u, r, .inr ⟨?_, ?_⟩⟩
        · obtain ⟨k', e5, e6⟩ := relabel_lookup (env := X.env) k3
          rcases e6 with z | ⟨_, z⟩
          · subst z; exact .inr e5
          · subst z; exact .inl e5
        · rcases l with ⟨l1, _⟩ | ⟨_, c, e7, o, ho1, ho2⟩
          · rw [hcell] at l1; cases l1
          · obtain ⟨c', e8⟩ := Option.isSome_iff_exists.mp (cl2 x (PySem.mem_of_lookup k3))
            have := cl1 x c' e8
            rw [e7] at this
            cases this
            exact ⟨c, e8, o, old c o ho1, ho2⟩
    · obtain ⟨v, o, ho1, ho2⟩ := I3.cell x c (cl1 x c e)
      exact ⟨v, o, old c o ho1, ho2⟩
    · show (lcs T caps σ).length = (T ++ capN).length
      unfold lcs
      rw [List.length_append, List.length_append, List.length_map, List.length_map, O.len]
  have fpX : ∀ {H' : Hp}, (∀ b ∈ fp, H' b = none) → ∀ b ∈ fp, FpOk (lcx X (T ++ capN) scope cl C s3 H3 fp) [] H' b := fun hn b hb =>
    ⟨hn b hb, fpC b hb, fpS b hb, .inl hb, fun x c e => fpCl b hb x c e, fun p hp => absurd (show p ∈ ([] : List (Addr × Obj)) from hp) (by simp)⟩
  have st4 : tn 0 h₁ := TT'.keep _ _ _ st3' fun b _ o e => old b o e
  have w0' : W 0 m0 [] (lcs T caps σ) H3 := w0
  -- the loop
  have loop : codeAny (model X.prog X.w) X.A (.compLoop (.ListComp elt [⟨tg, iter, ifs, 0⟩] scope pos) 0 (.ref it) (.ref D) (compEnvC scope cl C X.env))
      (compPost (model X.prog X.w) X.A X.xe use Qs (.ref D) C) { s3 with heap := h₁, toks := s3.toks + ([] : List (Str × Value)).length } := by
    refine codeAny_compLoop_go (fun n s' => ∃ i ys σ' H', Inv (lcx X (T ++ capN) scope cl C s3 H3 fp) [] σ' H' s' ∧ tn i s'.heap ∧ (∀ b ∈ fp, H' b = none) ∧ W i n ys σ' H') ?_ m0 ⟨0, [], lcs T caps σ, H3, I4, st4, fun b hb => (f3 b hb).1, w0'⟩
    rintro n s5 ⟨i, ys, σ5, H5, I5, st5, fr5, w5⟩
    rcases turn i n ys σ5 H5 w5 with ⟨stop, qn⟩ | ⟨go, N, F, hN, hF, step⟩
    · refine thn (TT'.done (lcx X (T ++ capN) scope cl C s3 H3 fp) rfl rfl rfl hc i [] s5 σ5 H5 _ I5 (fpX fr5) st5 stop) fun r s6 ⟨hr, I6⟩ => ?_
      subst hr
      obtain ⟨m6, hn6, _⟩ := I6.loc
      have hfC : H5 C = none := I6.free
      have ub := I6.base
      have hstat := I3.fpOk (Nat.le_of_eq hC) hCn
      refine fin C D s6 H5 (Inv.call' (s' := s6) (ch := fp) I3 I6.os ?_ I6.hok I6.bare (fun b hb => ⟨(f3 b hb).2.2.2.1, (f3 b hb).2.1, (f3 b hb).2.2.2.2.1, (f3 b hb).2.2.2.2.2⟩)) qn ⟨hfC, hstat.2⟩ ⟨m6, hn6⟩
      exact ⟨fun b o q n hb hx => ub.keep b o q n hb hx,
        fun b o q n hb hx => ub.slot b o q n hb hx, ub.free, fun b o q hx => ub.there b o q hx, ub.tups, ub.frzs, ub.tbls⟩
    · refine thn (TT'.item (lcx X (T ++ capN) scope cl C s3 H3 fp) rfl rfl rfl hc i [] s5 σ5 H5 _ I5 (fpX fr5) st5 go) fun r s6 ⟨u, hr, h6⟩ => ?_
      subst hr
      refine thn h6 fun _ s7 ⟨x, H7, I7, r7, y7, st7, fr7⟩ => ?_
      have I7' := I7.pinned (fpX fr7) (TT'.obj _ _ st7)
      have keepT : ∀ {σ8 : St} {H8 : Hp} {s8 : Shared}, Inv (lcx X (T ++ capN) scope cl C s3 H3 fp) ([] ++ pinsAt fp s7.heap) σ8 H8 s8 → tn (i + 1) s8.heap ∧ (∀ b ∈ fp, H8 b = none) := fun {σ8 H8 s8} I8 => by
        refine ⟨TT'.keep _ _ _ st7 fun b hb o e => (I8.pin (b, o) (List.mem_append_right _ (List.mem_append_right _ (mem_pinsAt hb e)))).1, fun b hb => ?_⟩
        obtain ⟨o, e, d⟩ := TT'.obj _ _ st7 b hb
        exact (I8.pin (b, o) (List.mem_append_right _ (List.mem_append_right _ (mem_pinsAt hb e)))).2.1
      refine thn (hg s3 H3 C cl fp _ s7 σ5 H7 x u _ I7' r7 (step x H7 y7)) fun _ s8 ⟨σ8, H8, I8, q8⟩ => ?_
      refine thn (ht s3 H3 C cl fp _ s8 σ8 H8 _ I8 q8) fun ok s9 ⟨H9, I9, q9⟩ => ?_
      cases ok with
      | false =>
        rw [if_neg (by simp)] at q9
        rw [if_neg (by simp)]
        obtain ⟨m', hm, w9⟩ := hF _ _ q9
        exact ⟨m', hm, i + 1, ys, σ8, H9, I9.unpinned, (keepT I9).1, (keepT I9).2, w9⟩
      | true =>
        rw [if_pos rfl] at q9
        rw [if_pos rfl]
        refine thn (he s3 H3 C cl fp _ s9 σ8 H9 _ I9 q9) fun vv s10 ⟨v, H10, I10, r10, n10⟩ => ?_
        obtain ⟨a10, z10, m', hm, w10⟩ := hN _ _ _ n10
        refine thn (mt_append (X := lcx X (T ++ capN) scope cl C s3 H3 fp) _ s10 σ8 H10 (.ref D) [v] (.ref D) [vv] (fun _ H11 => W (i + 1) m' (ys ++ [v]) σ8 H11) I10 rfl (.cons r10 .nil) ⟨D, ys, v, rfl, rfl, a10, z10, w10⟩) fun _ s11 ⟨_, H11, I11, _, w11⟩ => ?_
        exact ⟨m', hm, i + 1, ys ++ [v], σ8, H11, I11.unpinned, (keepT I11).1, (keepT I11).2, w11⟩
  exact codeAny_compStart_list loop (TT'.self _ 0 _ _ _ st4 loop)
/-- name = a comprehension: stored while the block's names stand -/
theorem ps_setLC {i : Nat} {x : Str} {pos' spos : Pos} {elt tg iter : Expr} {ifs : List Expr} {scope : Scope} {pos : Pos} {wi : TI} {g : TG} {tt : TT} {te : TE} (T capN : List Str) (caps : List Nat) (hN : X.N.Nodup) (hi' : X.N[i]? = some x) (hx : Loc X.env.scope x)
    (hc : X.calm = true) (hi : PI X tg iter wi) (hk : scope.kind = .function) (ho : lcOk X.N X.env.kindOf scope T capN caps = true)
    (hg : ∀ s₀ H₀ C cl fp, PG (lcx X (T ++ capN) scope cl C s₀ H₀ fp) tg g)
    (ht : ∀ s₀ H₀ C cl fp, PIfs (lcx X (T ++ capN) scope cl C s₀ H₀ fp) ifs tt)
    (he : ∀ s₀ H₀ C cl fp, PE (lcx X (T ++ capN) scope cl C s₀ H₀ fp) elt te)
    (hsw : swapsWith (.ListComp elt [⟨tg, iter, ifs, 0⟩] scope pos) (some (.Name x pos')) spos.line X.env = pure true := by rfl)
    (hs : ∀ x, foldedSetIterable iter X.env x = pure x := by intro _; rfl)
    (hf : X.fn x = true ∨ X.env.scope.names.lookup x = some .local := by first | exact .inl rfl | exact .inr rfl | assumption) :
    PS X (.Assign [.Name x pos'] (.ListComp elt [⟨tg, iter, ifs, 0⟩] scope pos) spos) (tAsg (tLC T caps wi g tt te) (gName i)) := by
  intro pins s σ H D I h
  rw [exec_Assign_Name_used _ _ _ _ hsw]
  refine wpAny_bind (wpAny_standAt (wpAny_bind ?_))
  show wpAny _ _ (comprehension _ _ _ _ _ _ _ _ >>= fun _ => pure ()) _ _ _
  refine wpAny_bind (lc_core T capN caps hc hi hk ho hg ht he hs I h fun C D0 s6 H5 I6 q fp ⟨m, hn⟩ => ?_)
  show wpAny _ _ (assign (.Name x pos') X.env (.ref D0)) _ _ _
  refine wpAny_assign_Name (store_ok2 I6 hN hi' hx (v := .ref D0) rfl (fun s' I' hsb => ?_) hf)
  obtain ⟨a, sb, ha⟩ := hsb
  have hCa : C ≠ a := by
    rcases ha with z | z
    · rw [z]; exact fp.2.1
    · exact (fp.2.2.2.2.1 x a z).symm
  refine ⟨m, hn.sameBut sb hCa, fun h' sb' => wpAny_pure (wpAny_pure ⟨_, H5, I'.moved (t' := s'.toks) (fp := [C]) (fun b hb => ?_) (fun b o hb e => ?_), q⟩)⟩
  · rw [List.mem_singleton.mp hb]; exact fp
  · exact sb'.extBut b o (fun z => hb (List.mem_singleton.mpr z)) e
end
end L2

namespace L2
open PySem PySem.Spec PyProof.Rows
/-- a comprehension over tuples of three that only reads -/
theorem lc3Map {J : It} {xs : List V} {R : Hp → Prop} {n1 n2 n3 : Str} {caps : List Nat} {te : TE} {σ : St} {H1 : Hp} {Q : VK} {D : Addr} {K : PySem.W.Frag} (Y : Yields J xs R) (f : Nat → V) (nD : H1 D = none) (hR : ∀ H, Same H1 H → R H) (hl : xs.length ≤ 1000)
    (hs : ∀ (i : Nat) x H, xs[i]? = some x → Same H1 H → ∃ a x1 x2 x3, x = .ref a ∧ SqT K H a [x1, x2, x3] ∧ ∀ k : VK, k (f i) H → te (some x1 :: some x2 :: some x3 :: caps.map (fun i => (σ[i]?).join)) H k)
    (hd : Q (.ref D) (upd H1 D (.lst ((List.range xs.length).map f)))) : LCW [n1, n2, n3] caps J (gTup K 3 (gCons (gName 0) (gCons (gName 1) (gCons (gName 2) gNil)))) tYes te σ H1 Q D := by
  have sm : ∀ o, Same H1 (upd H1 D o) := fun o b u e => by rw [upd_ne (ne_of_none e nD)]; exact e
  refine lc3 Y (fun i ys H => i ≤ xs.length ∧ ys = (List.range i).map f ∧ H = upd H1 D (.lst ys)) ⟨Nat.zero_le _, rfl, rfl⟩ (fun i ys H _ p => hR H (by rw [p.2.2]; exact sm _)) ?_ ?_
  · rintro i x ys H hx ⟨hi, rfl, rfl⟩
    have hlt := (List.getElem?_eq_some_iff.mp hx).1
    obtain ⟨a, x1, x2, x3, e, hq, ht⟩ := hs i x _ hx (sm _)
    refine ⟨a, x1, x2, x3, e, hq, ht _ ⟨⟨_, _, _, rfl⟩, upd_same, ?_, hlt, ?_, ?_⟩⟩
    · rw [List.length_map, List.length_range]; exact Nat.lt_of_le_of_lt (show i ≤ 1000 by omega) (by decide)
    · rw [List.range_succ, List.map_append]; rfl
    · rw [upd_upd]
  · rintro ys H ⟨_, rfl, rfl⟩
    exact hd
/-- a comprehension over zip(xs, ys) -/
def LcN2 (cs : St) (D : Addr) (Pv : Nat → List V → Hp → Prop) (i : Nat) (ys : List V) (σ2 : St) : VK := fun v H5 => (∃ t u, σ2 = t :: u :: cs) ∧ H5 D = some (.lst ys) ∧ ys.length < sizeLine ∧ Pv (i + 1) (ys ++ [v]) (upd H5 D (.lst (ys ++ [v])))
theorem lcZip {a b : Addr} {xs ys : List V} {n1 n2 : Str} {caps : List Nat} {te : TE} {σ : St} {H1 : Hp} {Q : VK} {D : Addr} {K : PySem.W.Frag} (hl : xs.length = ys.length) (Pv : Nat → List V → Hp → Prop)
    (h0 : Pv 0 [] (upd H1 D (.lst []))) (hR : ∀ i zs H, i ≤ xs.length → Pv i zs H → SqL K H a xs ∧ SqL K H b ys)
    (hs : ∀ i x y zs H p, xs[i]? = some x → ys[i]? = some y → Pv i zs H → H p = none → te (some x :: some y :: caps.map (fun i => (σ[i]?).join)) (upd H p (.tup [x, y])) (LcN2 (caps.map (fun i => (σ[i]?).join)) D Pv i zs (some x :: some y :: caps.map (fun i => (σ[i]?).join))))
    (hd : ∀ zs H, Pv xs.length zs H → Q (.ref D) H) : LCW [n1, n2] caps (Itz K a b) (gTup K 2 (gCons (gName 0) (gCons (gName 1) gNil))) tYes te σ H1 Q D := by
  refine ⟨fun i m zs σ' H => m = xs.length - i ∧ i ≤ xs.length ∧ (∃ t u, σ' = t :: u :: caps.map (fun i => (σ[i]?).join)) ∧ Pv i zs H, ⟨xs.length, by simp, Nat.zero_le _, ⟨none, none, rfl⟩, h0⟩, ?_⟩
  rintro i m zs σ' H' ⟨rfl, hi, ⟨t, u, rfl⟩, p⟩
  obtain ⟨r1, r2⟩ := hR i zs H' hi p
  by_cases hlt : i < xs.length
  · refine .inr ⟨⟨xs, ys, xs[i], ys[i]'(by omega), r1, r2, List.getElem?_eq_getElem hlt, List.getElem?_eq_getElem (by omega)⟩, LcN2 (caps.map (fun i => (σ[i]?).join)) D Pv i zs, fun _ _ => False, ?_, fun _ _ z => z.elim, fun x H2 y => ?_⟩
    · rintro σ2 v H5 ⟨ht, a1, a2, a3⟩
      exact ⟨a1, a2, xs.length - (i + 1), by omega, rfl, hlt, ht, a3⟩
    · obtain ⟨q, v, z, nq, rfl, rfl, e1, e2⟩ := y
      have hx := e1 xs r1
      have hy := e2 ys r2
      refine ⟨q, _, rfl, .inl (.inl upd_same), rfl, _, _, rfl, _, _, rfl, rfl, ?_⟩
      show if (true : Bool) = true then te (some v :: some z :: caps.map (fun i => (σ[i]?).join)) (upd H' q (.tup [v, z])) (LcN2 (caps.map (fun i => (σ[i]?).join)) D Pv i zs (some v :: some z :: caps.map (fun i => (σ[i]?).join))) else False
      exact iteT (hs i v z zs H' q hx hy p nq)
  · have e : i = xs.length := by omega
    subst e
    exact .inl ⟨⟨xs, ys, r1, r2, .inl (Nat.le_refl _)⟩, hd zs H' p⟩
end L2

namespace Lw
open PySem L2
/-! ### equal tuples of ints -/
theorem dat_ints {K : PySem.W.Frag} {H : Hp} : ∀ ns : List Int, DatVs K H (ns.map V.int) (ns.map PyData.int)
  | [] => .nil
  | n :: r => .cons (.int n) (dat_ints r)
theorem dat_tup {K : PySem.W.Frag} {H : Hp} {a : Addr} {ns : List Int} (h : H a = some (.tup (ns.map V.int))) : DatV K H (.ref a) (.tuple (ns.map PyData.int)) := .tup (SqT.of h) (dat_ints ns)
theorem eqD_ints {K : PySem.W.Frag} {H : Hp} {a b : Addr} {ns : List Int} {Q : VK} {neg : Bool} (ha : H a = some (.tup (ns.map V.int))) (hb : H b = some (.tup (ns.map V.int))) (h : Q (.bl (!neg)) H) : rEqD K neg (.ref a) (.ref b) H Q := by
  have hd : PyData.depth (.tuple (ns.map PyData.int)) ≤ 60 := by
    simp only [PyData.depth]
    rw [PySem.W.ke_depthAll]
    decide
  refine ⟨_, _, dat_tup ha, dat_tup hb, ?_, ?_, Nat.le_trans (Nat.min_le_left _ _) hd, ?_⟩
  · simp only [PyData.canLay0]; exact PySem.W.ke_canLayAll0 ns
  · simp only [PyData.canLay0]; exact PySem.W.ke_canLayAll0 ns
  · have e : PyData.eqv (.tuple (ns.map PyData.int)) (.tuple (ns.map PyData.int)) = true := by
      simp only [PyData.eqv]
      rw [PySem.W.ked_eqvAll]
      simp
    rw [e]
    cases neg <;> exact h
/-- a dict with text keys and ints, that has these -/
structure N4 (K : PySem.W.Frag) (mg : Str → Option Value) (CN CA CC CL : Addr) : Prop where
  mA : mg "NoAsk" = some (.ref CA)
  mC : mg "NoCell" = some (.ref CC)
  mL : mg "NoClaim" = some (.ref CL)
  mV : mg "ValueError" = none
  mI : mg "isinstance" = none
  k3 : PySem.W.kitAny K (.ref CN) [.ref CA, .ref CC, .ref CL] = some false
  kv : PySem.W.kitOne K (.ref CN) (.type "ValueError") = some true
def spR4 : Sp := fun vs H Q _ => ∃ (ce ha du : Addr) (C : Cel) (kvs : List (Key × V)) (ρ : Str → Int), vs = [.ref ce, .ref ha, .ref du] ∧ CellAt H ce C ∧ Good C ∧ H ha = some (.dK kvs) ∧ (kvs.map (·.1)).Nodup ∧ (∀ p ∈ kvs, flatV p.2 = true ∧ eqV p.2 p.2 = true) ∧
  H du = some (.tup ((C.outs.map (evalC C ρ)).map V.int)) ∧ (∀ x ∈ C.ins, valV kvs (Sum.inr x) = none ∨ (valV kvs (Sum.inr x) = some (.int (ρ x)) ∧ Bit (ρ x))) ∧ ∀ H', Same H H' → Q (.bl true) H'
def lacks (xs : List Str) (kvs : List (Key × V)) : List Str := xs.filter fun x => (valV kvs (Sum.inr x)).isNone
theorem lacks_head : ∀ (xs : List Str) (kvs : List (Key × V)), (lacks xs kvs).head? = lack xs kvs := fun xs kvs => by unfold lacks lack; exact List.head?_filter ..
theorem kit_self (K : PySem.W.Frag) (v : Value) : PySem.W.kitOne K v v = some true := by unfold PySem.W.kitOne; rw [if_pos (by simp)]
section
variable {P : Program} {w : World} {K : PySem.W.Frag} {mg : Str → Option Value} {base : Heap} {CE CN CA CC CL N fI : Addr} {bm : List Value}
theorem scRight : FnScope ["cell", "handed", "due", "found", "caught", "kept", "e", "lacking"] ["cell", "handed", "due"] (defScope sRight) := ⟨rfl, rfl, rfl, by decide +kernel, rfl, by decide +kernel, by decide +kernel⟩
theorem ndNH : (["name", "handed"] : List Str).Nodup := by decide +kernel
set_option maxHeartbeats 4000000 in
theorem ok_right {f fO : Addr} {fd fdO : FuncData} (F : Fun K "_law_right" "_law_right" sRight f fd) (T : Txt mg) (O : NN K mg CE CN N fI bm) (M : N4 K mg CN CA CC CL) (gO : Gd K mg "told_by" sToldBy ["cell", "bits"] fO fdO) (GO : FnOk P w K mg base (CXe P w) 4 fO fdO ["cell", "bits"] (spToldX CN)) :
    FnOk P w K mg base CX0 5 f fd ["cell", "handed", "due"] spR4 := by
  refine F.ok (k := 4) scRight (fun vs H Q E h => ?_) (fun cdv A outer s H vs Q E hr h => ?_)
  · obtain ⟨ce, ha, du, C, kvs, ρ, rfl, _⟩ := h
    rfl
  · obtain ⟨ce, ha, du, C, kvs, ρ, rfl, hC, hG, hh, hnd, hfl, hdu, hρ, k⟩ := h
    have hu := hu_of hr
    have hu64 := hr.units
    have hu0 := Nat.lt_of_le_of_lt (Nat.le_succ _) hu
    obtain ⟨ia, ga, oa, as, c1, c2, c3, c4, c5⟩ := id hC.ex
    have li := hG.li
    refine ex_next _ (ps_set (i := 3) scRight.nd rfl (Or.inl rfl) pe_non) ?_
    refine ex_next _ (ps_set (i := 4) scRight.nd rfl (Or.inl rfl) pe_non) ?_
    refine ex_cut (fun σ H2 => ∃ ke, σ = [some (.ref ce), some (.ref ha), some (.ref du), some .non, some .non, some (.ref ke), none, none] ∧ H2 ke = some (.dK kvs) ∧ Same H H2) (fun u hu' => ?_) ?_
    · refine ⟨_, ps_set (i := 5) scRight.nd rfl (Or.inl rfl) (pe_callTy call_dictOf (by rfl) T.dict PyProof.Rows.boot_dict (pa_c (pv 1) pa_nil)), ?_⟩
      exact ⟨_, rfl, ha, kvs, rfl, hh, fun p np => hu' _ _ ⟨p, rfl, upd_same, Same.new np⟩⟩
    rintro σ H2 ⟨ke, rfl, hke2, s2⟩
    have tp2 : Tups H H2 := Tups.of_same s2
    -- the try
    refine ex_cut (fun σ H3 => Same H2 H3 ∧ ∃ v3 v4 : V, σ = [some (.ref ce), some (.ref ha), some (.ref du), some v3, some v4, some (.ref ke), none, none] ∧ ((lack C.ins kvs = none ∧ v4 = .non ∧ ∃ t, v3 = .ref t ∧ H3 t = some (.tup ((C.outs.map (evalC C ρ)).map V.int))) ∨
      ∃ y e dd, lack C.ins kvs = some y ∧ v4 = .ref e ∧ H3 e = some (ExC e (.ref CN) (some dd)) ∧ H3 dd = some (.xd [("word", .str y)]))) (fun u hu' => ?_) ?_
    · refine ⟨_, ps_tryAs (i := 3) (j := 6) (l := 4) GO hr (by rfl) gO.m gO.k gO.b (pa_c (pv 0) (pa_c (pv 1) pa_nil)) (by rfl) O.mCE scRight.nd rfl rfl rfl (Or.inl rfl) rfl rfl rfl rfl rfl rfl rfl, ?_⟩
      refine ⟨_, rfl, _, rfl, ce, ha, C, kvs, rfl, hC.mono tp2, hG, s2 _ _ hh, ?_⟩
      cases hl : lack C.ins kvs with
      | none =>
        refine .inl ⟨ρ, fun x hx => ?_, fun t H3 nt ht s3 => hu' _ _ ⟨s3, _, _, rfl, .inl ⟨hl, rfl, t, rfl, ht⟩⟩⟩
        obtain ⟨v, hv⟩ := lack_none hl x hx
        rcases hρ x hx with z | z
        · rw [hv] at z; cases z
        · exact z
      | some y =>
        refine .inr ⟨y, rfl, fun dd H3 nd hx s3 e T he nT => ⟨O.ex, hu' _ _ ⟨fun c o q => ?_, _, _, rfl, .inr ⟨y, e, dd, hl, rfl, ?_, ?_⟩⟩⟩⟩
        · rw [upd_ne (ne_of_none (s3 c o q) nT)]; exact s3 c o q
        · rw [upd_ne (ne_of_none he nT)]; exact he
        · rw [upd_ne (ne_of_none hx nT)]; exact hx
    rintro σ H3 ⟨s3, v3, v4, rfl, hcase⟩
    have s13 : Same H H3 := s2.trans s3
    refine ex_cut (fun σ H4 => σ = [some (.ref ce), some (.ref ha), some (.ref du), some v3, some v4, some (.ref ke), none, none] ∧ Same H3 H4) (fun u hu' => ?_) ?_
    · refine ⟨_, ps_if (pt_cmpR (op_neDict hu0) (pv 1) (pv 5) (nomark _)) (pss_one (ps_ret pe_bl)) pss_nil, ?_⟩
      exact ⟨_, rfl, _, rfl, ha, ke, kvs, rfl, rfl, s13 _ _ hh, s3 _ _ hke2, hnd, hfl, _, rfl, iteF (hu' _ _ ⟨rfl, Same.refl _⟩)⟩
    rintro σ H4 ⟨rfl, s4⟩
    have s14 : Same H H4 := s13.trans s4
    -- what lacks
    refine ex_cut (fun σ H5 => ∃ la, σ = [some (.ref ce), some (.ref ha), some (.ref du), some v3, some v4, some (.ref ke), none, some (.ref la)] ∧ H5 la = some (.lst ((lacks C.ins kvs).map V.str)) ∧ Same H4 H5) (fun u hu' => ?_) ?_
    · refine ⟨_, ps_setLC (i := 7) ["name"] ["handed"] [1] scRight.nd rfl (Or.inl rfl) rfl (pi_tup (pe_ix ix_tup (pv 0) pe_int (fun _ _ => rfl))) rfl rfl (fun s₀ H₀ C cl fp => pg_name (i := 0) ndNH rfl (Or.inl rfl))
        (fun s₀ H₀ C cl fp => pifs_one (pt_cmp (pc_dnotin hu (pv 0) (pv 1)))) (fun s₀ H₀ C cl fp => pv 0), ?_⟩
      refine ⟨_, rfl, ce, _, _, .ref ia, rfl, rfl, SqT.of (s14 _ _ c1), rfl, ia, rfl, ⟨_, SqT.of (s14 _ _ c2)⟩, fun D0 nD0 => ?_⟩
      refine lc1 yields_tup (fun i ys H5 => ys = (lacks (C.ins.take i) kvs).map V.str ∧ Same H4 H5 ∧ H5 D0 = some (.lst ys)) ⟨rfl, Same.new nD0, upd_same⟩ (fun i ys H5 _ ⟨_, s, _⟩ => SqT.of (s _ _ (s14 _ _ c2))) ?_ ?_
      · rintro i x ys H5 hx ⟨rfl, s5, hD⟩
        obtain ⟨y, hy, rfl⟩ := str_item hx
        have hi : i < C.ins.length := (List.getElem?_eq_some_iff.mp hy).1
        have hb5 := s5 _ _ (s14 _ _ hh)
        have dg : DGet H5 ha (.str y) (valV kvs (Sum.inr y)) := DGet.k (k := (Sum.inr y : Key)) hb5
        refine ⟨_, rfl, _, rfl, ha, _, rfl, dg, _, rfl, ?_⟩
        have et : lacks (C.ins.take (i + 1)) kvs = lacks (C.ins.take i) kvs ++ (if (valV kvs (Sum.inr y)).isNone then [y] else []) := by
          rw [take_snoc hy]; unfold lacks; rw [List.filter_append]; simp [List.filter_cons]
        cases hv : valV kvs (Sum.inr y : Key) with
        | some v =>
          rw [hv] at et
          refine iteF ⟨⟨_, rfl⟩, ?_, s5, hD⟩
          rw [et]; simp
        | none =>
          rw [hv] at et
          have hlen : (lacks (C.ins.take i) kvs).length ≤ 6 := by
            have := List.length_filter_le (fun x => (valV kvs (Sum.inr x)).isNone) (C.ins.take i)
            rw [List.length_take] at this
            unfold lacks
            omega
          refine (if_pos rfl).mpr ⟨_, rfl, ⟨_, rfl⟩, hD, ?_, ?_, fun c o q => ?_, ?_⟩
          · rw [List.length_map]; exact Nat.lt_of_le_of_lt (show _ ≤ 1000 by omega) (by decide)
          · rw [et]; simp
          · rw [upd_ne (ne_of_none q nD0)]; exact s5 c o q
          · rw [upd_same]
      · rintro ys H5 ⟨rfl, s5, hD⟩
        rw [List.length_map, List.take_of_length_le (Nat.le_refl _)] at hD
        exact hu' _ _ ⟨D0, rfl, hD, s5⟩
    rintro σ H5 ⟨la, rfl, hla, s5⟩
    have s15 : Same H H5 := s14.trans s5
    have hhead := lacks_head C.ins kvs
    -- nothing lacks
    refine ex_next _ (ps_if (pt_cmpR (op_eqNil hu64) (pv 7) (pe_lst pa_nil) (nomark _)) (pss_one (ps_ret (pe_and (pe_cmp (pc_isN (pv 4))) (pe_one (pe_cmpR (op_eqD hu64) (pv 3) (pv 2) (nomark _)))))) pss_nil) ?_
    refine ⟨_, rfl, (by show 0 ≤ sizeLine; decide), fun q nq => ⟨la, q, _, rfl, rfl, SqL.of (Same.new nq _ _ hla), SqL.of upd_same, _, rfl, ?_⟩⟩
    have s16 : Same H (upd H5 q (.lst [])) := s15.trans (Same.new nq)
    have s36 : Same H3 (upd H5 q (.lst [])) := (s4.trans s5).trans (Same.new nq)
    rcases hcase with ⟨hl, rfl, t, rfl, ht⟩ | ⟨y, e, dd, hl, rfl, he, hx⟩
    · have e0 : lacks C.ins kvs = [] := by rw [hl] at hhead; exact List.head?_eq_none_iff.mp hhead
      rw [e0]
      refine (if_pos rfl).mpr ?_
      exact ⟨_, rfl, _, rfl, (if_pos rfl).mpr ⟨_, rfl, _, rfl, eqD_ints (s36 _ _ ht) (s16 _ _ hdu) (k _ s16)⟩⟩
    · obtain ⟨rest, e0⟩ : ∃ rest, lacks C.ins kvs = y :: rest := by
        rw [hl] at hhead
        cases e1 : lacks C.ins kvs with
        | nil => rw [e1] at hhead; cases hhead
        | cons z r => rw [e1] at hhead; cases hhead; exact ⟨r, rfl⟩
      rw [e0] at hla ⊢
      refine iteF ?_
      have hd6 : ∀ dd', some dd = some dd' → ∃ fs, upd H5 q (.lst []) dd' = some (.xd fs) := fun dd' z => by cases z; exact ⟨_, s36 _ _ hx⟩
      refine ex_next _ (ps_if (PW.pt (pw_or (pt_val (pe_callB call_isxT (by rfl) M.mI PyProof.Rows.boot_isinstance (pa_c (pv 4) (pa_c (pe_tup (pa_c (pe_glob (v := .ref CA) (by rfl) M.mA rfl) (pa_c (pe_glob (v := .ref CC) (by rfl) M.mC rfl) (pa_c (pe_glob (v := .ref CL) (by rfl) M.mL rfl) pa_nil)))) pa_nil))))
        (pw_or1 (pt_not (pt_val (pe_callB call_isx (by rfl) M.mI PyProof.Rows.boot_isinstance (pa_c (pv 4) (pa_c (pe_glob (v := .ref CN) (by rfl) O.mCN rfl) pa_nil)))))))) (pss_one (ps_ret pe_bl)) pss_nil) ?_
      refine ⟨_, rfl, (by show 3 ≤ sizeLine; decide), fun tp ntp => ⟨e, CN, tp, some dd, [CA, CC, CL], false, rfl, upd_same, Same.new ntp _ _ (s36 _ _ he), fun dd' z => ?_, O.xf, M.k3, _, rfl, iteF ?_⟩⟩
      · obtain ⟨fs, hf⟩ := hd6 dd' z
        exact ⟨fs, Same.new ntp _ _ hf⟩
      have s37 := s36.trans (Same.new (o := .tup [V.ref CA, V.ref CC, V.ref CL]) ntp)
      have s17 := s16.trans (Same.new (o := .tup [V.ref CA, V.ref CC, V.ref CL]) ntp)
      have hd7 : ∀ dd', some dd = some dd' → ∃ fs, upd (upd H5 q (.lst [])) tp (.tup [V.ref CA, V.ref CC, V.ref CL]) dd' = some (.xd fs) := fun dd' z => by cases z; exact ⟨_, s37 _ _ hx⟩
      refine ⟨_, rfl, e, CN, some dd, .ref CN, .ref CN, true, rfl, .inl ⟨CN, rfl, rfl⟩, s37 _ _ he, hd7, O.xf, kit_self K _, _, rfl, iteF ?_⟩
      refine ⟨_, pss_one (ps_ret (pe_and (pe_callB call_isx (by rfl) M.mI PyProof.Rows.boot_isinstance (pa_c (pv 4) (pa_c (pe_bltn (v := .ty "ValueError") (by rfl) M.mV (show bootBuiltins "ValueError" = some (.type "ValueError") by decide +kernel) rfl) pa_nil))) (pe_one (pe_cmpR op_eq (pe_xattr (pv 4) rfl) (pe_ix ix_list (pv 7) pe_int (fun _ _ => rfl)) (nomark _))))), ?_⟩
      refine ⟨_, rfl, e, CN, some dd, .ty "ValueError", .type "ValueError", true, rfl, .inr ⟨"ValueError", rfl, rfl⟩, s37 _ _ he, hd7, O.xf, M.kv, _, rfl, (if_pos rfl).mpr ?_⟩
      have hla7 : upd (upd H5 q (.lst [])) tp (.tup [V.ref CA, V.ref CC, V.ref CL]) la = some (.lst ((y :: rest).map V.str)) := Same.new ntp _ _ (Same.new nq _ _ hla)
      refine ⟨_, rfl, e, CN, N, dd, bm, _, _, .str y, rfl, s37 _ _ he, s37 _ _ hx, rfl, O.xf, O.xc, O.fw, ?_⟩
      refine ⟨_, rfl, la, _, _, .str y, rfl, rfl, SqL.of hla7, atI_nat (xs := (y :: rest).map V.str) (j := 0) rfl, ?_⟩
      refine ⟨rfl, ?_⟩
      have := k _ s17
      simpa using this
end
end Lw

namespace Lw
open PySem L2
def spLaw (K : PySem.W.Frag) : Sp := fun vs H Q _ => ∃ (a : Addr) (ns : List Int), vs = [.ref a] ∧ SqL K H a (ns.map V.int) ∧ ns.length ≤ 63 ∧ ∀ H', Q (.bl true) H'
structure N5 (K : PySem.W.Frag) (mg : Str → Option Value) (CE CA CL NA NL : Addr) (bA bL : List Value) : Prop where
  xA : xcIn K CA NA bA none = true
  pA : PySem.W.keepIn K (.ref CA) = true
  fA : PySem.W.XFacts K CA
  kA : PySem.W.kitOne K (.ref CA) (.ref CE) = some true
  xL : xcIn K CL NL bL none = true
  pL : PySem.W.keepIn K (.ref CL) = true
  fL : PySem.W.XFacts K CL
  kL : PySem.W.kitOne K (.ref CL) (.ref CE) = some true
structure HQ (kh : List (Key × V)) (ins : List Str) (ρ : Str → Int) : Prop where
  nd : (kh.map (·.1)).Nodup
  fl : ∀ p ∈ kh, ∃ i, p.2 = V.int i
  ag : ∀ x ∈ ins, valV kh (Sum.inr x) = none ∨ (valV kh (Sum.inr x) = some (.int (ρ x)) ∧ Bit (ρ x))
theorem HQ.flat {kh : List (Key × V)} {ins : List Str} {ρ : Str → Int} (h : HQ kh ins ρ) : ∀ p ∈ kh, flatV p.2 = true ∧ eqV p.2 p.2 = true := fun p hp => by
  obtain ⟨i, e⟩ := h.fl p hp
  rw [e]
  exact ⟨rfl, beq_self_eq_true i⟩
theorem HQ.put {kh : List (Key × V)} {ins : List Str} {ρ : Str → Int} (h : HQ kh ins ρ) {n : Str} {v : Int} (hn : n ∈ ins → v = ρ n ∧ Bit (ρ n)) : HQ (putK kh (Sum.inr n) (.int v)) ins ρ := by
  refine ⟨putK_nd _ _ h.nd, fun p hp => ?_, fun x hx => ?_⟩
  · rcases mem_putK hp with q | q
    · exact h.fl p q
    · rw [q]; exact ⟨_, rfl⟩
  · rw [valV_put]
    by_cases z : x = n
    · subst z
      obtain ⟨rfl, hb⟩ := hn hx
      rw [if_pos rfl]
      exact .inr ⟨rfl, hb⟩
    · rw [if_neg (fun y => z (Sum.inr.inj y))]
      exact h.ag x hx
structure WS (H : Hp) (d c ce b dt : Addr) (C : Cel) (kvs : List (Key × V)) (dl : List V) : Prop where
  cell : CellAt H ce C
  hb : H b = some (.dK kvs)
  hdt : H dt = some (.tup dl)
  D : DeckAt H d c
section
variable {H H' : Hp} {d c ce b dt ha : Addr} {C : Cel} {kvs kh : List (Key × V)} {dl : List V}
theorem WS.keep (h : WS H d c ce b dt C kvs dl) (D' : DeckAt H' d c) (k : Keep d c H H') : WS H' d c ce b dt C kvs dl :=
  ⟨h.cell.mono (Tups.of_keep h.D k), k b _ h.hb (h.D.ne_some h.hb (fun _ z => nomatch z)).1 (h.D.ne_some h.hb (fun _ z => nomatch z)).2, k dt _ h.hdt (h.D.ne_some h.hdt (fun _ z => nomatch z)).1 (h.D.ne_some h.hdt (fun _ z => nomatch z)).2, D'⟩
theorem DeckAt.same4 (D : DeckAt H d c) (s : Same H H') : DeckAt H' d c := by
  obtain ⟨ns, p, h1, h2, h3, h4⟩ := D.ex
  exact ⟨ns, p, s _ _ h1, s _ _ h2, h3, h4⟩
theorem WS.same (h : WS H d c ce b dt C kvs dl) (s : Same H H') : WS H' d c ce b dt C kvs dl := ⟨h.cell.mono (Tups.of_same s), s _ _ h.hb, s _ _ h.hdt, h.D.same4 s⟩
theorem WS.dic (h : WS H d c ce b dt C kvs dl) (hh : H ha = some (.dK kh)) (nb : b ≠ ha) {o : HO} : WS (upd H ha o) d c ce b dt C kvs dl := by
  have n := h.D.ne_some hh (fun _ z => nomatch z)
  exact ⟨h.cell.mono (Tups.dic hh), by rw [upd_ne nb]; exact h.hb, by rw [upd_ne (ne_of h.hdt hh (fun z => nomatch z))]; exact h.hdt, h.D.upd_other n.1 n.2⟩
end
section
variable {P : Program} {w : World} {K : PySem.W.Frag} {mg : Str → Option Value} {base : Heap} {CE CN CA CC CL N fI NA NL : Addr} {bm bA bL : List Value}
theorem scLaw : FnScope ["script", "deck", "k", "cell", "bits", "known", "name", "due", "turn", "handed", "word", "names"] ["script"] (defScope sLaw) := ⟨rfl, rfl, rfl, by decide +kernel, rfl, by decide +kernel, by decide +kernel⟩
theorem ndNK : (["name", "known"] : List Str).Nodup := by decide +kernel
set_option maxHeartbeats 8000000 in
theorem ok_law {f fD fT fC fR fB fA : Addr} {fd fdD fdT fdC fdR fdB fdA : FuncData} (F : Fun K "law" "law" sLaw f fd) (T : Txt mg) (O : NN K mg CE CN N fI bm) (M : N4 K mg CN CA CC CL) (L : N5 K mg CE CA CL NA NL bA bL) (gD : Gd K mg "_law_deck" sDeck ["script"] fD fdD) (gT : Gd K mg "_law_take" sTake ["deck", "many"] fT fdT)
    (gC : Gd K mg "_law_cell" sCell ["deck", "inputs", "gates"] fC fdC) (gR : Gd K mg "_law_right" sRight ["cell", "handed", "due"] fR fdR) (gB : Gd K mg "_law_bits" sBits ["names", "number"] fB fdB) (gA : Gd K mg "_law_all_bits" sAllBits ["cell", "bits"] fA fdA)
    (GD : FnOk P w K mg base CX0 1 fD fdD ["script"] (spDeck K)) (GT : FnOk P w K mg base CX0 1 fT fdT ["deck", "many"] spTake) (GC : FnOk P w K mg base CX0 4 fC fdC ["deck", "inputs", "gates"] spCell) (GB : FnOk P w K mg base CX0 1 fB fdB ["names", "number"] spBits) (GA : FnOk P w K mg base CX0 2 fA fdA ["cell", "bits"] spAll)
    (GR : FnOk P w K mg base CX0 5 fR fdR ["cell", "handed", "due"] spR4) : FnOk P w K mg base CX0 6 f fd ["script"] (spLaw K) := by
  refine F.ok (k := 5) scLaw (fun vs H Q E h => ?_) (fun cdv A outer s H vs Q E hr h => ?_)
  · obtain ⟨a, ns, rfl, _⟩ := h
    rfl
  · obtain ⟨a, ns, rfl, hS, hlen, k⟩ := h
    have hr1 : Room 1 _ := hr.mono (by decide)
    have hr2 : Room 2 _ := hr.mono (by decide)
    have hr4 : Room 4 _ := hr.mono (by decide)
    have hu := hu_of hr
    refine ex_next _ (ps_set (i := 1) scLaw.nd rfl (Or.inl rfl) (pe_call GD hr1 rfl gD.m gD.k gD.b .nil pass0 (pa_c (pv 0) pa_nil))) ?_
    refine ⟨_, rfl, a, ns, rfl, hS, hlen, fun d c H1 D1 _ _ _ => ?_⟩
    refine ex_cut (fun σ H2 => ∃ v2 v3 v4 v5 v6 v7 v8 v9 v10 v11, σ = [some (.ref a), some (.ref d), v2, v3, v4, v5, v6, v7, v8, v9, v10, v11]) (fun u hu' => ?_) ?_
    · refine ⟨_, ps_for PassesOwn.never rfl (pi_range1 rfl T.range (pa_c pe_int pa_nil)) (pg_name (i := 2) scLaw.nd rfl (Or.inl rfl))
        (pss_cons (ps_set (i := 3) scLaw.nd rfl (Or.inl rfl) (pe_call GC hr4 rfl gC.m gC.k gC.b .nil pass0 (pa_c (pv 1) (pa_c pe_int (pa_c pe_int pa_nil)))))
        (pss_cons (ps_set (i := 4) scLaw.nd rfl (Or.inl rfl) (pe_call GB hr1 rfl gB.m gB.k gB.b .nil pass0 (pa_c (pe_ix ix_tup (pv 3) pe_int (fun _ _ => rfl)) (pa_c (pe_call GT hr1 rfl gT.m gT.k gT.b .nil pass0 (pa_c (pv 1) (pa_c pe_int pa_nil))) pa_nil))))
        (pss_cons (ps_set (i := 5) scLaw.nd rfl (Or.inr rfl) (pe_call GA hr2 rfl gA.m gA.k gA.b .nil pass0 (pa_c (pv 3) (pa_c (pv 4) pa_nil))))
        (pss_cons (ps_set (i := 7) scLaw.nd rfl (Or.inl rfl) (pe_callTy call_tuple_of (by rfl) T.tuple PyProof.Rows.boot_tuple (pa_c (pe_lc ["name"] ["known"] [5] rfl (pi_tup (pe_ix ix_tup (pv 3) pe_int (fun _ _ => rfl))) rfl rfl (fun s₀ H₀ C cl fp => pg_name (i := 0) ndNK rfl (Or.inl rfl)) (fun s₀ H₀ C cl fp => pifs_nil)
          (fun s₀ H₀ C cl fp => pe_dget hu (pv 1) (pv 0) (fun _ _ => rfl))) pa_nil)))
        (pss_one (ps_for PassesOwn.never rfl (pi_range1 rfl T.range (pa_c pe_int pa_nil)) (pg_name (i := 8) scLaw.nd rfl (Or.inl rfl))
          (pss_cons (ps_set (i := 9) scLaw.nd rfl (Or.inl rfl) pe_dnewK)
          (pss_cons (ps_for PassesOwn.never rfl (pi_tup (pe_ix ix_tup (pv 3) pe_int (fun _ _ => rfl))) (pg_tup rfl (pgs_cons (pg_name (i := 6) scLaw.nd rfl (Or.inl rfl)) (pgs_cons (pg_name (i := 10) scLaw.nd rfl (Or.inl rfl)) (pgs_cons (pg_name (i := 11) scLaw.nd rfl (Or.inl rfl)) pgs_nil))))
            (pss_one (ps_dput hu (pv 9) (pv 6) (pe_call GT hr1 rfl gT.m gT.k gT.b .nil pass0 (pa_c (pv 1) (pa_c pe_int pa_nil))) rfl)))
          (pss_cons (ps_for PassesOwn.never rfl (pi_tup (pe_ix ix_tup (pv 3) pe_int (fun _ _ => rfl))) (pg_name (i := 6) scLaw.nd rfl (Or.inl rfl))
            (pss_one (ps_if (PW.pt (pw_or (pt_cmpR op_gt (pe_call GT hr1 rfl gT.m gT.k gT.b .nil pass0 (pa_c (pv 1) (pa_c pe_int pa_nil))) pe_int (nomark _)) (pw_or1 (pt_cmpR op_eq (pv 8) pe_int (nomark _))))) (pss_one (ps_dput hu (pv 9) (pv 6) (pe_dget hu (pv 4) (pv 6) (fun _ _ => rfl)) rfl)) pss_nil)))
          (pss_cons (ps_for PassesOwn.never rfl (pi_tup (pe_ix ix_tup (pv 3) pe_int (fun _ _ => rfl))) (pg_name (i := 6) scLaw.nd rfl (Or.inl rfl))
            (pss_cons (ps_if (PW.pt (pw_or (pt_not (pt_val (pe_call GR hr rfl gR.m gR.k gR.b .nil pass0 (pa_c (pv 3) (pa_c (pv 9) (pa_c (pv 7) pa_nil)))))) (pw_or1 (pt_not (pt_val (pe_call GR hr rfl gR.m gR.k gR.b .nil pass0 (pa_c (pv 3) (pa_c (pv 9) (pa_c (pv 7) pa_nil))))))))) (pss_one (ps_ret pe_bl)) pss_nil)
            (pss_one (ps_if (pt_cmp (pc_dnotin hu (pv 6) (pv 9))) (pss_one (ps_dput hu (pv 9) (pv 6) (pe_dget hu (pv 4) (pv 6) (fun _ _ => rfl)) rfl)) pss_nil))))
          (pss_one (ps_if (pt_not (pt_val (pe_call GR hr rfl gR.m gR.k gR.b .nil pass0 (pa_c (pv 3) (pa_c (pv 9) (pa_c (pv 7) pa_nil)))))) (pss_one (ps_ret pe_bl)) pss_nil)))))))))))), ?_⟩
      refine ⟨5, rfl, by decide, by decide, ?_⟩
      refine for_range (lo := 0) (n := 5) (fun i σ H2 => ∃ v2 v3 v4 v5 v6 v7 v8 v9 v10 v11, σ = [some (.ref a), some (.ref d), v2, v3, v4, v5, v6, v7, v8, v9, v10, v11] ∧ DeckAt H2 d c) ⟨_, _, _, _, _, _, _, _, _, _, rfl, D1⟩ ?_ ?_
      · rintro i σ H2 hi ⟨v2, v3, v4, v5, v6, v7, v8, v9, v10, v11, rfl, D2⟩
        refine ⟨_, rfl, d, c, 6, 9, rfl, D2, by decide, by decide, fun ce C H3 nce hC hG D3 k3 => ?_⟩
        obtain ⟨ia, ga, oa, as, c1, c2, c3, c4, c5⟩ := id hC.ex
        have li := hG.li
        have lg := hG.lg
        have lo := hG.lo
        have ind : C.ins.Nodup := hG.nd.sublist (List.sublist_append_left _ _)
        refine ⟨_, rfl, ce, _, _, .ref ia, rfl, rfl, SqT.of c1, rfl, _, rfl, d, c, 64, rfl, D3, by decide, by decide, fun r H4 r0 r1 D4 k4 => ?_⟩
        have tp4 := Tups.of_keep D3 k4
        refine ⟨ia, C.ins, r, rfl, tp4 _ _ c2, ind, by omega, fun b kvs H5 nb hb hB s5 => ?_⟩
        have hC5 := (hC.mono tp4).mono (Tups.of_same s5)
        have hH := hB.has
        refine ⟨_, rfl, _, rfl, ce, b, C, kvs, rhoOf kvs, rfl, hC5, hG, hb, hH, fun kd kv2 H6 nkd hkd hK2 s6 => ?_⟩
        generalize hR : rhoOf kvs = ρ at hH hK2
        obtain ⟨ia, ga, oa, as, c1, c2, c3, c4, c5⟩ := id (hC5.mono (Tups.of_same s6)).ex
        refine ⟨_, rfl, ce, _, _, .ref oa, rfl, rfl, SqT.of c1, rfl, oa, rfl, ⟨_, SqT.of c4⟩, fun D0 nD0 => ?_⟩
        refine lcMap yields_tup (fV (evalC C ρ)) nD0 (fun H7 s7 => SqT.of (s7 _ _ c4)) (by rw [List.length_map]; omega) ?_ ?_
        · intro j x H7 kk hx s7 hk
          obtain ⟨y, hy, rfl⟩ := str_item hx
          have hv := (hK2 y (hG.os y (List.mem_of_getElem? hy))).1
          exact ⟨_, rfl, _, rfl, kd, _, rfl, dget (s7 _ _ hkd) hv, hk⟩
        rw [map_fV]
        refine ⟨D0, _, rfl, .inl ⟨SqL.of upd_same, fun dt ndt => ?_⟩⟩
        have s67 : Same H6 (upd (upd H6 D0 (.lst ((C.outs.map (evalC C ρ)).map V.int))) dt (.tup ((C.outs.map (evalC C ρ)).map V.int))) := (Same.new nD0).trans (Same.new ndt)
        have W0 : WS (upd (upd H6 D0 (.lst ((C.outs.map (evalC C ρ)).map V.int))) dt (.tup ((C.outs.map (evalC C ρ)).map V.int))) d c ce b dt C kvs ((C.outs.map (evalC C ρ)).map V.int) :=
          ⟨(hC5.mono (Tups.of_same s6)).mono (Tups.of_same s67), s67 _ _ (s6 _ _ hb), upd_same, (D4.same4 s5).same4 (s6.trans s67)⟩
        generalize upd (upd H6 D0 (.lst ((C.outs.map (evalC C ρ)).map V.int))) dt (.tup ((C.outs.map (evalC C ρ)).map V.int)) = Hs at W0 ⊢
        clear s67 ndt nD0 c1 c2 c3 c4 c5 hkd hK2 s6 nkd hC5 tp4 hC k3 k4
        -- the turns
        refine ⟨4, rfl, by decide, by decide, ?_⟩
        refine for_range (lo := 0) (n := 4) (fun j σ H7 => ∃ v6 v8 v9 v10 v11, σ = [some (.ref a), some (.ref d), some (.int (0 + (i : Int))), some (.ref ce), some (.ref b), some (.ref kd), v6, some (.ref dt), v8, v9, v10, v11] ∧ WS H7 d c ce b dt C kvs ((C.outs.map (evalC C ρ)).map V.int)) ⟨_, _, _, _, _, rfl, W0⟩ ?_ ?_
        · rintro j σ H7 hj ⟨w6, w8, w9, w10, w11, rfl, W7⟩
          rintro ha nha
          have nb : b ≠ ha := ne_of_none W7.hb nha
          have W8 := W7.same (Same.new (o := .dK []) nha)
          have hh8 : upd H7 ha (.dK []) ha = some (.dK []) := upd_same
          generalize upd H7 ha (.dK []) = H8 at W8 hh8 ⊢
          obtain ⟨ia, ga, oa, as, c1, c2, c3, c4, c5⟩ := id W8.cell.ex
          have inst : ∀ {n : Nat} {y : Str}, C.ins[n]? = some y → y ∈ C.ins := fun e => List.mem_of_getElem? e
          -- the gates' names
          refine ⟨_, rfl, ce, _, _, .ref ga, rfl, rfl, SqT.of c1, rfl, ga, rfl, ⟨_, SqT.of c3⟩, ?_⟩
          refine for_tup (K := K) (a := ga) (xs := as.map V.ref) (fun n σ H9 => ∃ (kh : List (Key × V)) (v6 v10 v11 : Option V), σ = [some (.ref a), some (.ref d), some (.int (0 + (i : Int))), some (.ref ce), some (.ref b), some (.ref kd), v6, some (.ref dt), some (.int (0 + (j : Int))), some (.ref ha), v10, v11] ∧ WS H9 d c ce b dt C kvs ((C.outs.map (evalC C ρ)).map V.int) ∧ H9 ha = some (.dK kh) ∧ HQ kh C.ins ρ ∧ kh.length ≤ n ∧ Tups H8 H9)
            ⟨[], _, _, _, rfl, W8, hh8, ⟨List.nodup_nil, (fun p hp => nomatch hp), fun x hx => .inl rfl⟩, Nat.le_refl _, Tups.refl _⟩ (fun n σ H9 _ ⟨_, _, _, _, _, _, _, _, _, t⟩ => SqT.of (t _ _ c3)) ?_ ?_
          · rintro n x σ H9 hx ⟨kh, v6, v10, v11, rfl, W9, hh9, hq9, hl9, t9⟩
            obtain ⟨a1, ha1, rfl⟩ := ref_item hx
            obtain ⟨g, hg, q, g1, g2⟩ := paired_get c5 ha1
            have hn : n < C.gates.length := (List.getElem?_eq_some_iff.mp hg).1
            have nin : g.1 ∉ C.ins := fun z => by
              have := (List.nodup_append.mp hG.nd).2.2 g.1 z g.1 (List.mem_map.mpr ⟨g, List.mem_of_getElem? hg, rfl⟩)
              exact this rfl
            refine ⟨a1, _, rfl, SqT.of (t9 _ _ g1), rfl, _, _, rfl, _, _, rfl, _, _, rfl, rfl, ?_⟩
            refine ⟨_, rfl, d, c, 2, rfl, W9.D, by decide, by decide, fun r' H10 _ _ D10 k10 => ?_⟩
            have hh10 := k10 ha _ hh9 (W9.D.ne_some hh9 (fun _ z => nomatch z)).1 (W9.D.ne_some hh9 (fun _ z => nomatch z)).2
            have W10 := W9.keep D10 k10
            refine ⟨_, rfl, _, rfl, ha, _, rfl, DPut.k (k := (Sum.inr g.1 : Key)) hh10 (small1000 (by omega)), putK kh (Sum.inr g.1) (.int r'), _, _, _, rfl, W10.dic hh10 nb, upd_same, hq9.put (fun z => absurd z nin), ?_, t9.trans ((Tups.of_keep W9.D k10).trans (Tups.dic hh10))⟩
            have := length_putK kh (Sum.inr g.1 : Key) (.int r'); omega
          rintro σ H9 ⟨kh, v6, v10, v11, rfl, W9, hh9, hq9, hl9, t9⟩
          rw [List.length_map, paired_len c5] at hl9
          -- some inputs
          refine ⟨_, rfl, ce, _, _, .ref ia, rfl, rfl, SqT.of (t9 _ _ c1), rfl, ia, rfl, ⟨_, SqT.of (t9 _ _ c2)⟩, ?_⟩
          refine for_tup (K := K) (a := ia) (xs := C.ins.map V.str) (fun n σ H9 => ∃ (kh : List (Key × V)) (v6 : Option V), σ = [some (.ref a), some (.ref d), some (.int (0 + (i : Int))), some (.ref ce), some (.ref b), some (.ref kd), v6, some (.ref dt), some (.int (0 + (j : Int))), some (.ref ha), v10, v11] ∧ WS H9 d c ce b dt C kvs ((C.outs.map (evalC C ρ)).map V.int) ∧ H9 ha = some (.dK kh) ∧ HQ kh C.ins ρ ∧ kh.length ≤ 24 + n ∧ Tups H8 H9)
            ⟨kh, _, rfl, W9, hh9, hq9, by omega, t9⟩ (fun n σ H9 _ ⟨_, _, _, _, _, _, _, t⟩ => SqT.of (t _ _ c2)) ?_ ?_
          · rintro n x σ H9 hx ⟨kh, v6, rfl, W9, hh9, hq9, hl9, t9⟩
            obtain ⟨y, hy, rfl⟩ := str_item hx
            have hn : n < C.ins.length := (List.getElem?_eq_some_iff.mp hy).1
            obtain ⟨hv, hbit⟩ := hH y (inst hy)
            refine ⟨_, rfl, d, c, 3, rfl, W9.D, by decide, by decide, fun r' H10 _ _ D10 k10 => ⟨_, _, rfl, rfl, _, rfl, ?_⟩⟩
            have hh10 := k10 ha _ hh9 (W9.D.ne_some hh9 (fun _ z => nomatch z)).1 (W9.D.ne_some hh9 (fun _ z => nomatch z)).2
            have W10 := W9.keep D10 k10
            have t10 := t9.trans (Tups.of_keep W9.D k10)
            have hlp := length_putK kh (Sum.inr y : Key) (.int (ρ y))
            have put : ∃ (kh' : List (Key × V)) (v6 : Option V), [some (.ref a), some (.ref d), some (.int (0 + (i : Int))), some (.ref ce), some (.ref b), some (.ref kd), some (.str y), some (.ref dt), some (.int (0 + (j : Int))), some (.ref ha), v10, v11] = [some (.ref a), some (.ref d), some (.int (0 + (i : Int))), some (.ref ce), some (.ref b), some (.ref kd), v6, some (.ref dt), some (.int (0 + (j : Int))), some (.ref ha), v10, v11] ∧ WS (upd H10 ha (.dK (putK kh (Sum.inr y) (.int (ρ y))))) d c ce b dt C kvs ((C.outs.map (evalC C ρ)).map V.int) ∧ upd H10 ha (.dK (putK kh (Sum.inr y) (.int (ρ y)))) ha = some (.dK kh') ∧ HQ kh' C.ins ρ ∧ kh'.length ≤ 24 + (n + 1) ∧ Tups H8 (upd H10 ha (.dK (putK kh (Sum.inr y) (.int (ρ y))))) :=
              ⟨_, _, rfl, W10.dic hh10 nb, upd_same, hq9.put (fun _ => ⟨rfl, hbit⟩), by omega, t10.trans (Tups.dic hh10)⟩
            refine ite2 (fun _ => (if_pos rfl).mpr ?_) (fun _ => ⟨_, rfl, rfl, _, rfl, ite2 (fun _ => ?_) (fun _ => ⟨kh, _, rfl, W10, hh10, hq9, by omega, t10⟩)⟩)
            · exact ⟨_, rfl, _, rfl, b, _, rfl, dget W10.hb hv, _, rfl, _, rfl, ha, _, rfl, DPut.k (k := (Sum.inr y : Key)) hh10 (small1000 (by omega)), put⟩
            · exact ⟨_, rfl, _, rfl, b, _, rfl, dget W10.hb hv, _, rfl, _, rfl, ha, _, rfl, DPut.k (k := (Sum.inr y : Key)) hh10 (small1000 (by omega)), put⟩
          rintro σ H9 ⟨kh, v6, rfl, W9, hh9, hq9, hl9, t9⟩
          rw [List.length_map] at hl9
          -- what lacks, one by one
          refine ⟨_, rfl, ce, _, _, .ref ia, rfl, rfl, SqT.of (t9 _ _ c1), rfl, ia, rfl, ⟨_, SqT.of (t9 _ _ c2)⟩, ?_⟩
          refine for_tup (K := K) (a := ia) (xs := C.ins.map V.str) (fun n σ H9 => ∃ (kh : List (Key × V)) (v6 : Option V), σ = [some (.ref a), some (.ref d), some (.int (0 + (i : Int))), some (.ref ce), some (.ref b), some (.ref kd), v6, some (.ref dt), some (.int (0 + (j : Int))), some (.ref ha), v10, v11] ∧ WS H9 d c ce b dt C kvs ((C.outs.map (evalC C ρ)).map V.int) ∧ H9 ha = some (.dK kh) ∧ HQ kh C.ins ρ ∧ kh.length ≤ 30 + n ∧ Tups H8 H9)
            ⟨kh, _, rfl, W9, hh9, hq9, by omega, t9⟩ (fun n σ H9 _ ⟨_, _, _, _, _, _, _, t⟩ => SqT.of (t _ _ c2)) ?_ ?_
          · rintro n x σ H9 hx ⟨kh, v6, rfl, W9, hh9, hq9, hl9, t9⟩
            obtain ⟨y, hy, rfl⟩ := str_item hx
            have hn : n < C.ins.length := (List.getElem?_eq_some_iff.mp hy).1
            obtain ⟨hv, hbit⟩ := hH y (inst hy)
            refine ⟨_, rfl, _, rfl, _, rfl, ce, ha, dt, C, kh, ρ, rfl, W9.cell, hG, hh9, hq9.nd, hq9.flat, W9.hdt, hq9.ag, fun H10 s10 => ⟨_, rfl, iteF ?_⟩⟩
            have W10 := W9.same s10
            refine ⟨_, rfl, _, rfl, _, rfl, ce, ha, dt, C, kh, ρ, rfl, W10.cell, hG, s10 _ _ hh9, hq9.nd, hq9.flat, W10.hdt, hq9.ag, fun H11 s11 => ⟨_, rfl, iteF ?_⟩⟩
            have W11 := W10.same s11
            have hh11 := s11 _ _ (s10 _ _ hh9)
            have t11 := (t9.trans (Tups.of_same s10)).trans (Tups.of_same s11)
            have dg : DGet H11 ha (.str y) (valV kh (Sum.inr y)) := DGet.k (k := (Sum.inr y : Key)) hh11
            refine ⟨_, rfl, _, rfl, ha, _, rfl, dg, _, rfl, ?_⟩
            cases hv' : valV kh (Sum.inr y : Key) with
            | some v => exact iteF ⟨kh, _, rfl, W11, hh11, hq9, by omega, t11⟩
            | none =>
              have hlp := length_putK kh (Sum.inr y : Key) (.int (ρ y))
              exact (if_pos rfl).mpr ⟨_, rfl, _, rfl, b, _, rfl, dget W11.hb hv, _, rfl, _, rfl, ha, _, rfl, DPut.k (k := (Sum.inr y : Key)) hh11 (small1000 (by omega)), _, _, rfl, W11.dic hh11 nb, upd_same, hq9.put (fun _ => ⟨rfl, hbit⟩), by omega, t11.trans (Tups.dic hh11)⟩
          rintro σ H9 ⟨kh, v6, rfl, W9, hh9, hq9, hl9, t9⟩
          exact ⟨_, rfl, _, rfl, _, rfl, ce, ha, dt, C, kh, ρ, rfl, W9.cell, hG, hh9, hq9.nd, hq9.flat, W9.hdt, hq9.ag, fun H10 s10 => ⟨_, rfl, iteF ⟨_, _, _, _, _, rfl, W9.same s10⟩⟩⟩
        · rintro σ H7 ⟨w6, w8, w9, w10, w11, rfl, W7⟩
          exact ⟨_, _, _, _, _, _, _, _, _, _, rfl, W7.D⟩
      · rintro σ H2 ⟨v2, v3, v4, v5, v6, v7, v8, v9, v10, v11, rfl, _⟩
        exact hu' _ _ ⟨_, _, _, _, _, _, _, _, _, _, rfl⟩
    rintro σ H2 ⟨v2, v3, v4, v5, v6, v7, v8, v9, v10, v11, rfl⟩
    refine ⟨_, pss_one (ps_ret (pe_and (pe_callB call_isx (by rfl) M.mI PyProof.Rows.boot_isinstance (pa_c (pe_xmk0 L.xA L.pA (by rfl) M.mA (pa_c pe_str pa_nil)) (pa_c (pe_glob (v := .ref CE) (by rfl) O.mCE rfl) pa_nil)))
      (pe_one (pe_callB call_isx (by rfl) M.mI PyProof.Rows.boot_isinstance (pa_c (pe_xmk0 L.xL L.pL (by rfl) M.mL (pa_c pe_str pa_nil)) (pa_c (pe_glob (v := .ref CE) (by rfl) O.mCE rfl) pa_nil)))))), ?_⟩
    refine ⟨(by show 1 ≤ 10; decide), fun x nx => ⟨x, CA, none, .ref CE, .ref CE, true, rfl, .inl ⟨CE, rfl, rfl⟩, upd_same, (fun dd z => by cases z), L.fA, L.kA, _, rfl, (if_pos rfl).mpr ?_⟩⟩
    exact ⟨(by show 1 ≤ 10; decide), fun y ny => ⟨y, CL, none, .ref CE, .ref CE, true, rfl, .inl ⟨CE, rfl, rfl⟩, upd_same, (fun dd z => by cases z), L.fL, L.kL, k _⟩⟩
end
end Lw

namespace Lw
open PySem L2
set_option maxHeartbeats 4000000 in
theorem all_mk {l : PySem.W.OpenLaw} {w : World} {K : PySem.W.Frag} {h : Heap} {mg : Str → Option Value} {fa f1 f2 f3 f4 f5 f6 f7 f8 f9 f10 f11 f12 f13 f14 f15 : Addr} (X : K.In h) (G : h.Ns mainGlobals mg) (hfa : mg "law" = some (.ref fa))
    {od1 an1 od2 an2 od3 an3 od4 an4 od5 an5 od6 an6 od7 an7 od8 an8 od9 an9 od10 an10 od11 an11 od12 an12 od13 an13 od14 an14 od15 an15 : Option Addr} {sl1 sl2 sl3 sl4 sl5 sl6 sl7 sl8 sl9 sl10 sl11 sl12 sl13 sl14 sl15 : Array (Option Value)} {oc1 kV1 dc1 pm1 cd1 ct1 oc2 kV2 dc2 pm2 cd2 ct2 oc3 kV3 dc3 pm3 cd3 ct3 oc4 kV4 dc4 pm4 cd4 ct4 oc5 kV5 dc5 pm5 cd5 ct5 oc6 kV6 dc6 pm6 cd6 ct6 oc7 kV7 dc7 pm7 cd7 ct7 oc8 kV8 dc8 pm8 cd8 ct8 oc9 kV9 dc9 pm9 cd9 ct9 oc10 kV10 dc10 pm10 cd10 ct10 oc11 kV11 dc11 pm11 cd11 ct11 oc12 kV12 dc12 pm12 cd12 ct12 oc13 kV13 dc13 pm13 cd13 ct13 oc14 kV14 dc14 pm14 cd14 ct14 oc15 kV15 dc15 pm15 cd15 ct15 : Value}
    {CE CN CA CC CL NS NA NL fI : Addr} {bm bA bL : List Value} {uCN1 uCN3 : Value} {uCN2 : Option Addr} {uCNn uCNq : Str} {uCNb uCNu : List Value} {uCNh uCNa uCNe : Bool} {uCNs : List Str} {uCNc : Option Bool} {uCNz : Array (Option Value)} {uCA1 uCA3 : Value} {uCA2 : Option Addr} {uCAn uCAq : Str} {uCAb uCAu : List Value} {uCAh uCAa uCAe : Bool} {uCAs : List Str} {uCAc : Option Bool} {uCAz : Array (Option Value)} {uCL1 uCL3 : Value} {uCL2 : Option Addr} {uCLn uCLq : Str} {uCLb uCLu : List Value} {uCLh uCLa uCLe : Bool} {uCLs : List Str} {uCLc : Option Bool} {uCLz : Array (Option Value)} {ioc ikV idc ipm icd ict : Value} {iod ian : Option Addr} {isl : Array (Option Value)}
    (a1 : PySem.W.nsIn K mainGlobals "check_there" = some (some (.ref f1))) (l1 : K.lookup f1 = some ⟨oc1, od1, .func (PySem.W.fnOf "check_there" "check_there" (defArgs sThere) (defBody sThere) (defScope sThere) .none kV1 dc1 pm1 an1 cd1 ct1), sl1⟩) (c1 : PySem.W.codeIn K cd1 "check_there" = true) (k1 : PySem.W.keepIn K (.ref f1) = true)
    (a2 : PySem.W.nsIn K mainGlobals "told_by" = some (some (.ref f2))) (l2 : K.lookup f2 = some ⟨oc2, od2, .func (PySem.W.fnOf "told_by" "told_by" (defArgs sToldBy) (defBody sToldBy) (defScope sToldBy) .none kV2 dc2 pm2 an2 cd2 ct2), sl2⟩) (c2 : PySem.W.codeIn K cd2 "told_by" = true) (k2 : PySem.W.keepIn K (.ref f2) = true)
    (a3 : PySem.W.nsIn K mainGlobals "gate_bit" = some (some (.ref f3))) (l3 : K.lookup f3 = some ⟨oc3, od3, .func (PySem.W.fnOf "gate_bit" "gate_bit" (defArgs sGateBit) (defBody sGateBit) (defScope sGateBit) .none kV3 dc3 pm3 an3 cd3 ct3), sl3⟩) (c3 : PySem.W.codeIn K cd3 "gate_bit" = true) (k3 : PySem.W.keepIn K (.ref f3) = true)
    (a4 : PySem.W.nsIn K mainGlobals "_law_deck" = some (some (.ref f4))) (l4 : K.lookup f4 = some ⟨oc4, od4, .func (PySem.W.fnOf "_law_deck" "_law_deck" (defArgs sDeck) (defBody sDeck) (defScope sDeck) .none kV4 dc4 pm4 an4 cd4 ct4), sl4⟩) (c4 : PySem.W.codeIn K cd4 "_law_deck" = true) (k4 : PySem.W.keepIn K (.ref f4) = true)
    (a5 : PySem.W.nsIn K mainGlobals "_law_take" = some (some (.ref f5))) (l5 : K.lookup f5 = some ⟨oc5, od5, .func (PySem.W.fnOf "_law_take" "_law_take" (defArgs sTake) (defBody sTake) (defScope sTake) .none kV5 dc5 pm5 an5 cd5 ct5), sl5⟩) (c5 : PySem.W.codeIn K cd5 "_law_take" = true) (k5 : PySem.W.keepIn K (.ref f5) = true)
    (a6 : PySem.W.nsIn K mainGlobals "_law_kept" = some (some (.ref f6))) (l6 : K.lookup f6 = some ⟨oc6, od6, .func (PySem.W.fnOf "_law_kept" "_law_kept" (defArgs sKept) (defBody sKept) (defScope sKept) .none kV6 dc6 pm6 an6 cd6 ct6), sl6⟩) (c6 : PySem.W.codeIn K cd6 "_law_kept" = true) (k6 : PySem.W.keepIn K (.ref f6) = true)
    (a7 : PySem.W.nsIn K mainGlobals "_law_made_names" = some (some (.ref f7))) (l7 : K.lookup f7 = some ⟨oc7, od7, .func (PySem.W.fnOf "_law_made_names" "_law_made_names" (defArgs sMade) (defBody sMade) (defScope sMade) .none kV7 dc7 pm7 an7 cd7 ct7), sl7⟩) (c7 : PySem.W.codeIn K cd7 "_law_made_names" = true) (k7 : PySem.W.keepIn K (.ref f7) = true)
    (a8 : PySem.W.nsIn K mainGlobals "_law_names" = some (some (.ref f8))) (l8 : K.lookup f8 = some ⟨oc8, od8, .func (PySem.W.fnOf "_law_names" "_law_names" (defArgs sNames) (defBody sNames) (defScope sNames) .none kV8 dc8 pm8 an8 cd8 ct8), sl8⟩) (c8 : PySem.W.codeIn K cd8 "_law_names" = true) (k8 : PySem.W.keepIn K (.ref f8) = true)
    (a9 : PySem.W.nsIn K mainGlobals "_law_gate" = some (some (.ref f9))) (l9 : K.lookup f9 = some ⟨oc9, od9, .func (PySem.W.fnOf "_law_gate" "_law_gate" (defArgs sGate) (defBody sGate) (defScope sGate) .none kV9 dc9 pm9 an9 cd9 ct9), sl9⟩) (c9 : PySem.W.codeIn K cd9 "_law_gate" = true) (k9 : PySem.W.keepIn K (.ref f9) = true)
    (a10 : PySem.W.nsIn K mainGlobals "_law_cell" = some (some (.ref f10))) (l10 : K.lookup f10 = some ⟨oc10, od10, .func (PySem.W.fnOf "_law_cell" "_law_cell" (defArgs sCell) (defBody sCell) (defScope sCell) .none kV10 dc10 pm10 an10 cd10 ct10), sl10⟩) (c10 : PySem.W.codeIn K cd10 "_law_cell" = true) (k10 : PySem.W.keepIn K (.ref f10) = true)
    (a11 : PySem.W.nsIn K mainGlobals "_law_gate_bit" = some (some (.ref f11))) (l11 : K.lookup f11 = some ⟨oc11, od11, .func (PySem.W.fnOf "_law_gate_bit" "_law_gate_bit" (defArgs sLGateBit) (defBody sLGateBit) (defScope sLGateBit) .none kV11 dc11 pm11 an11 cd11 ct11), sl11⟩) (c11 : PySem.W.codeIn K cd11 "_law_gate_bit" = true) (k11 : PySem.W.keepIn K (.ref f11) = true)
    (a12 : PySem.W.nsIn K mainGlobals "_law_all_bits" = some (some (.ref f12))) (l12 : K.lookup f12 = some ⟨oc12, od12, .func (PySem.W.fnOf "_law_all_bits" "_law_all_bits" (defArgs sAllBits) (defBody sAllBits) (defScope sAllBits) .none kV12 dc12 pm12 an12 cd12 ct12), sl12⟩) (c12 : PySem.W.codeIn K cd12 "_law_all_bits" = true) (k12 : PySem.W.keepIn K (.ref f12) = true)
    (a13 : PySem.W.nsIn K mainGlobals "_law_bits" = some (some (.ref f13))) (l13 : K.lookup f13 = some ⟨oc13, od13, .func (PySem.W.fnOf "_law_bits" "_law_bits" (defArgs sBits) (defBody sBits) (defScope sBits) .none kV13 dc13 pm13 an13 cd13 ct13), sl13⟩) (c13 : PySem.W.codeIn K cd13 "_law_bits" = true) (k13 : PySem.W.keepIn K (.ref f13) = true)
    (a14 : PySem.W.nsIn K mainGlobals "_law_right" = some (some (.ref f14))) (l14 : K.lookup f14 = some ⟨oc14, od14, .func (PySem.W.fnOf "_law_right" "_law_right" (defArgs sRight) (defBody sRight) (defScope sRight) .none kV14 dc14 pm14 an14 cd14 ct14), sl14⟩) (c14 : PySem.W.codeIn K cd14 "_law_right" = true) (k14 : PySem.W.keepIn K (.ref f14) = true)
    (a15 : PySem.W.nsIn K mainGlobals "law" = some (some (.ref f15))) (l15 : K.lookup f15 = some ⟨oc15, od15, .func (PySem.W.fnOf "law" "law" (defArgs sLaw) (defBody sLaw) (defScope sLaw) .none kV15 dc15 pm15 an15 cd15 ct15), sl15⟩) (c15 : PySem.W.codeIn K cd15 "law" = true) (k15 : PySem.W.keepIn K (.ref f15) = true)
    (z1 : PySem.W.nsIn K mainGlobals "len" = some none)
    (z2 : PySem.W.nsIn K mainGlobals "range" = some none)
    (z3 : PySem.W.nsIn K mainGlobals "sum" = some none)
    (z4 : PySem.W.nsIn K mainGlobals "min" = some none)
    (z5 : PySem.W.nsIn K mainGlobals "max" = some none)
    (z6 : PySem.W.nsIn K mainGlobals "tuple" = some none)
    (z7 : PySem.W.nsIn K mainGlobals "list" = some none)
    (z8 : PySem.W.nsIn K mainGlobals "set" = some none)
    (z9 : PySem.W.nsIn K mainGlobals "dict" = some none)
    (z10 : PySem.W.nsIn K mainGlobals "int" = some none)
    (z11 : PySem.W.nsIn K mainGlobals "isinstance" = some none)
    (z12 : PySem.W.nsIn K mainGlobals "ValueError" = some none)
    (xCE : PySem.W.nsIn K mainGlobals "CellError" = some (some (.ref CE)))
    (xCN : PySem.W.nsIn K mainGlobals "NoName" = some (some (.ref CN)))
    (xCA : PySem.W.nsIn K mainGlobals "NoAsk" = some (some (.ref CA)))
    (xCC : PySem.W.nsIn K mainGlobals "NoCell" = some (some (.ref CC)))
    (xCL : PySem.W.nsIn K mainGlobals "NoClaim" = some (some (.ref CL)))
    (lkCN : K.lookup CN = some ⟨uCN1, uCN2, .cls ⟨uCNn, uCNb, uCN3 :: bm, NS, uCNq, uCNh, uCNs, uCNu, uCNa, uCNc, uCNe⟩, uCNz⟩)
    (lkCA : K.lookup CA = some ⟨uCA1, uCA2, .cls ⟨uCAn, uCAb, uCA3 :: bA, NA, uCAq, uCAh, uCAs, uCAu, uCAa, uCAc, uCAe⟩, uCAz⟩)
    (lkCL : K.lookup CL = some ⟨uCL1, uCL2, .cls ⟨uCLn, uCLb, uCL3 :: bL, NL, uCLq, uCLh, uCLs, uCLu, uCLa, uCLc, uCLe⟩, uCLz⟩)
    (xfI : PySem.W.nsIn K NS "__init__" = some (some (.ref fI)))
    (lI : K.lookup fI = some ⟨ioc, iod, .func (PySem.W.fnOf "__init__" "NoName.__init__" (defArgs sInit) (defBody sInit) (defScope sInit) .none ikV idc ipm ian icd ict), isl⟩)
    (cI : PySem.W.codeIn K icd "NoName.__init__" = true)
    (kI : PySem.W.keepIn K (.ref fI) = true)
    (hoc : ioc = .type "function")
    (hbm : bm = .ref CE :: vMro)
    (xcN : xcIn K CN NS bm (some (.ref fI)) = true)
    (xcA : xcIn K CA NA bA none = true)
    (xcL : xcIn K CL NL bL none = true)
    (g1 : PySem.W.specialIn K (.ref CE) "__getattribute__" = some (some (.builtin "type.__getattribute__")))
    (g2 : PySem.W.readsIn K CE (.type "type") = true)
    (g3 : PySem.W.findCls K (.ref CE) (.type "type") "__init__" = some (.val (.builtin "ValueError.__init__")))
    (kpCN : PySem.W.keepIn K (.ref CN) = true)
    (faCN : PySem.W.findIn K (.ref CN) "__getattribute__" = some (some (.builtin "BaseException.__getattribute__")))
    (fbCN : PySem.W.findIn K (.ref CN) "__getattr__" = some none)
    (fcCN : PySem.W.mroIn K CN (.type "BaseException") = some true)
    (fdCN : PySem.W.mroIn K CN (.type "object") = some true)
    (feCN : PySem.W.findIn K (.ref CN) "__class__" = some (some (.builtin "object.__class__")))
    (kpCA : PySem.W.keepIn K (.ref CA) = true)
    (faCA : PySem.W.findIn K (.ref CA) "__getattribute__" = some (some (.builtin "BaseException.__getattribute__")))
    (fbCA : PySem.W.findIn K (.ref CA) "__getattr__" = some none)
    (fcCA : PySem.W.mroIn K CA (.type "BaseException") = some true)
    (fdCA : PySem.W.mroIn K CA (.type "object") = some true)
    (feCA : PySem.W.findIn K (.ref CA) "__class__" = some (some (.builtin "object.__class__")))
    (kpCL : PySem.W.keepIn K (.ref CL) = true)
    (faCL : PySem.W.findIn K (.ref CL) "__getattribute__" = some (some (.builtin "BaseException.__getattribute__")))
    (fbCL : PySem.W.findIn K (.ref CL) "__getattr__" = some none)
    (fcCL : PySem.W.mroIn K CL (.type "BaseException") = some true)
    (fdCL : PySem.W.mroIn K CL (.type "object") = some true)
    (feCL : PySem.W.findIn K (.ref CL) "__class__" = some (some (.builtin "object.__class__")))
    (ff : PySem.W.specialIn K (.builtin "object.__class__") "__get__" = some (some (.builtin "getset_descriptor.__get__")))
    (fg : PySem.W.takesIn K (.builtin "object.__class__") = some true)
    (sa : PySem.W.findIn K (.ref CN) "__setattr__" = some (some (.builtin "object.__setattr__")))
    (fw : PySem.W.findIn K (.ref CN) "word" = some none)
    (exm : PySem.W.exmOne K (.ref CN) (.ref CE) = some true)
    (kt3 : PySem.W.kitAny K (.ref CN) [.ref CA, .ref CC, .ref CL] = some false)
    (ktv : PySem.W.kitOne K (.ref CN) (.type "ValueError") = some true)
    (ktA : PySem.W.kitOne K (.ref CA) (.ref CE) = some true)
    (ktL : PySem.W.kitOne K (.ref CL) (.ref CE) = some true)
    : ∃ fd : FuncData, (∀ (s : Shared) (v : Value), BindsTo s fd ⟨[v], []⟩ [("script", v)]) ∧ ∀ base : Heap, K.In base → base.Ns mainGlobals mg → FnOk l.prog w K mg base CX0 6 fa fd ["script"] (spLaw K) := by
  have e := hfa.symm.trans (PySem.W.mg_of X G a15)
  cases e
  have n_len := PySem.W.mg_none_of X G z1
  have n_range := PySem.W.mg_none_of X G z2
  have n_sum := PySem.W.mg_none_of X G z3
  have n_min := PySem.W.mg_none_of X G z4
  have n_max := PySem.W.mg_none_of X G z5
  have n_tuple := PySem.W.mg_none_of X G z6
  have n_list := PySem.W.mg_none_of X G z7
  have n_set := PySem.W.mg_none_of X G z8
  have n_dict := PySem.W.mg_none_of X G z9
  have n_int := PySem.W.mg_none_of X G z10
  have n_isinstance := PySem.W.mg_none_of X G z11
  have n_ValueError := PySem.W.mg_none_of X G z12
  have F1 := fun_mk (st := sThere) l1 c1 k1
  have b1 := F1.binds (ps := ["names", "given"]) fun _ _ _ _ _ _ us hl => match us, hl with | [_, _], _ => rfl
  have gTh : Gd K mg "check_there" sThere ["names", "given"] f1 _ := ⟨F1, PySem.W.mg_of X G a1, k1, b1⟩
  have F2 := fun_mk (st := sToldBy) l2 c2 k2
  have b2 := F2.binds (ps := ["cell", "bits"]) fun _ _ _ _ _ _ us hl => match us, hl with | [_, _], _ => rfl
  have gO : Gd K mg "told_by" sToldBy ["cell", "bits"] f2 _ := ⟨F2, PySem.W.mg_of X G a2, k2, b2⟩
  have F3 := fun_mk (st := sGateBit) l3 c3 k3
  have b3 := F3.binds (ps := ["word", "bits"]) fun _ _ _ _ _ _ us hl => match us, hl with | [_, _], _ => rfl
  have gGB : Gd K mg "gate_bit" sGateBit ["word", "bits"] f3 _ := ⟨F3, PySem.W.mg_of X G a3, k3, b3⟩
  have F4 := fun_mk (st := sDeck) l4 c4 k4
  have b4 := F4.binds (ps := ["script"]) fun _ _ _ _ _ _ us hl => match us, hl with | [_], _ => rfl
  have gD : Gd K mg "_law_deck" sDeck ["script"] f4 _ := ⟨F4, PySem.W.mg_of X G a4, k4, b4⟩
  have F5 := fun_mk (st := sTake) l5 c5 k5
  have b5 := F5.binds (ps := ["deck", "many"]) fun _ _ _ _ _ _ us hl => match us, hl with | [_, _], _ => rfl
  have gT : Gd K mg "_law_take" sTake ["deck", "many"] f5 _ := ⟨F5, PySem.W.mg_of X G a5, k5, b5⟩
  have F6 := fun_mk (st := sKept) l6 c6 k6
  have b6 := F6.binds (ps := []) fun _ _ _ _ _ _ us hl => match us, hl with | [], _ => rfl
  have gK : Gd K mg "_law_kept" sKept [] f6 _ := ⟨F6, PySem.W.mg_of X G a6, k6, b6⟩
  have F7 := fun_mk (st := sMade) l7 c7 k7
  have b7 := F7.binds (ps := ["deck", "many"]) fun _ _ _ _ _ _ us hl => match us, hl with | [_, _], _ => rfl
  have gM : Gd K mg "_law_made_names" sMade ["deck", "many"] f7 _ := ⟨F7, PySem.W.mg_of X G a7, k7, b7⟩
  have F8 := fun_mk (st := sNames) l8 c8 k8
  have b8 := F8.binds (ps := ["deck", "many"]) fun _ _ _ _ _ _ us hl => match us, hl with | [_, _], _ => rfl
  have gN : Gd K mg "_law_names" sNames ["deck", "many"] f8 _ := ⟨F8, PySem.W.mg_of X G a8, k8, b8⟩
  have F9 := fun_mk (st := sGate) l9 c9 k9
  have b9 := F9.binds (ps := ["deck", "known"]) fun _ _ _ _ _ _ us hl => match us, hl with | [_, _], _ => rfl
  have gG : Gd K mg "_law_gate" sGate ["deck", "known"] f9 _ := ⟨F9, PySem.W.mg_of X G a9, k9, b9⟩
  have F10 := fun_mk (st := sCell) l10 c10 k10
  have b10 := F10.binds (ps := ["deck", "inputs", "gates"]) fun _ _ _ _ _ _ us hl => match us, hl with | [_, _, _], _ => rfl
  have gC : Gd K mg "_law_cell" sCell ["deck", "inputs", "gates"] f10 _ := ⟨F10, PySem.W.mg_of X G a10, k10, b10⟩
  have F11 := fun_mk (st := sLGateBit) l11 c11 k11
  have b11 := F11.binds (ps := ["word", "bits"]) fun _ _ _ _ _ _ us hl => match us, hl with | [_, _], _ => rfl
  have gLGB : Gd K mg "_law_gate_bit" sLGateBit ["word", "bits"] f11 _ := ⟨F11, PySem.W.mg_of X G a11, k11, b11⟩
  have F12 := fun_mk (st := sAllBits) l12 c12 k12
  have b12 := F12.binds (ps := ["cell", "bits"]) fun _ _ _ _ _ _ us hl => match us, hl with | [_, _], _ => rfl
  have gA : Gd K mg "_law_all_bits" sAllBits ["cell", "bits"] f12 _ := ⟨F12, PySem.W.mg_of X G a12, k12, b12⟩
  have F13 := fun_mk (st := sBits) l13 c13 k13
  have b13 := F13.binds (ps := ["names", "number"]) fun _ _ _ _ _ _ us hl => match us, hl with | [_, _], _ => rfl
  have gB : Gd K mg "_law_bits" sBits ["names", "number"] f13 _ := ⟨F13, PySem.W.mg_of X G a13, k13, b13⟩
  have F14 := fun_mk (st := sRight) l14 c14 k14
  have b14 := F14.binds (ps := ["cell", "handed", "due"]) fun _ _ _ _ _ _ us hl => match us, hl with | [_, _, _], _ => rfl
  have gR : Gd K mg "_law_right" sRight ["cell", "handed", "due"] f14 _ := ⟨F14, PySem.W.mg_of X G a14, k14, b14⟩
  have F15 := fun_mk (st := sLaw) l15 c15 k15
  refine ⟨PySem.W.fnOf "law" "law" (defArgs sLaw) (defBody sLaw) (defScope sLaw) .none kV15 dc15 pm15 an15 cd15 ct15, fun s v => .of_eq rfl, fun base _ _ => ?_⟩
  have T : Txt mg := ⟨n_len, n_range, n_sum, n_min, n_max, n_tuple, n_list, n_set, n_dict, n_int⟩
  have FIn := fun_mk (x := "__init__") (qual := "NoName.__init__") (st := sInit) lI cI kI
  have bI := FIn.binds (ps := ["self", "word"]) fun _ _ _ _ _ _ us hl => match us, hl with | [_, _], _ => rfl
  have O : NN K mg CE CN NS fI bm := ⟨PySem.W.mg_of X G xCE, g1, g2, g3, PySem.W.mg_of X G xCN, xcN, kpCN, sa, fw, fun x => by subst hbm; rw [refuseLoop_ref, refuseLoop_ref]; exact PySem.F.store_ValueError.passes _, by subst hbm; simp [vMro], by subst hbm; simp [vMro], ⟨faCN, fbCN, fcCN, fdCN, feCN, ff, fg⟩, exm⟩
  have M : N4 K mg CN CA CC CL := ⟨PySem.W.mg_of X G xCA, PySem.W.mg_of X G xCC, PySem.W.mg_of X G xCL, n_ValueError, n_isinstance, kt3, ktv⟩
  have L : N5 K mg CE CA CL NA NL bA bL := ⟨xcA, kpCA, ⟨faCA, fbCA, fcCA, fdCA, feCA, ff, fg⟩, ktA, xcL, kpCL, ⟨faCL, fbCL, fcCL, fdCL, feCL, ff, fg⟩, ktL⟩
  have GT := ok_take (P := l.prog) (w := w) (base := base) gT.F T
  have GN := ok_names (P := l.prog) (w := w) (base := base) gN.F T gT gK gM
  have GG := ok_gate (P := l.prog) (w := w) (base := base) gG.F T gT
  have GC := ok_cell (P := l.prog) (w := w) (base := base) gC.F T gT gN gG GT GN GG
  have GI := ok_init (P := l.prog) (w := w) (base := base) FIn O
  have GTh := ok_thereX (P := l.prog) (w := w) (base := base) gTh.F O GI bI lI hoc
  have GO := ok_toldX (P := l.prog) (w := w) (base := base) gO.F T gGB gTh GTh
  have GA := ok_all (P := l.prog) (w := w) (base := base) gA.F T gLGB
  have GB := ok_bits (P := l.prog) (w := w) (base := base) (mg := mg) gB.F
  have GR := ok_right (P := l.prog) (w := w) (base := base) gR.F T O M gO GO
  exact ok_law F15 T O M L gD gT gC gR gB gA (ok_deck gD.F T) GT GC GB GA GR
theorem walk {l : PySem.W.OpenLaw} {q : Program} {loose : List Str} {XP : (Str → Option Value) → Heap → Prop} {YP : World → Heap → Prop} {d : DefRec} {K : Params → PySem.W.Frag} (hn : l.most = some 63) (hdf : d.params.defaults = [])
    (hY : ∀ (w : World) (h : Heap), YP w h → (K w.params).In h)
    (F : ∀ (w : World) (mg : Str → Option Value) (fa : Addr) (h : Heap), (K w.params).In h → h.Ns mainGlobals mg → mg d.name = some (.ref fa) →
      ∃ fd : FuncData, (∀ (s : Shared) (u : Value), BindsTo s fd ⟨[u], []⟩ [("script", u)]) ∧ ∀ base : Heap, (K w.params).In base → base.Ns mainGlobals mg → FnOk l.prog w (K w.params) mg base CX0 6 fa fd ["script"] (spLaw (K w.params))) :
    PySem.W.WalkO q loose XP YP l.row.toRowW d [] (fun f vs => PySem.call f vs) :=
  L2.walk_of (n := 63) (k := 6) (x := "script") (CX := fun _ => CX0) (sp := fun w => spLaw (K w.params)) hn (by decide) hdf ⟨rfl, by decide, by decide⟩ hY F (fun _ _ a ns hl _ hS => ⟨a, ns, rfl, hS, hl, fun _ => rfl⟩) fun _ _ _ _ _ z => z
end Lw
open PySem PySem.W PyProof.Rows
set_option maxRecDepth 100000 in
set_option maxHeartbeats 0 in
theorem PySem.Challenge.cw_laidcells_k04_bits_lacking_holds : PySem.Challenge.rw_laidcells_k04_bits_lacking.Holds := by
  w_on; o_law; k_head; (case hw => w_witness2)
  k_fill
  refine Lw.walk (l := PySem.Challenge.rw_laidcells_k04_bits_lacking) rfl rfl (fun w h Y => PySem.W.kIn_of Y) ?F
  case F =>
    intro w mg fa h KX G hmg
    refine' Lw.all_mk KX G hmg ?a1 ?l1 ?c1 ?k1 ?a2 ?l2 ?c2 ?k2 ?a3 ?l3 ?c3 ?k3 ?a4 ?l4 ?c4 ?k4 ?a5 ?l5 ?c5 ?k5 ?a6 ?l6 ?c6 ?k6 ?a7 ?l7 ?c7 ?k7 ?a8 ?l8 ?c8 ?k8 ?a9 ?l9 ?c9 ?k9 ?a10 ?l10 ?c10 ?k10 ?a11 ?l11 ?c11 ?k11 ?a12 ?l12 ?c12 ?k12 ?a13 ?l13 ?c13 ?k13 ?a14 ?l14 ?c14 ?k14 ?a15 ?l15 ?c15 ?k15 ?z1 ?z2 ?z3 ?z4 ?z5 ?z6 ?z7 ?z8 ?z9 ?z10 ?z11 ?z12 ?xCE ?xCN ?xCA ?xCC ?xCL ?lkCN ?lkCA ?lkCL ?xfI ?lI ?cI ?kI ?hoc ?hbm ?xcN ?xcA ?xcL ?g1 ?g2 ?g3 ?kpCN ?faCN ?fbCN ?fcCN ?fdCN ?feCN ?kpCA ?faCA ?fbCA ?fcCA ?fdCA ?feCA ?kpCL ?faCL ?fbCL ?fcCL ?fdCL ?feCL ?ff ?fg ?sa ?fw ?exm ?kt3 ?ktv ?ktA ?ktL
    (case a1 => k_is)
    (case l1 => k_is)
    (case c1 => k_is)
    (case k1 => k_is)
    (case a2 => k_is)
    (case l2 => k_is)
    (case c2 => k_is)
    (case k2 => k_is)
    (case a3 => k_is)
    (case l3 => k_is)
    (case c3 => k_is)
    (case k3 => k_is)
    (case a4 => k_is)
    (case l4 => k_is)
    (case c4 => k_is)
    (case k4 => k_is)
    (case a5 => k_is)
    (case l5 => k_is)
    (case c5 => k_is)
    (case k5 => k_is)
    (case a6 => k_is)
    (case l6 => k_is)
    (case c6 => k_is)
    (case k6 => k_is)
    (case a7 => k_is)
    (case l7 => k_is)
    (case c7 => k_is)
    (case k7 => k_is)
    (case a8 => k_is)
    (case l8 => k_is)
    (case c8 => k_is)
    (case k8 => k_is)
    (case a9 => k_is)
    (case l9 => k_is)
    (case c9 => k_is)
    (case k9 => k_is)
    (case a10 => k_is)
    (case l10 => k_is)
    (case c10 => k_is)
    (case k10 => k_is)
    (case a11 => k_is)
    (case l11 => k_is)
    (case c11 => k_is)
    (case k11 => k_is)
    (case a12 => k_is)
    (case l12 => k_is)
    (case c12 => k_is)
    (case k12 => k_is)
    (case a13 => k_is)
    (case l13 => k_is)
    (case c13 => k_is)
    (case k13 => k_is)
    (case a14 => k_is)
    (case l14 => k_is)
    (case c14 => k_is)
    (case k14 => k_is)
    (case a15 => k_is)
    (case l15 => k_is)
    (case c15 => k_is)
    (case k15 => k_is)
    (case z1 => k_is)
    (case z2 => k_is)
    (case z3 => k_is)
    (case z4 => k_is)
    (case z5 => k_is)
    (case z6 => k_is)
    (case z7 => k_is)
    (case z8 => k_is)
    (case z9 => k_is)
    (case z10 => k_is)
    (case z11 => k_is)
    (case z12 => k_is)
    (case xCE => k_is)
    (case xCN => k_is)
    (case xCA => k_is)
    (case xCC => k_is)
    (case xCL => k_is)
    (case lkCN => k_is)
    (case lkCA => k_is)
    (case lkCL => k_is)
    (case xfI => k_is)
    (case lI => k_is)
    (case cI => k_is)
    (case kI => k_is)
    (case hoc => rfl)
    (case hbm => rfl)
    (case xcN => kernel_rfl)
    (case xcA => kernel_rfl)
    (case xcL => kernel_rfl)
    (case g1 => k_is)
    (case g2 => k_is)
    (case g3 => kernel_rfl)
    (case kpCN => k_is)
    (case faCN => k_is)
    (case fbCN => k_is)
    (case fcCN => k_is)
    (case fdCN => k_is)
    (case feCN => k_is)
    (case kpCA => k_is)
    (case faCA => k_is)
    (case fbCA => k_is)
    (case fcCA => k_is)
    (case fdCA => k_is)
    (case feCA => k_is)
    (case kpCL => k_is)
    (case faCL => k_is)
    (case fbCL => k_is)
    (case fcCL => k_is)
    (case fdCL => k_is)
    (case feCL => k_is)
    (case ff => k_is)
    (case fg => k_is)
    (case sa => k_is)
    (case fw => k_is)
    (case exm => kernel_rfl)
    (case kt3 => kernel_rfl)
    (case ktv => kernel_rfl)
    (case ktA => kernel_rfl)
    (case ktL => kernel_rfl)

