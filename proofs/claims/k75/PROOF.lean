import PyProof.Rows.All
import Wide.All
import OpenK.AllK
import Wide.FinOn
import Lean
import PyProof.EqAt
import PyProof.EqKinds
import PyProof.TupleCall
import PyProof.SetScanFacts
import PyProof.SetKind
import PyProof.DictKinds
import PyProof.FactsAll.set_0
import PyProof.FactsAll.set_1
import PyProof.FactsAll.set_2
import PyProof.FactsAll.set_3
import PyProof.FactsSeq
import PyProof.CollectWalk
import PyProof.ListRange
import PyProof.ZipIter
import PyProof.MeetsSeq
import PyProof.IsRules
import PyProof.Rows.ZipGen
import PyProof.SumWalkG
import PyProof.DictWalks
import PyProof.Rows.SortShell
import PyProof.Rows.SetFrom
import PyProof.SetRoads
import KE.KIntText
import KE.IntTextLaws
import PyProof.StrWalks
import PyProof.StrOps2
import PyProof.SliceStr2
import PyProof.PureStr
import PyProof.StrCalls3
import PyProof.Rows.StrMadeLen
import PyProof.StrLawsIn
import PyProof.CompMap
import PyProof.FactsBase
import KE.KStateDown
import PyProof.Rows.Range3
import PyProof.AttrMissHeap
import KE.KDictOf
import KE.KItemsList
import PySem.Challenge.RW_bagwood_k75_rounds_refused
set_option Elab.async false
set_option linter.all false
set_option maxRecDepth 100000
local macro_rules | `(tactic| omega) => `(tactic| first | lia | omega (config := {}))
/-! THE HAND LAYER, for ints, bools, texts, own classes, LISTS and tuples (index, slices, in, append, pop ..), calls, loops. Paste it whole ahead of your own text; what your proof does not reach may be deleted. -/
namespace L2
open PySem PySem.Spec PyProof.Rows

/-- a key: an int or a str -/
abbrev Key := Sum Int Str
def keyIs : Key → Value → Bool
  | .inl k, v => Value.isInt k v
  | .inr x, v => Value.isStrOf x v
def keyH (w : World) : Key → Int
  | .inl k => hashInt k
  | .inr x => hashStr w x
theorem keyIs_shape : ∀ {k : Key} {v : Value}, keyIs k v = true → (∃ i t, k = Sum.inl i ∧ v = Value.int i t) ∨ (∃ x t, k = Sum.inr x ∧ v = Value.str x t)
  | .inl i, v, h => by
    obtain ⟨t, e⟩ := Value.isInt_shape (k := i) (v := v) h
    exact .inl ⟨i, t, rfl, e⟩
  | .inr x, v, h => by
    obtain ⟨t, e⟩ := Value.isStrOf_shape (x := x) (v := v) h
    exact .inr ⟨x, t, rfl, e⟩
theorem keyIs_int (i : Int) (t : Tok) : keyIs (.inl i) (.int i t) = true := by simp [keyIs, Value.isInt]
theorem keyIs_str (x : Str) (t : Tok) : keyIs (.inr x) (.str x t) = true := by simp [keyIs, Value.isStrOf]
theorem key_ll (a b : Int) : decide ((Sum.inl a : Key) = Sum.inl b) = (a == b) := by
  by_cases e : a = b
  · subst e; simp
  · have h : ¬ (Sum.inl a : Key) = Sum.inl b := fun q => e (Sum.inl.inj q)
    rw [decide_eq_false h]
    exact (beq_eq_false_iff_ne.mpr e).symm
theorem key_rr (a b : Str) : decide ((Sum.inr a : Key) = Sum.inr b) = decide (a = b) := by
  by_cases e : a = b
  · subst e; simp
  · have h : ¬ (Sum.inr a : Key) = Sum.inr b := fun q => e (Sum.inr.inj q)
    rw [decide_eq_false h, decide_eq_false e]
theorem key_lr (a : Int) (b : Str) : decide ((Sum.inl a : Key) = Sum.inr b) = false := decide_eq_false (fun q => nomatch q)
theorem key_rl (a : Str) (b : Int) : decide ((Sum.inr a : Key) = Sum.inl b) = false := decide_eq_false (fun q => nomatch q)

def mixKind (prog : Program) (w : World) : PySem.KeyKind prog w Key where
  is := keyIs
  hash := keyH w
  inj := fun v a b ha hb => by
    rcases keyIs_shape ha with ⟨i, t, rfl, rfl⟩ | ⟨x, t, rfl, rfl⟩
    · rcases keyIs_shape hb with ⟨j, u, rfl, e⟩ | ⟨y, u, rfl, e⟩
      · injection e with e1 _; rw [e1]
      · exact nomatch e
    · rcases keyIs_shape hb with ⟨j, u, rfl, e⟩ | ⟨y, u, rfl, e⟩
      · exact nomatch e
      · injection e with e1 _; rw [e1]
  byValue := fun k v h => by
    rcases keyIs_shape h with ⟨i, t, rfl, rfl⟩ | ⟨x, t, rfl, rfl⟩ <;> rfl
  pyHash := fun hv h => by
    rcases keyIs_shape hv with ⟨i, t, rfl, rfl⟩ | ⟨x, t, rfl, rfl⟩
    · exact wpAny_pyHash_int h
    · exact wpAny_pyHash_str h
  eqBool := fun hu hv h => by
    rcases keyIs_shape hu with ⟨i, t, rfl, rfl⟩ | ⟨x, t, rfl, rfl⟩
    · rcases keyIs_shape hv with ⟨j, u, rfl, rfl⟩ | ⟨y, u, rfl, rfl⟩
      · rw [key_ll] at h; exact wpAny_eqBool_int h
      · rw [key_lr] at h; exact SeqAt.EqAt.int_str i t y u _ _ _ _ h
    · rcases keyIs_shape hv with ⟨j, u, rfl, rfl⟩ | ⟨y, u, rfl, rfl⟩
      · rw [key_rl] at h; exact SeqAt.EqAt.str_int x t j u _ _ _ _ h
      · rw [key_rr] at h; exact wpAny_eqBool_str h
  «strs» := fun k x t v h => by
    rcases keyIs_shape h with ⟨i, u, rfl, e⟩ | ⟨y, u, rfl, e⟩
    · exact nomatch e
    · injection e with e1 _
      subst e1
      cases v <;> rfl

theorem mixKind_int (prog : Program) (w : World) (i : Int) (t : Tok) : (mixKind prog w).is (.inl i) (.int i t) = true := keyIs_int i t
theorem mixKind_str (prog : Program) (w : World) (x : Str) (t : Tok) : (mixKind prog w).is (.inr x) (.str x t) = true := keyIs_str x t
end L2

namespace L2
open PySem PySem.Spec PyProof.Rows

/-- a value, without the heap -/
inductive V where
  | non | bl (b : Bool) | int (i : Int) | str (x : Str) | byt (b : Array UInt8) | flt (b : UInt64) | ref (a : Addr) | ty (n : String)
  deriving DecidableEq

def RelV : V → Value → Prop
  | .non, u => u = Value.none
  | .bl b, u => u = Value.bool b
  | .int i, u => ∃ t, u = Value.int i t
  | .str x, u => ∃ t, u = Value.str x t
  | .byt b, u => ∃ t, u = Value.bytes b t
  | .flt b, u => ∃ t, u = Value.float b t
  | .ref a, u => u = Value.ref a
  | .ty n, u => u = Value.type n

abbrev Vals : List V → List Value → Prop := Paired RelV
theorem Vals.length {xs : List V} {us : List Value} (r : Vals xs us) : xs.length = us.length := Paired.length r
theorem Vals.get : ∀ {xs : List V} {us : List Value} {i : Nat} {x : V}, Vals xs us → xs[i]? = some x → ∃ u, us[i]? = some u ∧ RelV x u
  | _, _, _, _, .nil, e => by simp at e
  | _, _, 0, _, .cons r _, e => by simp at e; subst e; exact ⟨_, rfl, r⟩
  | _, _, i + 1, x, .cons _ t, e => by
    obtain ⟨u, h1, h2⟩ := Vals.get (i := i) (x := x) t (by simpa using e)
    exact ⟨u, by simpa using h1, h2⟩
theorem Vals.set {x : V} {u : Value} (r : RelV x u) : ∀ {xs : List V} {us : List Value} (i : Nat), Vals xs us → Vals (xs.set i x) (us.set i u)
  | _, _, _, .nil => .nil
  | _, _, 0, .cons _ t => .cons r t
  | _, _, i + 1, .cons q t => .cons q (Vals.set r i t)
theorem Vals.append : ∀ {xs ys : List V} {us ws : List Value}, Vals xs us → Vals ys ws → Vals (xs ++ ys) (us ++ ws)
  | _, _, _, _, .nil, s => s
  | _, _, _, _, .cons r t, s => .cons r (Vals.append t s)
theorem Vals.take : ∀ {xs : List V} {us : List Value} (n : Nat), Vals xs us → Vals (xs.take n) (us.take n)
  | _, _, 0, _ => .nil
  | _, _, _ + 1, .nil => .nil
  | _, _, n + 1, .cons r t => .cons r (Vals.take n t)
theorem Vals.drop : ∀ {xs : List V} {us : List Value} (n : Nat), Vals xs us → Vals (xs.drop n) (us.drop n)
  | _, _, 0, r => r
  | _, _, _ + 1, .nil => .nil
  | _, _, n + 1, .cons _ t => Vals.drop n t

def RelO : Option V → Option Value → Prop
  | some v, some u => RelV v u
  | none, none => True
  | _, _ => False
def KV {κ : Type} : List (κ × V) → List (κ × Value) → Prop := Paired fun (p : κ × V) (q : κ × Value) => p.1 = q.1 ∧ RelV p.2 q.2

/-- a key of a dict (00_mix): an int or a text -/
def kV : Key → V
  | .inl i => .int i
  | .inr x => .str x

/-- what stands at a tracked address -/
inductive HO where
  /-- a list -/
  | lst (xs : List V)
  /-- a tuple (never changes) -/
  | tup (xs : List V)
  /-- a dict whose keys are ints and texts; one whose keys are tuples of ints and texts (the empty one is both) -/
  | dK (kvs : List (Key × V)) | dT (kvs : List (List Key × V))
  /-- a set of ints: its members, its size -/
  | set (S : Int → Bool) (n : Nat)
  /-- an instance of the class at C, its dict at dx, its attributes -/
  | ins (C dx : Addr) (fs : List (Str × V))
  /-- the dict of the instance at x -/
  | own (x : Addr)
  /-- the dict of an exception -/
  | xd (fs : List (Str × V))
  /-- a bound method, f of x -/
  | met (f x : Addr)
  /-- a range object lo, lo + 1, .. below hi -/
  | rng (lo hi : Int)
  /-- a thing that is known to the object (the script; a dict while a loop walks it): read, never written while it is so -/
  | frz (o : Obj) (u : HO)
  /-- a code object's table -/
  | tbl (ps : Array Value)
  /-- any other thing, by what is true of its one object (a def of one's own: SetO a S n := HO.ext fun h => ..) -/
  | ext (φ : Heap → Prop)

abbrev Hp := Addr → Option HO
def upd (H : Hp) (a : Addr) (o : HO) : Hp := fun b => if b = a then some o else H b
theorem upd_same {H : Hp} {a : Addr} {o : HO} : upd H a o a = some o := by unfold upd; rw [if_pos rfl]
theorem upd_ne {H : Hp} {a b : Addr} {o : HO} (h : b ≠ a) : upd H a o b = H b := by unfold upd; rw [if_neg h]
/-- two objects of different content stand apart -/
theorem ne_of {H : Hp} {a b : Addr} {o u : HO} (h : H a = some o) (h' : H b = some u) (d : o ≠ u) : a ≠ b := by
  intro e; subst e; rw [h] at h'; exact d (Option.some.inj h')
theorem ne_of_none {H : Hp} {a b : Addr} {o : HO} (h : H a = some o) (h' : H b = none) : a ≠ b := by
  intro e; subst e; rw [h] at h'; cases h'

section
variable (P : Program) (w : World)
def ObjOk (H : Hp) (h : Heap) (a : Addr) : HO → Prop
  | .lst xs => xs.length ≤ sizeLine ∧ ∃ (its : List Value) (n : Nat), Vals xs its ∧ h.get? a = some { cls := .type "list", data := .seq its.toArray n }
  | .tup xs => xs.length ≤ sizeLine ∧ ∃ its : List Value, Vals xs its ∧ IsTup h a its.toArray
  | .dK kvs => kvs.length ≤ sizeLine ∧ (a == sysModules) = false ∧ ∃ vs, KV kvs vs ∧ h.DictOf (mixKind P w) a vs
  | .dT kvs => kvs.length ≤ sizeLine ∧ (a == sysModules) = false ∧ ∃ xs : List (List Key × Addr × Value),
      Paired (fun (p : List Key × V) (q : List Key × Addr × Value) => p.1 = q.1 ∧ H q.2.1 = some (.tup (p.1.map kV)) ∧ RelV p.2 q.2.2) kvs xs ∧
      ∃ o es ep, h.get? a = some o ∧ o.ExactDict ∧ o.data = .dict es ep ∧ es.toList = xs.map (entryOfKey (tupleKind (mixKind P w))) ∧ (xs.map (·.1)).Nodup
  | .set S n => h.SetOf (intKind P w) a S n
  | .ins C dx fs => H dx = some (.own a) ∧ fs.length ≤ 1000 ∧ dx ≠ a ∧ h.get? a = some (PySem.W.instObj C dx) ∧
      ∃ mA, h.Ns1 dx mA ∧ (∀ f, RelO (fs.lookup f) (mA f)) ∧ PySem.Within mA (fs.map (·.1))
  | .own _ => ∃ o, h.get? a = some o
  | .xd fs => ∃ mA, h.Ns1 a mA ∧ ∀ f, RelO (fs.lookup f) (mA f)
  | .rng lo hi => ∃ t u v, h.get? a = some { cls := .type "range", data := .fields #[.int lo t, .int hi u, .int 1 v] }
  | .frz o u => h.get? a = some o ∧ ObjOk H h a u
  | .tbl ps => h.get? a = some { cls := .none, data := .fields ps }
  | .met f x => h.get? a = some (PySem.W.methodObj (.ref f) (.ref x))
  | .ext φ => φ h ∧ (∃ o, h.get? a = some o) ∧ ∀ h1 h2 : Heap, φ h1 → (∀ o, h1.get? a = some o → h2.get? a = some o) → φ h2
/-- the abstract heap is held -/
def HOk (H : Hp) (h : Heap) : Prop := ∀ a o, H a = some o → ObjOk P w H h a o
end

section
variable {P : Program} {w : World} {H H' : Hp} {h h' : Heap} {a : Addr} {o : HO}
theorem ObjOk.lt (x : ObjOk P w H h a o) : a < h.objs.size := by
  cases o with
  | lst xs => obtain ⟨_, _, _, _, e⟩ := x; exact Heap.lt_size e
  | tup xs => obtain ⟨_, _, _, p⟩ := x; exact p.lt
  | dK kvs => obtain ⟨_, _, _, _, o, _, _, e, _⟩ := x; exact Heap.lt_size e
  | dT kvs => obtain ⟨_, _, _, _, o, _, _, e, _⟩ := x; exact Heap.lt_size e
  | set S n => obtain ⟨o, _, _, _, e, _⟩ := x; exact Heap.lt_size e
  | ins C dx fs => obtain ⟨_, _, _, e, _⟩ := x; exact Heap.lt_size e
  | own y => obtain ⟨_, e⟩ := x; exact Heap.lt_size e
  | xd fs => obtain ⟨_, ⟨_, _, _, e, _⟩, _⟩ := x; exact Heap.lt_size e
  | rng lo hi => obtain ⟨_, _, _, e⟩ := x; exact Heap.lt_size e
  | frz ob u => obtain ⟨e, _⟩ := x; exact Heap.lt_size e
  | tbl ps => exact Heap.lt_size (show h.get? a = some _ from x)
  | met f y => exact Heap.lt_size (show h.get? a = some _ from x)
  | ext φ => obtain ⟨_, ⟨_, e⟩, _⟩ := x; exact Heap.lt_size e
theorem Paired.mapP {α β : Type} {F G : α → β → Prop} : ∀ {l₁ : List α} {l₂ : List β}, Paired F l₁ l₂ → (∀ a b, F a b → G a b) → Paired G l₁ l₂
  | _, _, .nil, _ => .nil
  | _, _, .cons r t, f => .cons (f _ _ r) (Paired.mapP t f)
/-- what an object's description leans on: its own object, its own dict, the tuples -/
theorem ObjOk.stay (x : ObjOk P w H h a o) (k : ∀ b u, (b = a ∨ H b = some (.own a)) → h.get? b = some u → h'.get? b = some u)
    (ho : ∀ b, H b = some (.own a) → H' b = some (.own a)) (ht : ∀ b xs, H b = some (.tup xs) → H' b = some (.tup xs)) : ObjOk P w H' h' a o := by
  induction o with
  | lst xs => obtain ⟨z, its, n, r, e⟩ := x; exact ⟨z, its, n, r, k _ _ (.inl rfl) e⟩
  | tup xs => obtain ⟨z, its, r, ob, e, c⟩ := x; exact ⟨z, its, r, ob, k _ _ (.inl rfl) e, c⟩
  | dK kvs => obtain ⟨z, y, vs, r, ob, es, ep, e, c⟩ := x; exact ⟨z, y, vs, r, ob, es, ep, k _ _ (.inl rfl) e, c⟩
  | dT kvs =>
    obtain ⟨z, y, xs, r, ob, es, ep, e, c⟩ := x
    exact ⟨z, y, xs, Paired.mapP r fun p q z => ⟨z.1, ht _ _ z.2.1, z.2.2⟩, ob, es, ep, k _ _ (.inl rfl) e, c⟩
  | set S n => obtain ⟨ob, es, ep, t, e, c⟩ := x; exact ⟨ob, es, ep, t, k _ _ (.inl rfl) e, c⟩
  | ins C dx fs =>
    obtain ⟨d, z, ne, e, mA, ⟨od, es, ep, e2, c⟩, r⟩ := x
    exact ⟨ho _ d, z, ne, k _ _ (.inl rfl) e, mA, ⟨od, es, ep, k _ _ (.inr d) e2, c⟩, r⟩
  | own y => obtain ⟨ob, e⟩ := x; exact ⟨ob, k _ _ (.inl rfl) e⟩
  | xd fs => obtain ⟨mA, ⟨od, es, ep, e, c⟩, r⟩ := x; exact ⟨mA, ⟨od, es, ep, k _ _ (.inl rfl) e, c⟩, r⟩
  | rng lo hi => obtain ⟨t, u, v, e⟩ := x; exact ⟨t, u, v, k _ _ (.inl rfl) e⟩
  | frz ob u ih => obtain ⟨e, q⟩ := x; exact ⟨k _ _ (.inl rfl) e, ih q⟩
  | tbl ps =>
    have e : h.get? a = some { cls := .none, data := .fields ps } := x
    show h'.get? a = some { cls := .none, data := .fields ps }
    exact k a _ (.inl rfl) e
  | met f y =>
    have e : h.get? a = some (PySem.W.methodObj (.ref f) (.ref y)) := x
    show h'.get? a = some (PySem.W.methodObj (.ref f) (.ref y))
    exact k a _ (.inl rfl) e
  | ext φ => obtain ⟨p, ⟨o, e⟩, st⟩ := x; exact ⟨st _ _ p fun o q => k _ _ (.inl rfl) q, ⟨o, k _ _ (.inl rfl) e⟩, st⟩
theorem HOk.lt (x : HOk P w H h) (e : H a = some o) : a < h.objs.size := (x a o e).lt
theorem HOk.fresh (x : HOk P w H h) (e : h.objs.size ≤ a) : H a = none := by
  cases q : H a with
  | none => rfl
  | some u => exact absurd (Nat.lt_of_lt_of_le (x.lt q) e) (Nat.lt_irrefl _)
/-- every object of the heap is kept -/
theorem HOk.kept (x : HOk P w H h) (k : ∀ b u, h.get? b = some u → h'.get? b = some u) : HOk P w H h' := fun a o e =>
  (x a o e).stay (fun b u _ q => k b u q) (fun _ q => q) fun _ _ q => q
/-- a new object is laid and tracked -/
theorem HOk.laid (x : HOk P w H h) (k : ∀ b u, h.get? b = some u → h'.get? b = some u) (hp : h.objs.size ≤ a) (new : ObjOk P w (upd H a o) h' a o) : HOk P w (upd H a o) h' := fun b u e => by
  have hn := x.fresh hp
  by_cases hb : b = a
  · subst hb; rw [upd_same] at e; cases e; exact new
  · rw [upd_ne hb] at e
    exact (x b u e).stay (fun c v _ q => k c v q) (fun c q => by rw [upd_ne (ne_of_none q hn)]; exact q) fun c xs q => by rw [upd_ne (ne_of_none q hn)]; exact q
end

/-- what may be read as u: it is u, or a known u -/
def Rd (H : Hp) (a : Addr) (u : HO) : Prop := H a = some u ∨ ∃ o, H a = some (.frz o u)
theorem Rd.ok {P : Program} {w : World} {H : Hp} {h : Heap} {a : Addr} {u : HO} (r : Rd H a u) (x : HOk P w H h) : ObjOk P w H h a u := by
  rcases r with r | ⟨o, r⟩
  · exact x a u r
  · obtain ⟨_, q⟩ := x a _ r
    exact q
/-- what may be written -/
def Mut : Option HO → Prop
  | some (.lst _) => True
  | some (.dK _) => True
  | some (.dT _) => True
  | some (.set _ _) => True
  | some (.ins _ _ _) => True
  | some (.ext _) => True
  | _ => False
section
variable {P : Program} {w : World} {H : Hp} {h h' : Heap} {x e : Addr} {o' : HO}
/-- the object at e is changed: x itself, or the dict of the instance x -/
theorem HOk.write (ok : HOk P w H h) (mu : Mut (H x)) (he : e = x ∨ H e = some (.own x)) (k : ∀ b u, b ≠ e → h.get? b = some u → h'.get? b = some u) (heo : ∃ u, h'.get? e = some u)
    (new : ObjOk P w (upd H x o') h' x o') : HOk P w (upd H x o') h' := fun b u q => by
  have nown : ∀ c y, H c = some (.own y) → c ≠ x := fun c y r z => by subst z; rw [r] at mu; exact mu
  have ntup : ∀ c xs, H c = some (.tup xs) → c ≠ x := fun c xs r z => by subst z; rw [r] at mu; exact mu
  by_cases hb : b = x
  · subst hb; rw [upd_same] at q; cases q; exact new
  · rw [upd_ne hb] at q
    by_cases hbe : b = e
    · have q' : H b = some (.own x) := by
        rcases he with z | z
        · exact absurd (hbe.trans z) hb
        · rw [hbe]; exact z
      rw [q] at q'; cases q'
      obtain ⟨v, hv⟩ := heo
      exact ⟨v, by rw [hbe]; exact hv⟩
    · refine (ok b u q).stay (fun c v hc r => k c v ?_ r) (fun c r => by rw [upd_ne (nown c b r)]; exact r) fun c xs r => by rw [upd_ne (ntup c xs r)]; exact r
      rcases hc with rfl | hc
      · exact hbe
      · rintro rfl
        rcases he with z | z
        · exact nown c b hc z
        · rw [hc] at z; cases z; exact hb rfl
end

/-! ### kept unless tracked; of the frames at fs (the callers') the slots may change (an exception that passes writes there); of the records at ex (iterators) nothing is said -/
structure Un (fs ex : List Addr) (H H' : Hp) (h h' : Heap) : Prop where
  keep : ∀ b o, h.get? b = some o → H b = none → b ∉ fs → b ∉ ex → h'.get? b = some o
  slot : ∀ b o, h.get? b = some o → H b = none → b ∈ fs → b ∉ ex → ∃ sl, h'.get? b = some { o with slots := sl }
  free : ∀ b o, h.get? b = some o → H b = none → b ∉ ex → H' b = none
  there : ∀ b o, h.get? b = some o → b ∉ ex → ∃ o', h'.get? b = some o'
  tups : ∀ b xs, H b = some (.tup xs) → H' b = some (.tup xs)
  frzs : ∀ b o u, H b = some (.frz o u) → H' b = some (.frz o u)
  tbls : ∀ b ps, H b = some (.tbl ps) → ∃ more, H' b = some (.tbl (ps ++ more))
section
variable {fs fs' ex ex' : List Addr} {H H1 H2 : Hp} {h h1 h2 h' : Heap} {a x e : Addr} {o : HO}
theorem Un.any (u : Un fs ex H H1 h h1) {b : Addr} {ob : Obj} (q : h.get? b = some ob) (n : H b = none) (hx : b ∉ ex) : ∃ sl, h1.get? b = some { ob with slots := sl } := by
  by_cases hb : b ∈ fs
  · exact u.slot b ob q n hb hx
  · exact ⟨ob.slots, u.keep b ob q n hb hx⟩
theorem Un.kept (k : ∀ b u, h.get? b = some u → h'.get? b = some u) : Un fs ex H H h h' :=
  ⟨fun b ob q _ _ _ => k b ob q, fun b ob q _ _ _ => ⟨ob.slots, k b ob q⟩, fun _ _ _ n _ => n, fun b ob q _ => ⟨ob, k b ob q⟩, fun _ _ q => q, fun _ _ _ q => q, fun _ ps q => ⟨#[], by rw [q]; simp⟩⟩
theorem Un.refl : Un fs ex H H h h := Un.kept fun _ _ q => q
theorem Un.laid (k : ∀ b u, h.get? b = some u → h'.get? b = some u) (hp : h.objs.size ≤ a) (hn : H a = none) : Un fs ex H (upd H a o) h h' where
  keep := fun b u q _ _ _ => k b u q
  slot := fun b u q _ _ _ => ⟨u.slots, k b u q⟩
  free := fun b u q n _ => by rw [upd_ne (Nat.ne_of_lt (Nat.lt_of_lt_of_le (Heap.lt_size q) hp))]; exact n
  there := fun b u q _ => ⟨u, k b u q⟩
  tups := fun b xs q => by rw [upd_ne (ne_of_none q hn)]; exact q
  frzs := fun b u xs q => by rw [upd_ne (ne_of_none q hn)]; exact q
  tbls := fun b ps q => ⟨#[], by rw [upd_ne (ne_of_none q hn), q]; simp⟩
theorem Un.write (mu : Mut (H x)) (he : e = x ∨ H e = some (.own x)) (k : ∀ b u, b ≠ e → h.get? b = some u → h'.get? b = some u) (heo : ∃ u, h'.get? e = some u) : Un fs ex H (upd H x o) h h' := by
  have hx : ∀ b, H b = none → b ≠ x := fun b n z => by subst z; rw [n] at mu; exact mu
  have hb : ∀ b, H b = none → b ≠ e := fun b n z => by
    subst z
    rcases he with r | r
    · exact hx b n r
    · rw [n] at r; cases r
  have hm : ∀ b u, H b = some u → ¬ Mut (some u) → b ≠ x := fun b u q nm z => by subst z; rw [q] at mu; exact nm mu
  refine ⟨fun b u q n _ _ => k b u (hb b n) q, fun b u q n _ _ => ⟨u.slots, k b u (hb b n) q⟩, fun b u q n _ => by rw [upd_ne (hx b n)]; exact n, fun b u q _ => ?_,
    fun b xs q => by rw [upd_ne (hm b _ q fun z => z)]; exact q, fun b u xs q => by rw [upd_ne (hm b _ q fun z => z)]; exact q, fun b ps q => ⟨#[], by rw [upd_ne (hm b _ q fun z => z), q]; simp⟩⟩
  by_cases hbe : b = e
  · subst hbe; exact heo
  · exact ⟨u, k b u hbe q⟩
end

/-! ### the heap without what is tracked -/
def trk (h : Heap) (H : Hp) : List Addr := (List.range h.objs.size).filter fun a => (H a).isSome
def hidT (h : Heap) (H : Hp) : Heap := PySem.W.hideAll h (trk h H)
theorem hidT_size (h : Heap) (H : Hp) : (hidT h H).objs.size = h.objs.size := PySem.W.hideAll_size _ _
theorem hidT_get {h : Heap} {H : Hp} {b : Addr} {o : Obj} (e : h.get? b = some o) (n : H b = none) : (hidT h H).get? b = some o :=
  PySem.W.hideAll_get _ e fun hm => by
    have q : (H b).isSome = true := (List.mem_filter.mp hm).2
    rw [n] at q; simp at q
theorem of_hidT {h : Heap} {H : Hp} {b : Addr} {o : Obj} (e : (hidT h H).get? b = some o) : h.get? b = some o ∧ H b = none := by
  have e' : h.get? b = some o := PySem.W.of_hideAll (trk h H) e
  refine ⟨e', ?_⟩
  cases q : H b with
  | none => rfl
  | some x =>
    have hm : b ∈ trk h H := List.mem_filter.mpr ⟨List.mem_range.mpr (Heap.lt_size e'), by simp [q]⟩
    have z : (hidT h H).get? b = none := PySem.W.hideAll_none (trk h H) hm
    rw [z] at e; cases e

/-! ### OpenK's ledger, filled with every new object but one -/
end L2

namespace L2
open PySem PySem.Spec PyProof.Rows

/-- the module's facts, over the base: the heap at the law's entry without what is tracked there -/
structure Mod (K : PySem.W.Frag) (mg : Str → Option Value) (base : Heap) : Prop where
  kin : K.In base
  glob : base.Ns mainGlobals mg
  blt : ∃ mb, base.Ns builtinsNs mb ∧ ∀ x : Str, x ≠ "__name__" → mb x = bootBuiltins x
  nolimit : base.NoLimit

/-- the context: a def's body (or a comprehension's block) running. base: fixed through the whole law; s₀, H₀: the entry; outer: the frames whose slots others may change (a def's callers); stack: all frames that run;
   ex: iterators that were made ahead of the entry and are walked here (a comprehension's); fn: the names whose cells were made at the entry (a def: all; a comprehension's block: its own); calm: not within an except suite; pn: pins that every state bears; xe: what is wanted of an exception that leaves the code -/
structure Cx where
  prog : Program
  w : World
  K : PySem.W.Frag
  mg : Str → Option Value
  base : Heap
  A : Around
  N : List Str
  s₀ : Shared
  H₀ : Hp
  env : Env
  outer : List Env
  stack : List Env
  ex : List Addr
  fn : Str → Bool
  calm : Bool
  pn : List (Addr × Obj)
  xe : Value → Shared → Prop
/-- the callers' frames -/
def frs (l : List Env) : List Addr := l.filterMap (·.frame)
abbrev Cx.fs (X : Cx) : List Addr := frs X.outer

def Vis (sc : Scope) (x : Str) : Prop := sc.names.lookup x = some .local ∨ sc.names.lookup x = some .cell ∨ sc.names.lookup x = some .free
def Loc (sc : Scope) (x : Str) : Prop := sc.names.lookup x = some .local ∨ sc.names.lookup x = some .cell
def Look (env : Env) (h : Heap) (m : Str → Option Value) (x : Str) (u : Value) : Prop :=
  (env.kindOf x = some .local ∧ m x = some u) ∨ ((env.kindOf x = some .cell ∨ env.kindOf x = some .free) ∧ ∃ c, env.cells.lookup x = some c ∧ h.IsCell c (some u))

structure Cx.Ok (X : Cx) : Prop where
  mod : Mod X.K X.mg X.base
  kind : X.env.scope.kind = .function
  glob : X.env.globals = mainGlobals
  blt : X.env.builtins = builtinsNs
  above : X.s₀.heap.objs.size ≤ X.env.locals
  inj : ∀ x y c, X.env.cells.lookup x = some c → X.env.cells.lookup y = some c → x = y
  has : ∀ x, (X.env.kindOf x = some .cell ∨ X.env.kindOf x = some .free) → ∃ c, X.env.cells.lookup x = some c
  cab : ∀ x c, X.fn x = true → X.env.cells.lookup x = some c → X.s₀.heap.objs.size ≤ c
  hd : X.calm = true → X.A.handled = none
  frames : X.A.frames = some X.stack
  stk : X.stack = X.outer ∨ (X.stack = X.env :: X.outer ∧ X.env.frame = some X.env.locals)
  exf : ∀ b ∈ X.ex, b ≠ X.env.locals ∧ ∀ x c, X.env.cells.lookup x = some c → c ≠ b
  bs : ∀ b o, X.base.get? b = some o → X.s₀.heap.get? b = some o ∧ X.H₀ b = none
  bsz : X.base.objs.size ≤ X.s₀.heap.objs.size
  noex : ∀ b o, X.base.get? b = some o → b ∉ X.ex
  exfs : ∀ b ∈ X.ex, b ∉ X.fs
  funs : X.s₀.heap.FunFrames X.base X.outer
  frf : ∀ b ∈ X.fs, X.H₀ b = none

structure Inv (X : Cx) (pins : List (Addr × Obj)) (σ : List (Option V)) (H : Hp) (s : Shared) : Prop where
  ok : X.Ok
  os : s.os = X.s₀.os
  bare : AllBare s.gens
  base : Un X.fs X.ex X.H₀ H X.s₀.heap s.heap
  loc : ∃ m, s.heap.Ns X.env.locals m ∧ ∀ (i : Nat) (x : Str) (v : V), X.N[i]? = some x → σ[i]? = some (some v) → Vis X.env.scope x → ∃ u, RelV v u ∧ Look X.env s.heap m x u
  cell : ∀ x c, X.env.cells.lookup x = some c → ∃ v, s.heap.IsCell c v
  free : H X.env.locals = none
  freeC : ∀ x c, X.env.cells.lookup x = some c → H c = none
  pin : ∀ p ∈ X.pn ++ pins, s.heap.get? p.1 = some p.2 ∧ H p.1 = none ∧ p.1 ≠ X.env.locals ∧ p.1 ∉ X.fs ∧ ∀ v, p.2.data ≠ .cell v
  hok : HOk X.prog X.w H s.heap
  len : σ.length = X.N.length

section
variable {X : Cx} {pins : List (Addr × Obj)} {σ : List (Option V)} {H H' : Hp} {s : Shared} {h' : Heap}

theorem Cx.Ok.nofr (ok : X.Ok) {b : Addr} {o : Obj} (e : X.base.get? b = some o) : b ∉ X.fs := fun hb => by
  have := (ok.funs.mem hb).1
  rw [e] at this; cases this
theorem Inv.bs (I : Inv X pins σ H s) : ∀ b o, X.base.get? b = some o → s.heap.get? b = some o ∧ H b = none := fun b o e =>
  ⟨I.base.keep b o (I.ok.bs b o e).1 (I.ok.bs b o e).2 (I.ok.nofr e) (I.ok.noex b o e), I.base.free b o (I.ok.bs b o e).1 (I.ok.bs b o e).2 (I.ok.noex b o e)⟩
theorem Inv.bk (I : Inv X pins σ H s) : ∀ b o, X.base.get? b = some o → s.heap.get? b = some o := fun b o e => (I.bs b o e).1
theorem Inv.mod (I : Inv X pins σ H s) : Mod X.K X.mg X.base := I.ok.mod
theorem Inv.kIn (I : Inv X pins σ H s) : X.K.In s.heap := I.ok.mod.kin.keeps I.bk
theorem Inv.lt (I : Inv X pins σ H s) : X.env.locals < s.heap.objs.size := let ⟨_, hn, _⟩ := I.loc; hn.lt
theorem Inv.sz (I : Inv X pins σ H s) : X.s₀.heap.objs.size ≤ s.heap.objs.size := Nat.le_trans I.ok.above (Nat.le_of_lt I.lt)
theorem Inv.nofs (I : Inv X pins σ H s) {a : Addr} (h : s.heap.objs.size ≤ a) : a ∉ X.fs := fun hb => by
  obtain ⟨_, o, ho, _⟩ := I.ok.funs.mem hb
  exact absurd (Nat.lt_of_lt_of_le (Heap.lt_size ho) (Nat.le_trans I.sz h)) (Nat.lt_irrefl _)
theorem Inv.cne (I : Inv X pins σ H s) : ∀ x c, X.env.cells.lookup x = some c → c ≠ X.env.locals := fun x c e z => by
  obtain ⟨v, o, ho, hd⟩ := I.cell x c e
  obtain ⟨m, ⟨o', es, ep, ho', hd', _⟩, _⟩ := I.loc
  rw [z, ho'] at ho; cases ho; rw [hd'] at hd; cases hd
theorem Inv.funs (I : Inv X pins σ H s) : s.heap.FunFrames X.base X.outer := by
  have all : ∀ (l : List Env), (∀ b ∈ frs l, b ∈ X.fs) → X.s₀.heap.FunFrames X.base l → s.heap.FunFrames X.base l := by
    intro l
    induction l with
    | nil => intro _ _; trivial
    | cons env r ih =>
      intro hs hl
      obtain ⟨hk, ⟨L, o, hf, hn, ho, hd⟩, hr⟩ := hl
      have hL : L ∈ X.fs := hs L (by unfold frs; rw [List.filterMap_cons, hf]; exact List.mem_cons_self)
      obtain ⟨sl, e⟩ := I.base.slot L o ho (I.ok.frf L hL) hL fun z => I.ok.exfs L z hL
      exact ⟨hk, ⟨L, _, hf, hn, e, hd⟩, ih (fun b hb => hs b (by unfold frs; rw [List.filterMap_cons, hf]; exact List.mem_cons_of_mem _ hb)) hr⟩
  exact all X.outer (fun _ hb => hb) I.ok.funs

/-- the frames that run, for a call -/
theorem Inv.stack (I : Inv X pins σ H s) : s.heap.FunFrames X.base X.stack := by
  rcases I.ok.stk with e | ⟨e, hf⟩
  · rw [e]; exact I.funs
  · rw [e]
    obtain ⟨m, hn, _⟩ := I.loc
    refine .cons (by rw [I.ok.kind]; decide) hf hn ?_ I.funs
    exact Heap.get?_none_of_le (Nat.le_trans I.ok.bsz I.ok.above)
theorem Inv.stkSub (I : Inv X pins σ H s) : ∀ b ∈ frs X.stack, b ∈ X.env.locals :: X.fs := fun b hb => by
  rcases I.ok.stk with e | ⟨e, hf⟩
  · rw [e] at hb; exact List.mem_cons_of_mem _ hb
  · rw [e] at hb
    unfold frs at hb
    rw [List.filterMap_cons, hf] at hb
    exact hb
theorem Inv.stkFree (I : Inv X pins σ H s) : ∀ b ∈ frs X.stack, H b = none := fun b hb => by
  rcases List.mem_cons.mp (I.stkSub b hb) with e | hb
  · rw [e]; exact I.free
  · obtain ⟨_, o, ho, _⟩ := I.ok.funs.mem hb
    exact I.base.free b o ho (I.ok.frf b hb) fun z => I.ok.exfs b z hb

/-- THE STEP: the untracked objects but the frame and the records at ch are kept (the callers' frames up to slots), the frame's map is kept, the new abstract heap is held -/
theorem Inv.step {g' : Array GenState} {t' : Nat} {d' : Drawn} {ch : List Addr} (I : Inv X pins σ H s)
    (hch : ∀ b ∈ ch, (b ∈ X.ex ∨ X.s₀.heap.objs.size ≤ b) ∧ b ≠ X.env.locals ∧ (∀ x c, X.env.cells.lookup x = some c → c ≠ b) ∧ ∀ p ∈ X.pn ++ pins, p.1 ≠ b)
    (keep : ∀ b o, b ≠ X.env.locals → b ∉ X.fs → b ∉ ch → s.heap.get? b = some o → H b = none → h'.get? b = some o)
    (slot : ∀ b o, b ≠ X.env.locals → b ∈ X.fs → b ∉ ch → s.heap.get? b = some o → H b = none → ∃ sl, h'.get? b = some { o with slots := sl }) (free : ∀ b o, b ∉ ch → s.heap.get? b = some o → H b = none → H' b = none)
    (there : ∀ b o, b ∉ ch → s.heap.get? b = some o → ∃ o', h'.get? b = some o')
    (tups : ∀ b xs, H b = some (.tup xs) → H' b = some (.tup xs)) (frzs : ∀ b o u, H b = some (.frz o u) → H' b = some (.frz o u)) (tbls : ∀ b ps, H b = some (.tbl ps) → ∃ more, H' b = some (.tbl (ps ++ more)))
    (ns : ∀ m, s.heap.Ns X.env.locals m → h'.Ns X.env.locals m) (hok : HOk X.prog X.w H' h') (hg : AllBare g') :
    Inv X pins σ H' { s with heap := h', gens := g', drawn := d', toks := t' } := by
  have neL : ∀ b o, X.s₀.heap.get? b = some o → b ≠ X.env.locals := fun b o e => Nat.ne_of_lt (Nat.lt_of_lt_of_le (Heap.lt_size e) I.ok.above)
  have neC : ∀ b o, X.s₀.heap.get? b = some o → b ∉ X.ex → b ∉ ch := fun b o e hx hb => by
    rcases (hch b hb).1 with z | z
    · exact hx z
    · exact absurd (Nat.lt_of_lt_of_le (Heap.lt_size e) z) (Nat.lt_irrefl _)
  have cellK : ∀ x c, X.env.cells.lookup x = some c → ∀ v, s.heap.IsCell c v → h'.IsCell c v := fun x c e v ⟨o, ho, hd⟩ => by
    have nch : c ∉ ch := fun z => (hch c z).2.2.1 x c e rfl
    by_cases hc : c ∈ X.fs
    · obtain ⟨sl, q⟩ := slot c o (I.cne x c e) hc nch ho (I.freeC x c e)
      exact ⟨_, q, hd⟩
    · exact ⟨o, keep c o (I.cne x c e) hc nch ho (I.freeC x c e), hd⟩
  refine ⟨I.ok, I.os, hg, ⟨fun b o e n hb hx => ?_, fun b o e n hb hx => ?_, fun b o e n hx => ?_, fun b o e hx => ?_, fun b xs e => tups b xs (I.base.tups b xs e), fun b o xs e => frzs b o xs (I.base.frzs b o xs e), fun b ps e => ?_⟩, ?_, fun x c e => ?_, ?_, fun x c e => ?_, fun p hp => ?_, hok, I.len⟩
  · exact keep b o (neL b o e) hb (neC b o e hx) (I.base.keep b o e n hb hx) (I.base.free b o e n hx)
  · obtain ⟨sl, e1⟩ := I.base.slot b o e n hb hx
    obtain ⟨sl', e2⟩ := slot b _ (neL b o e) hb (neC b o e hx) e1 (I.base.free b o e n hx)
    exact ⟨sl', e2⟩
  · obtain ⟨o', e1⟩ := I.base.there b o e hx
    exact free b o' (neC b o e hx) e1 (I.base.free b o e n hx)
  · obtain ⟨o', e1⟩ := I.base.there b o e hx
    exact there b o' (neC b o e hx) e1
  · obtain ⟨m1, e1⟩ := I.base.tbls b ps e
    obtain ⟨m2, e2⟩ := tbls b _ e1
    exact ⟨m1 ++ m2, by rw [e2, Array.append_assoc]⟩
  · obtain ⟨m, hn, hl⟩ := I.loc
    refine ⟨m, ns m hn, fun i x v e1 e2 e3 => ?_⟩
    obtain ⟨u, r, l⟩ := hl i x v e1 e2 e3
    refine ⟨u, r, ?_⟩
    rcases l with l | ⟨k, c, e, z⟩
    · exact .inl l
    · exact .inr ⟨k, c, e, cellK x c e _ z⟩
  · obtain ⟨v, z⟩ := I.cell x c e
    exact ⟨v, cellK x c e v z⟩
  · obtain ⟨m, ⟨o, _, _, ho, _⟩, _⟩ := I.loc
    exact free _ o (fun z => (hch _ z).2.1 rfl) ho I.free
  · obtain ⟨v, o, ho, hd⟩ := I.cell x c e
    exact free c o (fun z => (hch c z).2.2.1 x c e rfl) ho (I.freeC x c e)
  · obtain ⟨e, n, ne, nf, d⟩ := I.pin p hp
    have nch : p.1 ∉ ch := fun z => (hch p.1 z).2.2.2 p hp rfl
    exact ⟨keep p.1 p.2 ne nf nch e n, free p.1 p.2 nch e n, ne, nf, d⟩
/-- .. where the frame's own object is kept too -/
theorem Inv.un {t' : Nat} (I : Inv X pins σ H s) (u : Un X.fs [] H H' s.heap h') (hok : HOk X.prog X.w H' h') : Inv X pins σ H' { s with heap := h', toks := t' } := by
  obtain ⟨m, ⟨o, es, ep, ho, r⟩, _⟩ := id I.loc
  obtain ⟨sl, hL⟩ := u.any ho I.free (by simp)
  exact I.step (g' := s.gens) (d' := s.drawn) (ch := []) (fun _ z => nomatch z) (fun b o _ hb _ e n => u.keep b o e n hb (by simp)) (fun b o _ hb _ e n => u.slot b o e n hb (by simp)) (fun b o _ e n => u.free b o e n (by simp)) (fun b o _ e => u.there b o e (by simp)) u.tups u.frzs u.tbls (fun m' hm => by
    obtain ⟨o', es', ep', ho', r'⟩ := hm
    rw [ho] at ho'; cases ho'
    exact ⟨_, es', ep', hL, r'⟩) hok I.bare
/-- behind a call (or a comprehension's block): the slots of this frame may have changed too, the records at ch may have turned -/
theorem Inv.call {g' : Array GenState} {t' : Nat} {d' : Drawn} {ch : List Addr} (I : Inv X pins σ H s) (u : Un (frs X.stack) ch H H' s.heap h') (hok : HOk X.prog X.w H' h') (hg : AllBare g')
    (hch : ∀ b ∈ ch, (b ∈ X.ex ∨ X.s₀.heap.objs.size ≤ b) ∧ b ≠ X.env.locals ∧ (∀ x c, X.env.cells.lookup x = some c → c ≠ b) ∧ ∀ p ∈ X.pn ++ pins, p.1 ≠ b) :
    Inv X pins σ H' { s with heap := h', gens := g', drawn := d', toks := t' } := by
  obtain ⟨m, ⟨o, es, ep, ho, r⟩, _⟩ := id I.loc
  obtain ⟨sl, hL⟩ := u.any ho I.free fun z => (hch _ z).2.1 rfl
  exact I.step (ch := ch) hch (fun b o hL hb hc e n => u.keep b o e n (fun z => (List.mem_cons.mp (I.stkSub b z)).elim hL hb) hc) (fun b o _ _ hc e n => u.any e n hc) (fun b o hc e n => u.free b o e n hc) (fun b o hc e => u.there b o e hc) u.tups u.frzs u.tbls (fun m' hm => by
    obtain ⟨o', es', ep', ho', r'⟩ := hm
    rw [ho] at ho'; cases ho'
    exact ⟨_, es', ep', hL, r'⟩) hok hg
/-- an untracked record of ours (an iterator) has turned -/
theorem Inv.turned {t' : Nat} {it : Addr} (I : Inv X pins σ H s) (k : ∀ b o, b ≠ it → s.heap.get? b = some o → h'.get? b = some o) (hn : H it = none) (hL : it ≠ X.env.locals)
    (h1 : it ∈ X.ex ∨ X.s₀.heap.objs.size ≤ it) (h2 : ∀ x c, X.env.cells.lookup x = some c → c ≠ it) (h3 : ∀ p ∈ X.pn ++ pins, p.1 ≠ it) : Inv X pins σ H { s with heap := h', toks := t' } := by
  have nit : ∀ b u, H b = some u → b ≠ it := fun b u e z => by rw [z, hn] at e; cases e
  refine I.step (g' := s.gens) (d' := s.drawn) (ch := [it]) (fun b hb => ?_) (fun b o _ _ hc e _ => k b o (fun z => hc (by simp [z])) e) (fun b o _ _ hc e _ => ⟨o.slots, k b o (fun z => hc (by simp [z])) e⟩) (fun _ _ _ _ n => n)
    (fun b o hc e => ⟨o, k b o (fun z => hc (by simp [z])) e⟩) (fun _ _ e => e) (fun _ _ _ e => e) (fun b ps e => ⟨#[], by rw [e]; simp⟩) (fun m hm => ?_) (fun b u e => ?_) I.bare
  · have e : b = it := by simpa using hb
    subst e
    exact ⟨h1, hL, h2, h3⟩
  · obtain ⟨o, es, ep, ho, r⟩ := hm
    exact ⟨o, es, ep, k _ o (Ne.symm hL) ho, r⟩
  · refine (I.hok b u e).stay (fun c v hc q => k c v ?_ q) (fun _ q => q) fun _ _ q => q
    rcases hc with z | z
    · rw [z]; exact nit b u e
    · exact nit c _ z
theorem Inv.tok (I : Inv X pins σ H s) (t : Nat) : Inv X pins σ H { s with toks := t } := I.un (h' := s.heap) (t' := t) Un.refl I.hok
/-- all objects kept -/
theorem Inv.kept {t' : Nat} (I : Inv X pins σ H s) (k : ∀ b u, s.heap.get? b = some u → h'.get? b = some u) : Inv X pins σ H { s with heap := h', toks := t' } := I.un (Un.kept k) (I.hok.kept k)
/-- a new object laid and tracked -/
theorem Inv.laid {a : Addr} {o : HO} {t' : Nat} (I : Inv X pins σ H s) (k : ∀ b u, s.heap.get? b = some u → h'.get? b = some u) (hp : s.heap.objs.size ≤ a) (new : ObjOk X.prog X.w (upd H a o) h' a o) :
    Inv X pins σ (upd H a o) { s with heap := h', toks := t' } := I.un (Un.laid k hp (I.hok.fresh hp)) (I.hok.laid k hp new)
/-- an object written -/
theorem Inv.write {x e : Addr} {o : HO} {t' : Nat} (I : Inv X pins σ H s) (mu : Mut (H x)) (he : e = x ∨ H e = some (.own x)) (k : ∀ b u, b ≠ e → s.heap.get? b = some u → h'.get? b = some u) (heo : ∃ u, h'.get? e = some u)
    (new : ObjOk X.prog X.w (upd H x o) h' x o) : Inv X pins σ (upd H x o) { s with heap := h', toks := t' } := I.un (Un.write mu he k heo) (I.hok.write mu he k heo new)
theorem Inv.pins_of {pins' : List (Addr × Obj)} (I : Inv X pins σ H s) (h : ∀ p ∈ pins', s.heap.get? p.1 = some p.2 ∧ H p.1 = none ∧ p.1 ≠ X.env.locals ∧ p.1 ∉ X.fs ∧ ∀ v, p.2.data ≠ .cell v) : Inv X pins' σ H s :=
  ⟨I.ok, I.os, I.bare, I.base, I.loc, I.cell, I.free, I.freeC, fun p hp => (List.mem_append.mp hp).elim (fun z => I.pin p (List.mem_append_left _ z)) (h p), I.hok, I.len⟩

theorem nodup_ix {N : List Str} (hN : N.Nodup) {i j : Nat} {x : Str} (a : N[i]? = some x) (b : N[j]? = some x) : i = j := by
  obtain ⟨h1, e1⟩ := List.getElem?_eq_some_iff.mp a
  obtain ⟨h2, e2⟩ := List.getElem?_eq_some_iff.mp b
  exact (List.getElem_inj hN).mp (e1.trans e2.symm)

/-- a name is stored; what changed -/
theorem store_ok2 {M : Model} {A : Around} {E : Value → Shared → Prop} {i : Nat} {x : Str} {v : V} {u : Value} {Q : Unit → Shared → Prop} (I : Inv X pins σ H s) (hN : X.N.Nodup) (hi : X.N[i]? = some x) (hx : Loc X.env.scope x) (r : RelV v u)
    (h : ∀ s', Inv X pins (σ.set i (some v)) H s' → (∃ a, Heap.SameBut a s.heap s'.heap ∧ (a = X.env.locals ∨ X.env.cells.lookup x = some a)) → Q () s') (hf : X.fn x = true ∨ X.env.scope.names.lookup x = some .local := by first | exact .inl rfl | exact .inr rfl | assumption) : wpAny M A (storeName X.env x u) Q E s := by
  obtain ⟨m, hn, hl⟩ := id I.loc
  have hcls : (X.env.scope.kind == .class || (X.env.scope.kind == .module && X.env.locals != X.env.globals)) = false := by rw [I.ok.kind]; rfl
  have hiσ : i < σ.length := by rw [I.len]; exact (List.getElem?_eq_some_iff.mp hi).1
  have cne := I.cne
  have tracked : ∀ {a : Addr} {h' : Heap}, (∃ o, s.heap.get? a = some o ∧ H a = none) → Heap.SameBut a s.heap h' → HOk X.prog X.w H h' := fun {a h'} ha hs b ob e => by
    obtain ⟨_, _, hfree⟩ := ha
    refine (I.hok b ob e).stay (fun c w' hc q => (hs.2 c ?_).trans q) (fun _ q => q) fun _ _ q => q
    rintro rfl
    rcases hc with rfl | hc
    · rw [hfree] at e; cases e
    · rw [hfree] at hc; cases hc
  rcases hx with hk | hk
  · refine wpAny_storeName_local hk hn (fun h' hn' hs => ?_) hcls
    obtain ⟨oL, _, _, hoL, _⟩ := id hn
    refine h _ ⟨I.ok, I.os, I.bare, ⟨fun b o e n hb hx => ?_, fun b o e n hb hx => ?_, I.base.free, fun b o e hx => ?_, I.base.tups, I.base.frzs, I.base.tbls⟩, ⟨_, hn', fun j y v' e1 e2 e3 => ?_⟩, fun y c e => ?_, I.free, I.freeC, fun p hp => ?_, tracked ⟨oL, hoL, I.free⟩ hs, by simpa using I.len⟩ ⟨_, hs, .inl rfl⟩
    · exact (hs.2 b (Nat.ne_of_lt (Nat.lt_of_lt_of_le (Heap.lt_size e) I.ok.above))).trans (I.base.keep b o e n hb hx)
    · obtain ⟨sl, e1⟩ := I.base.slot b o e n hb hx
      exact ⟨sl, (hs.2 b (Nat.ne_of_lt (Nat.lt_of_lt_of_le (Heap.lt_size e) I.ok.above))).trans e1⟩
    · obtain ⟨o', e1⟩ := I.base.there b o e hx
      exact ⟨o', (hs.2 b (Nat.ne_of_lt (Nat.lt_of_lt_of_le (Heap.lt_size e) I.ok.above))).trans e1⟩
    · by_cases hj : j = i
      · subst hj
        rw [hi] at e1; cases e1
        rw [List.getElem?_set_self hiσ] at e2
        cases e2
        exact ⟨u, r, .inl ⟨hk, by simp⟩⟩
      · rw [List.getElem?_set_ne (Ne.symm hj)] at e2
        obtain ⟨u', r', q⟩ := hl j y v' e1 e2 e3
        refine ⟨u', r', ?_⟩
        rcases q with ⟨k, e⟩ | ⟨k, c, e, z⟩
        · refine .inl ⟨k, ?_⟩
          have : y ≠ x := fun e => hj (nodup_ix hN e1 (e ▸ hi))
          simp [this, e]
        · exact .inr ⟨k, c, e, z.sameBut hs (cne y c e)⟩
    · obtain ⟨w', z⟩ := I.cell y c e
      exact ⟨w', z.sameBut hs (cne y c e)⟩
    · obtain ⟨e, n, ne, nf, d⟩ := I.pin p hp
      exact ⟨(hs.2 p.1 ne).trans e, n, ne, nf, d⟩
  · have hfn : X.fn x = true := by
      rcases hf with z | z
      · exact z
      · rw [z] at hk; cases hk
    obtain ⟨c, hc⟩ := I.ok.has x (.inl hk)
    obtain ⟨w', z⟩ := I.cell x c hc
    refine wpAny_storeName_cell I.ok.kind hk hc z (fun h' hc' hs => ?_)
    obtain ⟨oc, hoc, hocd⟩ := id z
    refine h { s with heap := h' } ⟨I.ok, I.os, I.bare, ⟨fun b o e n hb hx => ?_, fun b o e n hb hx => ?_, I.base.free, fun b o e hx => ?_, I.base.tups, I.base.frzs, I.base.tbls⟩, ⟨m, hn.sameBut hs (Ne.symm (cne x c hc)), fun j y v' e1 e2 e3 => ?_⟩, fun y c' e => ?_, I.free, I.freeC, fun p hp => ?_, tracked ⟨oc, hoc, I.freeC x c hc⟩ hs, by simpa using I.len⟩ ⟨c, hs, .inr hc⟩
    · exact (hs.2 b (Nat.ne_of_lt (Nat.lt_of_lt_of_le (Heap.lt_size e) (I.ok.cab x c hfn hc)))).trans (I.base.keep b o e n hb hx)
    · obtain ⟨sl, e1⟩ := I.base.slot b o e n hb hx
      exact ⟨sl, (hs.2 b (Nat.ne_of_lt (Nat.lt_of_lt_of_le (Heap.lt_size e) (I.ok.cab x c hfn hc)))).trans e1⟩
    · obtain ⟨o', e1⟩ := I.base.there b o e hx
      exact ⟨o', (hs.2 b (Nat.ne_of_lt (Nat.lt_of_lt_of_le (Heap.lt_size e) (I.ok.cab x c hfn hc)))).trans e1⟩
    · by_cases hj : j = i
      · subst hj
        rw [hi] at e1; cases e1
        rw [List.getElem?_set_self hiσ] at e2
        cases e2
        exact ⟨u, r, .inr ⟨.inl hk, c, hc, hc'⟩⟩
      · rw [List.getElem?_set_ne (Ne.symm hj)] at e2
        obtain ⟨u', r', q⟩ := hl j y v' e1 e2 e3
        refine ⟨u', r', ?_⟩
        rcases q with q | ⟨k, c', e, z'⟩
        · exact .inl q
        · refine .inr ⟨k, c', e, z'.sameBut hs ?_⟩
          rintro rfl
          exact hj (nodup_ix hN e1 (I.ok.inj _ _ _ e hc ▸ hi))
    · by_cases hcc : c' = c
      · subst hcc; exact ⟨_, hc'⟩
      · obtain ⟨w2, z2⟩ := I.cell y c' e
        exact ⟨w2, z2.sameBut hs hcc⟩
    · obtain ⟨e, n, ne, nf, d⟩ := I.pin p hp
      refine ⟨(hs.2 p.1 ?_).trans e, n, ne, nf, d⟩
      intro q
      rw [q, hoc] at e
      have q' : oc = p.2 := Option.some.inj e
      exact d w' (by rw [← q']; exact hocd)
theorem store_ok {M : Model} {A : Around} {E : Value → Shared → Prop} {i : Nat} {x : Str} {v : V} {u : Value} {Q : Unit → Shared → Prop} (I : Inv X pins σ H s) (hN : X.N.Nodup) (hi : X.N[i]? = some x) (hx : Loc X.env.scope x) (r : RelV v u)
    (h : ∀ s', Inv X pins (σ.set i (some v)) H s' → Q () s') (hf : X.fn x = true ∨ X.env.scope.names.lookup x = some .local := by first | exact .inl rfl | exact .inr rfl | assumption) : wpAny M A (storeName X.env x u) Q E s :=
  store_ok2 I hN hi hx r (fun s' I' _ => h s' I') hf
/-- behind a call or a block, the state as it is -/
theorem Inv.call' {s' : Shared} {ch : List Addr} (I : Inv X pins σ H s) (ho : s'.os = s.os) (u : Un (frs X.stack) ch H H' s.heap s'.heap) (hok : HOk X.prog X.w H' s'.heap) (hg : AllBare s'.gens)
    (hch : ∀ b ∈ ch, (b ∈ X.ex ∨ X.s₀.heap.objs.size ≤ b) ∧ b ≠ X.env.locals ∧ (∀ x c, X.env.cells.lookup x = some c → c ≠ b) ∧ ∀ p ∈ X.pn ++ pins, p.1 ≠ b) : Inv X pins σ H' s' := by
  obtain ⟨h', g', d', t', o'⟩ := s'
  have e : o' = s.os := ho
  subst e
  exact I.call (g' := g') (t' := t') (d' := d') u hok hg hch
end

/-! ### the judgements -/
/-- an exception: its class, its own dict's address (where it has one), the abstract heap behind it -/
abbrev XK := Value → Option Addr → Hp → Prop
abbrev St := List (Option V)
abbrev VK := V → Hp → Prop
/-- an expression's reading; a test's; an argument list's -/
abbrev TE := St → Hp → VK → Prop
abbrev TT := St → Hp → (Bool → Hp → Prop) → Prop
abbrev TA := St → Hp → (List V → Hp → Prop) → Prop
/-- what is wanted behind a statement -/
structure Ends where
  nx : St → Hp → Prop
  rt : VK
  bk : St → Hp → Prop := fun _ _ => False
  ct : St → Hp → Prop := fun _ _ => False
abbrev TS := Ends → St → Hp → Prop

def EP (X : Cx) (pins : List (Addr × Obj)) (σ : St) (Q : VK) (u : Value) (s' : Shared) : Prop := ∃ v H', Inv X pins σ H' s' ∧ RelV v u ∧ Q v H'
def TP (X : Cx) (pins : List (Addr × Obj)) (σ : St) (Q : Bool → Hp → Prop) (b : Bool) (s' : Shared) : Prop := ∃ H', Inv X pins σ H' s' ∧ Q b H'
def AP (X : Cx) (pins : List (Addr × Obj)) (σ : St) (Q : List V → Hp → Prop) (us : List Value) (s' : Shared) : Prop := ∃ vs H', Inv X pins σ H' s' ∧ Vals vs us ∧ Q vs H'
def SP (X : Cx) (pins : List (Addr × Obj)) (D : Ends) (f : Flow) (s' : Shared) : Prop :=
  match f with
  | .next => ∃ σ' H', Inv X pins σ' H' s' ∧ D.nx σ' H'
  | .brk => ∃ σ' H', Inv X pins σ' H' s' ∧ D.bk σ' H'
  | .cont => ∃ σ' H', Inv X pins σ' H' s' ∧ D.ct σ' H'
  | .ret u => ∃ v σ' H', Inv X pins σ' H' s' ∧ RelV v u ∧ D.rt v H'

def PE (X : Cx) (e : Expr) (t : TE) : Prop :=
  ∀ (pins : List (Addr × Obj)) (s : Shared) (σ : St) (H : Hp) (Q : VK), Inv X pins σ H s → t σ H Q → wpAny (model X.prog X.w) X.A (eval e X.env) (EP X pins σ Q) X.xe s
def PT (X : Cx) (e : Expr) (t : TT) : Prop :=
  ∀ (pins : List (Addr × Obj)) (s : Shared) (σ : St) (H : Hp) (Q : Bool → Hp → Prop), Inv X pins σ H s → t σ H Q → wpAny (model X.prog X.w) X.A (isTrue e X.env (eval e X.env)) (TP X pins σ Q) X.xe s
/-- a test whatever its 'whole' is (and, or) -/
def PW (X : Cx) (e : Expr) (t : TT) : Prop :=
  ∀ (whole : Sem Value) (pins : List (Addr × Obj)) (s : Shared) (σ : St) (H : Hp) (Q : Bool → Hp → Prop), Inv X pins σ H s → t σ H Q → wpAny (model X.prog X.w) X.A (isTrue e X.env whole) (TP X pins σ Q) X.xe s
theorem PW.pt {X : Cx} {e : Expr} {t : TT} (h : PW X e t) : PT X e t := h _
/-- an argument list (no star), from the left -/
def PA (X : Cx) (es : List Expr) (t : TA) : Prop :=
  ∀ (pos : Pos) (pins : List (Addr × Obj)) (s : Shared) (σ : St) (H : Hp) (Q : List V → Hp → Prop), Inv X pins σ H s → t σ H Q → wpAny (model X.prog X.w) X.A (spliced (backTo pos (starEach es X.env))) (AP X pins σ Q) X.xe s
def PS (X : Cx) (st : Stmt) (t : TS) : Prop :=
  ∀ (pins : List (Addr × Obj)) (s : Shared) (σ : St) (H : Hp) (D : Ends), Inv X pins σ H s → t D σ H → wpAny (model X.prog X.w) X.A (exec st X.env) (SP X pins D) X.xe s
def PSs (X : Cx) (st : List Stmt) (t : TS) : Prop :=
  ∀ (pins : List (Addr × Obj)) (s : Shared) (σ : St) (H : Hp) (D : Ends), Inv X pins σ H s → t D σ H → wpAny (model X.prog X.w) X.A (execs st X.env) (SP X pins D) X.xe s
/-- weaken the end -/
theorem thn {α : Type} {t : Sem α} {Q Q' : α → Shared → Prop} {M : Model} {A : Around} {E : Value → Shared → Prop} {s : Shared} (h : wpAny M A t Q E s) (hQ : ∀ a s, Q a s → Q' a s) : wpAny M A t Q' E s := wpAny_mono h hQ fun _ _ x => x
end L2

namespace L2
open PySem PySem.Spec PyProof.Rows
section
variable {X : Cx}


/-! ### names and constants -/
def tVar (i : Nat) : TE := fun σ H Q => ∃ v, σ[i]? = some (some v) ∧ Q v H
def tC (v : V) : TE := fun _ H Q => Q v H
theorem pe_var {i : Nat} {x : Str} {pos : Pos} (hN : X.N[i]? = some x) (hv : Vis X.env.scope x) (hd : (x == ("__debug__" : Str)) = false := by decide) (hcd : (x == ("__classdict__" : Str)) = false := by decide) : PE X (.Name x pos) (tVar i) := by
  intro pins s σ H Q I h
  obtain ⟨v, e, h⟩ := h
  obtain ⟨m, hn, hl⟩ := I.loc
  obtain ⟨u, r, l⟩ := hl i x v hN e hv
  have fin : EP X pins σ Q u s := ⟨v, H, I, r, h⟩
  rcases l with ⟨hk, hm⟩ | ⟨hk, c, hc, hcell⟩
  · exact wpAny_Name (wpAny_loadName_local I.ok.kind hk hn hm fin) hd
  · rcases hk with hk | hk
    · exact wpAny_Name (wpAny_loadName_cell I.ok.kind hk hc hcell fin) hd
    · exact wpAny_Name (wpAny_loadName_free I.ok.kind hk hc hcell fin hcd) hd
theorem pe_int {i j pos} : PE X (.Constant (.int i) j pos) (tC (.int i)) := fun _ _ _ H _ I h => wpAny_Constant_int ⟨.int i, H, I.tok _, ⟨_, rfl⟩, h⟩
theorem pe_bl {b j pos} : PE X (.Constant (.bool b) j pos) (tC (.bl b)) := fun _ _ _ H _ I h => Constant_bool ⟨.bl b, H, I, rfl, h⟩
theorem pe_non {j pos} : PE X (.Constant .none j pos) (tC .non) := fun _ _ _ H _ I h => Constant_none ⟨.non, H, I, rfl, h⟩
theorem pe_str {x j pos} : PE X (.Constant (.str x) j pos) (tC (.str x)) := fun _ _ _ H _ I h => Calls.Constant_str ⟨.str x, H, I.tok _, ⟨_, rfl⟩, h⟩

/-- a global name of the def -/
def Gl (X : Cx) (x : Str) : Prop := X.env.kindOf x = some .globalImplicit
theorem ld_glob {E : Value → Shared → Prop} {pins : List (Addr × Obj)} {s : Shared} {σ : St} {H : Hp} {x : Str} {u : Value} {pos : Pos} {Q : Value → Shared → Prop} (I : Inv X pins σ H s) (hg : Gl X x) (hm : X.mg x = some u) (h : Q u s)
    (hd : (x == ("__debug__" : Str)) = false := by decide) : wpAny (model X.prog X.w) X.A (eval (.Name x pos) X.env) Q E s :=
  Calls.Name_function_global I.ok.kind hg (Calls.loadGlobal_global (by rw [I.ok.glob]; exact I.mod.glob.keeps I.bk) hm h) hd
theorem ld_blt {E : Value → Shared → Prop} {pins : List (Addr × Obj)} {s : Shared} {σ : St} {H : Hp} {x : Str} {u : Value} {pos : Pos} {Q : Value → Shared → Prop} (I : Inv X pins σ H s) (hg : Gl X x) (hm : X.mg x = none) (hv : bootBuiltins x = some u) (h : Q u s)
    (hn : x ≠ "__name__" := by decide) (hd : (x == ("__debug__" : Str)) = false := by decide) : wpAny (model X.prog X.w) X.A (eval (.Name x pos) X.env) Q E s := by
  obtain ⟨mb, h1, h2⟩ := I.mod.blt
  exact Calls.Name_function_global I.ok.kind hg (Calls.loadGlobal_builtin (by rw [I.ok.glob]; exact I.mod.glob.keeps I.bk) hm (by rw [I.ok.blt]; exact h1.keeps I.bk) ((h2 x hn).trans hv) h) hd
/-- a module's constant, a class, a function, as a value -/
theorem pe_glob {x : Str} {v : V} {u : Value} {pos : Pos} (hg : Gl X x) (hm : X.mg x = some u) (r : RelV v u) (hd : (x == ("__debug__" : Str)) = false := by decide) : PE X (.Name x pos) (tC v) :=
  fun _ _ _ H _ I h => ld_glob I hg hm ⟨v, H, I, r, h⟩ hd
theorem pe_bltn {x : Str} {v : V} {u : Value} {pos : Pos} (hg : Gl X x) (hm : X.mg x = none) (hv : bootBuiltins x = some u) (r : RelV v u) (hn : x ≠ "__name__" := by decide) (hd : (x == ("__debug__" : Str)) = false := by decide) : PE X (.Name x pos) (tC v) :=
  fun _ _ _ H _ I h => ld_blt I hg hm hv ⟨v, H, I, r, h⟩ hn hd

/-! ### arithmetic -/
variable {a b : Expr} {ta tb : TE} {pos : Pos}

/-! ### comparisons -/

/-! ### and, or, not -/
variable {tA tB' : TT} {rest : List Expr}
def tAnd (t u : TT) : TT := fun σ H Q => t σ H fun c H1 => if c = true then u σ H1 Q else Q false H1
def tOr (t u : TT) : TT := fun σ H Q => t σ H fun c H1 => if c = true then Q true H1 else u σ H1 Q
def tNot (t : TT) : TT := fun σ H Q => t σ H fun c H1 => Q (!c) H1
theorem pw_and1 (ha : PT X a tA) : PW X (.BoolOp .And [a] pos) tA := by
  intro wh pins s σ H Q I h
  refine isTrue_and (thn (ha pins s σ H Q I h) fun c s1 e => ?_)
  cases c with
  | true => exact isTrue_and_nil e
  | false => exact e
theorem pw_or1 (ha : PT X a tA) : PW X (.BoolOp .Or [a] pos) tA := by
  intro wh pins s σ H Q I h
  refine isTrue_or (thn (ha pins s σ H Q I h) fun c s1 e => ?_)
  cases c with
  | false => exact isTrue_or_nil e
  | true => exact e
theorem pw_and (ha : PT X a tA) (hb : PW X (.BoolOp .And (b :: rest) pos) tB') : PW X (.BoolOp .And (a :: b :: rest) pos) (tAnd tA tB') := by
  intro wh pins s σ H Q I h
  refine isTrue_and (thn (ha pins s σ H _ I h) fun c s1 ⟨H1, I1, q1⟩ => ?_)
  cases c with
  | true => exact hb wh pins s1 σ H1 Q I1 q1
  | false => exact ⟨H1, I1, q1⟩
theorem pw_or (ha : PT X a tA) (hb : PW X (.BoolOp .Or (b :: rest) pos) tB') : PW X (.BoolOp .Or (a :: b :: rest) pos) (tOr tA tB') := by
  intro wh pins s σ H Q I h
  refine isTrue_or (thn (ha pins s σ H _ I h) fun c s1 ⟨H1, I1, q1⟩ => ?_)
  cases c with
  | true => exact ⟨H1, I1, q1⟩
  | false => exact hb wh pins s1 σ H1 Q I1 q1
theorem pt_not (ha : PT X a tA) : PT X (.UnaryOp .Not a pos) (tNot tA) := by
  intro pins s σ H Q I h
  exact isTrue_not (ha pins s σ H (fun c H1 => Q (!c) H1) I h)
/-- .. as values (bools) -/
def tAndV (ta tb : TE) : TE := fun σ H Q => ta σ H fun x H1 => ∃ c, x = .bl c ∧ if c = true then tb σ H1 Q else Q (.bl false) H1
def tOrV (ta tb : TE) : TE := fun σ H Q => ta σ H fun x H1 => ∃ c, x = .bl c ∧ if c = true then Q (.bl true) H1 else tb σ H1 Q
def tNotV (ta : TE) : TE := fun σ H Q => ta σ H fun x H1 => ∃ c, x = .bl c ∧ Q (.bl (!c)) H1
theorem pe_one {op} {t : TE} (h : PE X a t) : PE X (.BoolOp op [a] pos) t := fun pins s σ H Q I hw => BoolOp_one (h pins s σ H Q I hw)
theorem pe_and (ha : PE X a ta) (hb : PE X (.BoolOp .And (b :: rest) pos) tb) : PE X (.BoolOp .And (a :: b :: rest) pos) (tAndV ta tb) := by
  intro pins s σ H Q I h
  refine BoolOp_and (thn (ha pins s σ H _ I h) fun v s1 ⟨x, H1, I1, r1, q1⟩ => ?_)
  obtain ⟨c, rfl, q1⟩ := q1
  cases r1
  refine wpAny_truthy_bool ?_
  cases c with
  | true => exact hb pins s1 σ H1 Q I1 q1
  | false => exact ⟨.bl false, H1, I1, rfl, q1⟩
theorem pe_or (ha : PE X a ta) (hb : PE X (.BoolOp .Or (b :: rest) pos) tb) : PE X (.BoolOp .Or (a :: b :: rest) pos) (tOrV ta tb) := by
  intro pins s σ H Q I h
  refine BoolOp_or (thn (ha pins s σ H _ I h) fun v s1 ⟨x, H1, I1, r1, q1⟩ => ?_)
  obtain ⟨c, rfl, q1⟩ := q1
  cases r1
  refine wpAny_truthy_bool ?_
  cases c with
  | false => exact hb pins s1 σ H1 Q I1 q1
  | true => exact ⟨.bl true, H1, I1, rfl, q1⟩
theorem pe_not (ha : PE X a ta) : PE X (.UnaryOp .Not a pos) (tNotV ta) := by
  intro pins s σ H Q I h
  refine UnaryOp_ (thn (ha pins s σ H _ I h) fun v s1 ⟨x, H1, I1, r1, q1⟩ => ?_)
  obtain ⟨c, rfl, q1⟩ := q1
  cases r1
  exact not_of (wpAny_truthy_bool ⟨.bl (!c), H1, I1, rfl, q1⟩)
/-- a if t else b -/
def tIf (t : TT) (ta tb : TE) : TE := fun σ H Q => t σ H fun c H1 => if c = true then ta σ H1 Q else tb σ H1 Q
theorem pe_ifExp {c : Expr} (hc : PT X c tA) (ha : PE X a ta) (hb : PE X b tb) : PE X (.IfExp c a b pos) (tIf tA ta tb) := by
  intro pins s σ H Q I h
  refine wpAny_IfExp (thn (hc pins s σ H _ I h) fun d s1 ⟨H1, I1, q1⟩ => ?_)
  cases d with
  | true => exact ha pins s1 σ H1 Q I1 q1
  | false => exact hb pins s1 σ H1 Q I1 q1
end
end L2

namespace L2
open PySem PySem.Spec PyProof.Rows

/-! ### a list, a tuple that is read: tracked, frozen, or an object of the module -/
def SqL (K : PySem.W.Frag) (H : Hp) (a : Addr) (xs : List V) : Prop :=
  Rd H a (.lst xs) ∨
    ∃ (o : Obj) (its : Array Value) (n : Nat), K.lookup a = some o ∧ o.cls = .type "list" ∧ o.dict = none ∧ o.data = .seq its n ∧ its.size ≤ sizeLine ∧ Vals xs its.toList
def SqT (K : PySem.W.Frag) (H : Hp) (a : Addr) (xs : List V) : Prop :=
  Rd H a (.tup xs) ∨
    ∃ (o : Obj) (its : Array Value) (n : Nat), K.lookup a = some o ∧ o.cls = .type "tuple" ∧ o.data = .seq its n ∧ its.size ≤ sizeLine ∧ Vals xs its.toList
def absV : Value → Option V
  | .none => some .non
  | .bool b => some (.bl b)
  | .int i _ => some (.int i)
  | .str x _ => some (.str x)
  | .bytes b _ => some (.byt b)
  | .float b _ => some (.flt b)
  | .ref a => some (.ref a)
  | .type n => some (.ty n)
  | _ => none
theorem RelV.abs {x : V} {u : Value} (r : RelV x u) : absV u = some x := by
  cases x with
  | non => cases r; rfl
  | bl _ => cases r; rfl
  | int _ => obtain ⟨t, rfl⟩ := r; rfl
  | str _ => obtain ⟨t, rfl⟩ := r; rfl
  | byt _ => obtain ⟨t, rfl⟩ := r; rfl
  | flt _ => obtain ⟨t, rfl⟩ := r; rfl
  | ref _ => cases r; rfl
  | ty _ => cases r; rfl
theorem RelV.inj {x y : V} {u : Value} (r : RelV x u) (q : RelV y u) : x = y := Option.some.inj (r.abs.symm.trans q.abs)
theorem Vals.inj : ∀ {xs ys : List V} {us : List Value}, Vals xs us → Vals ys us → xs = ys
  | _, _, _, .nil, .nil => rfl
  | _, _, _, .cons r t, .cons r' t' => by rw [r.inj r', Vals.inj t t']
section
variable {X : Cx} {pins : List (Addr × Obj)} {σ : St} {H : Hp} {s : Shared} {a : Addr} {xs ys : List V}
theorem SqL.of {K : PySem.W.Frag} (h : H a = some (.lst xs)) : SqL K H a xs := .inl (.inl h)
theorem SqT.of {K : PySem.W.Frag} (h : H a = some (.tup xs)) : SqT K H a xs := .inl (.inl h)
theorem Inv.list (I : Inv X pins σ H s) (h : SqL X.K H a xs) : ∃ its : List Value, Vals xs its ∧ PlainL s.heap a its.toArray ∧ xs.length ≤ sizeLine := by
  rcases h with h | ⟨o, its, n, hk, hc, hd, hs, hz, r⟩
  · obtain ⟨z, its, n, r, e⟩ := h.ok I.hok
    exact ⟨its, r, ⟨_, n, e, rfl, rfl, rfl⟩, z⟩
  · refine ⟨its.toList, r, ⟨o, n, I.kIn a o hk, hc, hd, by simpa using hs⟩, ?_⟩
    have e := r.length
    simp only [Array.length_toList] at e
    omega
theorem Inv.tuple (I : Inv X pins σ H s) (h : SqT X.K H a xs) : ∃ its : List Value, Vals xs its ∧ IsTup s.heap a its.toArray ∧ xs.length ≤ sizeLine := by
  rcases h with h | ⟨o, its, n, hk, hc, hs, hz, r⟩
  · obtain ⟨z, its, r, p⟩ := h.ok I.hok
    exact ⟨its, r, p, z⟩
  · refine ⟨its.toList, r, ⟨o, I.kIn a o hk, hc, n, by simpa using hs⟩, ?_⟩
    have e := r.length
    simp only [Array.length_toList] at e
    omega
theorem Inv.list_inj (I : Inv X pins σ H s) (h : SqL X.K H a xs) (h' : SqL X.K H a ys) : xs = ys := by
  obtain ⟨its, r, ⟨o, n, e, _, _, d⟩, _⟩ := I.list h
  obtain ⟨its', r', ⟨o', n', e', _, _, d'⟩, _⟩ := I.list h'
  rw [e] at e'; cases e'
  rw [d] at d'
  injection d' with d1 _
  have : its = its' := by simpa using congrArg Array.toList d1
  subst this
  exact r.inj r'
theorem Inv.tuple_inj (I : Inv X pins σ H s) (h : SqT X.K H a xs) (h' : SqT X.K H a ys) : xs = ys := by
  obtain ⟨its, r, ⟨o, e, _, n, d⟩, _⟩ := I.tuple h
  obtain ⟨its', r', ⟨o', e', _, n', d'⟩, _⟩ := I.tuple h'
  rw [e] at e'; cases e'
  rw [d] at d'
  injection d' with d1 _
  have : its = its' := by simpa using congrArg Array.toList d1
  subst this
  exact r.inj r'
end

/-! ### another wish about exceptions -/
abbrev Cx.wish (X : Cx) (E : Value → Shared → Prop) : Cx := { X with xe := E }
/-- no exception leaves -/
abbrev Cx.nox (X : Cx) : Cx := X.wish fun _ _ => False
theorem Cx.Ok.wish {X : Cx} (ok : X.Ok) (E : Value → Shared → Prop) : (X.wish E).Ok :=
  ⟨ok.mod, ok.kind, ok.glob, ok.blt, ok.above, ok.inj, ok.has, ok.cab, ok.hd, ok.frames, ok.stk, ok.exf, ok.bs, ok.bsz, ok.noex, ok.exfs, ok.funs, ok.frf⟩
theorem Cx.Ok.unwish {X : Cx} {E : Value → Shared → Prop} (ok : (X.wish E).Ok) : X.Ok :=
  ⟨ok.mod, ok.kind, ok.glob, ok.blt, ok.above, ok.inj, ok.has, ok.cab, ok.hd, ok.frames, ok.stk, ok.exf, ok.bs, ok.bsz, ok.noex, ok.exfs, ok.funs, ok.frf⟩
section
variable {X : Cx} {pins : List (Addr × Obj)} {σ : St} {H : Hp} {s : Shared} {E : Value → Shared → Prop}
theorem Inv.wish (I : Inv X pins σ H s) (E : Value → Shared → Prop) : Inv (X.wish E) pins σ H s := ⟨I.ok.wish E, I.os, I.bare, I.base, I.loc, I.cell, I.free, I.freeC, I.pin, I.hok, I.len⟩
theorem Inv.unwish (I : Inv (X.wish E) pins σ H s) : Inv X pins σ H s := ⟨I.ok.unwish, I.os, I.bare, I.base, I.loc, I.cell, I.free, I.freeC, I.pin, I.hok, I.len⟩
theorem SP.unwish {D : Ends} {f : Flow} {s' : Shared} (h : SP (X.wish E) pins D f s') : SP X pins D f s' := by
  cases f with
  | next => obtain ⟨σ', H', I, q⟩ := h; exact ⟨σ', H', I.unwish, q⟩
  | brk => obtain ⟨σ', H', I, q⟩ := h; exact ⟨σ', H', I.unwish, q⟩
  | cont => obtain ⟨σ', H', I, q⟩ := h; exact ⟨σ', H', I.unwish, q⟩
  | ret u => obtain ⟨v, σ', H', I, r, q⟩ := h; exact ⟨v, σ', H', I.unwish, r, q⟩
theorem PSs.nox {st : List Stmt} {t : TS} (h : PSs X.nox st t) : PSs X st t := fun pins s σ H D I hw =>
  wpAny_mono (h pins s σ H D (I.wish _) hw) (fun _ _ q => q.unwish) fun _ _ z => False.elim z
end

/-! ### blocks and small statements -/
section
variable {X : Cx} {st : Stmt} {rest : List Stmt} {t u : TS} {e : Expr} {te : TE} {pos : Pos}
def tNext : TS := fun D σ H => D.nx σ H
def tSeq (t u : TS) : TS := fun D σ H => t { D with nx := u D } σ H
theorem pss_nil : PSs X [] tNext := fun _ _ σ H _ I h => wpAny_execs_nil ⟨σ, H, I, h⟩
theorem pss_cons (h1 : PS X st t) (h2 : PSs X rest u) : PSs X (st :: rest) (tSeq t u) := by
  intro pins s σ H D I h
  refine wpAny_execs_cons (thn (h1 pins s σ H { D with nx := u D } I h) fun f s1 q => ?_)
  cases f with
  | next =>
    obtain ⟨σ', H', I', q⟩ := q
    exact h2 pins s1 σ' H' D I' q
  | ret v => exact q
  | brk => exact q
  | cont => exact q
theorem pss_one (h1 : PS X st t) : PSs X [st] t := by
  intro pins s σ H D I h
  refine wpAny_execs_cons (thn (h1 pins s σ H D I h) fun f s1 q => ?_)
  cases f with
  | next => exact wpAny_execs_nil q
  | ret v => exact q
  | brk => exact q
  | cont => exact q
def tBreak : TS := fun D σ H => D.bk σ H
theorem ps_break : PS X (.Break pos) tBreak := fun _ _ σ H _ I h => wpAny_Break ⟨σ, H, I, h⟩
/-- in a def's body nothing is shown -/
theorem Inv.quiet {pins : List (Addr × Obj)} {σ : St} {H : Hp} {s : Shared} (I : Inv X pins σ H s) : interactive X.env = false := by simp [interactive, I.ok.kind]
/-- an expression whose value is dropped -/
def tDrop (te : TE) : TS := fun D σ H => te σ H fun _ H1 => D.nx σ H1
theorem ps_expr (he : PE X e te) (hs : swapsWith e none pos.line X.env = pure false := by rfl) : PS X (.Expr e pos) (tDrop te) := by
  intro pins s σ H D I h
  exact wpAny_Expr_any (thn (he pins s σ H _ I h) fun v s1 ⟨x, H1, I1, r1, q1⟩ => ⟨σ, H1, I1, q1⟩) I.quiet hs
def tRet (te : TE) : TS := fun D σ H => te σ H D.rt
theorem ps_ret (he : PE X e te) : PS X (.Return (some e) pos) (tRet te) := by
  intro pins s σ H D I h
  exact wpAny_Return_some (thn (he pins s σ H _ I h) fun v s1 ⟨x, H1, I1, r1, q1⟩ => ⟨x, σ, H1, I1, r1, q1⟩)
def tIfS (c : TT) (t u : TS) : TS := fun D σ H => c σ H fun b H1 => if b = true then t D σ H1 else u D σ H1
theorem ps_if {c : Expr} {a b : List Stmt} {tc : TT} (hc : PT X c tc) (ha : PSs X a t) (hb : PSs X b u) : PS X (.If c a b pos) (tIfS tc t u) := by
  intro pins s σ H D I h
  refine wpAny_If (thn (hc pins s σ H _ I h) fun d s1 ⟨H1, I1, q1⟩ => ?_)
  cases d with
  | true => exact ha pins s1 σ H1 D I1 q1
  | false => exact hb pins s1 σ H1 D I1 q1
/-- code that the proof never comes to -/
def tNever : TS := fun _ _ _ => False
theorem ps_never : PS X st tNever := fun _ _ _ _ _ _ h => h.elim
theorem pss_never {sts : List Stmt} : PSs X sts tNever := fun _ _ _ _ _ _ h => h.elim
end

/-! ### targets -/
abbrev TG := V → St → Hp → (St → Hp → Prop) → Prop
abbrev TGs := List V → St → Hp → (St → Hp → Prop) → Prop
def PG (X : Cx) (target : Expr) (t : TG) : Prop :=
  ∀ (pins : List (Addr × Obj)) (s : Shared) (σ : St) (H : Hp) (v : V) (u : Value) (Q : St → Hp → Prop), Inv X pins σ H s → RelV v u → t v σ H Q →
    wpAny (model X.prog X.w) X.A (assign target X.env u) (fun _ s' => ∃ σ' H', Inv X pins σ' H' s' ∧ Q σ' H') X.xe s
/-- several targets, one after another -/
def PGs (X : Cx) (ts : List Expr) (t : TGs) : Prop :=
  ∀ (pins : List (Addr × Obj)) (s : Shared) (σ : St) (H : Hp) (vs : List V) (us : List Value) (Q : St → Hp → Prop), Inv X pins σ H s → Vals vs us → t vs σ H Q →
    wpAny (model X.prog X.w) X.A (assignInOrder ((assignEach ts X.env).map (·.2)) us) (fun _ s' => ∃ σ' H', Inv X pins σ' H' s' ∧ Q σ' H') X.xe s
/-- o[i] = v, by values -/
abbrev TSet := V → V → V → Hp → (Hp → Prop) → Prop
def PSet (X : Cx) (t : TSet) : Prop :=
  ∀ (pins : List (Addr × Obj)) (s : Shared) (σ : St) (H : Hp) (o i v : V) (ov iv u : Value) (Q : Hp → Prop), Inv X pins σ H s → RelV o ov → RelV i iv → RelV v u → t o i v H Q →
    wpAny (model X.prog X.w) X.A (setItem ov iv u) (fun _ s' => ∃ H', Inv X pins σ H' s' ∧ Q H') X.xe s
section
variable {X : Cx} {pos : Pos}
def gName (i : Nat) : TG := fun v σ H Q => Q (σ.set i (some v)) H
theorem pg_name {i : Nat} {x : Str} (hN : X.N.Nodup) (hi : X.N[i]? = some x) (hx : Loc X.env.scope x) (hf : X.fn x = true ∨ X.env.scope.names.lookup x = some .local := by first | exact .inl rfl | exact .inr rfl | assumption) : PG X (.Name x pos) (gName i) := by
  intro pins s σ H v u Q I r h
  exact wpAny_assign_Name (store_ok I hN hi hx r (fun s' I' => ⟨_, H, I', h⟩) hf)
def gNil : TGs := fun vs σ H Q => vs = [] ∧ Q σ H
def gCons (t : TG) (u : TGs) : TGs := fun vs σ H Q => ∃ v r, vs = v :: r ∧ t v σ H fun σ' H' => u r σ' H' Q
theorem pgs_nil : PGs X [] gNil := by
  intro pins s σ H vs us Q I r h
  obtain ⟨e, h⟩ := h
  subst e
  cases r
  exact assignInOrder_nil ⟨σ, H, I, h⟩
theorem pgs_cons {e : Expr} {es : List Expr} {t : TG} {u : TGs} (h1 : PG X e t) (h2 : PGs X es u)
    (hs : (assignEach (e :: es) X.env).map (·.2) = assign e X.env :: (assignEach es X.env).map (·.2) := by rfl) : PGs X (e :: es) (gCons t u) := by
  intro pins s σ H vs us Q I r h
  obtain ⟨v, vr, e1, h⟩ := h
  subst e1
  cases r with
  | cons r rr =>
    rw [hs]
    refine assignInOrder_cons (thn (h1 pins s σ H _ _ _ I r h) fun _ s1 ⟨σ1, H1, I1, q1⟩ => ?_)
    exact h2 pins s1 σ1 H1 _ _ Q I1 rr q1
/-- (a, b, ..) = a tuple of that length -/
def gTup (K : PySem.W.Frag) (n : Nat) (t : TGs) : TG := fun v σ H Q => ∃ a xs, v = .ref a ∧ SqT K H a xs ∧ xs.length = n ∧ t xs σ H Q
theorem pg_tup {es : List Expr} {k : Nat} {t : TGs} {n : Nat} (hc : X.calm = true) (h : PGs X es t)
    (hn : (assignEach es X.env).length = n := by rfl) (hst : (assignEach es X.env).findIdx? (·.1) = none := by rfl) : PG X (.Tuple es k pos) (gTup X.K n t) := by
  intro pins s σ H v u Q I r hw
  obtain ⟨a, xs, e1, hq, hl, hw⟩ := hw
  subst e1
  cases r
  obtain ⟨its, rv, ht, hz⟩ := I.tuple hq
  refine assign_Tuple_tuple (I.ok.hd hc) ht (by simp [hn, ← hl, rv.length]) hst fun h' hx => ?_
  have I1 : Inv X pins σ H { s with heap := h' } := I.kept (t' := s.toks) fun b o e => hx b o (Nat.ne_of_lt (Heap.lt_size e)) e
  exact h pins _ σ H xs _ Q I1 (by simpa using rv) hw
/-- o[i] = .. -/
def gSub (to ti : TE) (t : TSet) : TG := fun v σ H Q => to σ H fun o H1 => ti σ H1 fun i H2 => t o i v H2 fun H3 => Q σ H3
theorem pg_sub {o i : Expr} {to ti : TE} {t : TSet} (ho : PE X o to) (hi : PE X i ti) (hs : PSet X t)
    (ha : ∀ v, assign (.Subscript o i pos) X.env v = (do
      let ov ← holding [v] (eval o X.env)
      let iv ← holding [v, ov] (eval i X.env)
      standAt pos
      holding [v, ov, iv] (setItem ov iv v)
      release [v, ov, iv] []) := by intro _; rfl) : PG X (.Subscript o i pos) (gSub to ti t) := by
  intro pins s σ H v u Q I r h
  rw [ha]
  refine wpAny_bind (wpAny_holding (thn (ho pins s σ H _ I h) fun ov s1 ⟨x, H1, I1, r1, q1⟩ => ?_))
  refine wpAny_bind (wpAny_holding (thn (hi pins s1 σ H1 _ I1 q1) fun iv s2 ⟨y, H2, I2, r2, q2⟩ => ?_))
  refine wpAny_bind (wpAny_standAt (wpAny_bind (wpAny_holding (thn (hs pins s2 σ H2 x y v ov iv u _ I2 r1 r2 r q2) fun _ s3 ⟨H3, I3, q3⟩ => ?_))))
  exact wpAny_release ⟨σ, H3, I3, q3⟩
/-- target = value -/
def tAsg (te : TE) (g : TG) : TS := fun D σ H => te σ H fun x H1 => g x σ H1 D.nx
theorem ps_asg {tg e : Expr} {te : TE} {g : TG} (he : PE X e te) (hg : PG X tg g) (hs : swapsWithSole [tg] e pos.line X.env = pure false := by rfl) (hw : swappedStores [tg] e X.env = pure none := by rfl)
    (h1 : (assignEach [tg] X.env).map (·.2) = [assign tg X.env] := by rfl) : PS X (.Assign [tg] e pos) (tAsg te g) := by
  intro pins s σ H D I h
  refine wpAny_Assign_stores (thn (he pins s σ H _ I h) fun v s1 ⟨x, H1, I1, r1, q1⟩ => ?_) hs hw
  rw [h1]
  exact thn (hg pins s1 σ H1 x v _ I1 r1 q1) fun _ s2 q => q
/-- name = value -/
theorem ps_set {i : Nat} {x : Str} {e : Expr} {te : TE} {pos' : Pos} (hN : X.N.Nodup) (hi : X.N[i]? = some x) (hx : Loc X.env.scope x) (he : PE X e te) (hs : swapsWith e (some (.Name x pos')) pos.line X.env = pure false := by rfl) (hf : X.fn x = true ∨ X.env.scope.names.lookup x = some .local := by first | exact .inl rfl | exact .inr rfl | assumption) :
    PS X (.Assign [.Name x pos'] e pos) (tAsg te (gName i)) := by
  intro pins s σ H D I h
  refine wpAny_Assign_Name (thn (he pins s σ H _ I h) fun v s1 ⟨y, H1, I1, r1, q1⟩ => ?_) hs
  exact store_ok I1 hN hi hx r1 (fun s2 I2 => ⟨_, H1, I2, q1⟩) hf
end

/-! ### while -/
section
variable {X : Cx} {pos : Pos}
end

/-! ### what a loop or a comprehension walks -/
/-- at turn i: it yields x (the heap may grow), or it stops -/
structure It where
  go : Nat → Hp → Prop
  yld : Nat → Hp → V → Hp → Prop
  stop : Nat → Hp → Prop
/-- the iterator's own objects may turn: they are not the frame's, not pinned, younger than the entry (or a comprehension's own) -/
def FpOk (X : Cx) (pins : List (Addr × Obj)) (H : Hp) (b : Addr) : Prop :=
  H b = none ∧ b ≠ X.env.locals ∧ b ∉ X.fs ∧ (b ∈ X.ex ∨ X.s₀.heap.objs.size ≤ b) ∧ (∀ x c, X.env.cells.lookup x = some c → c ≠ b) ∧ ∀ p ∈ X.pn ++ pins, p.1 ≠ b
theorem Inv.fpOk {X : Cx} {pins : List (Addr × Obj)} {σ : St} {H H' : Hp} {s : Shared} {b : Addr} (I : Inv X pins σ H s) (hb : s.heap.objs.size ≤ b) (hn : H' b = none) : FpOk X pins H' b := by
  refine ⟨hn, Nat.ne_of_gt (Nat.lt_of_lt_of_le I.lt hb), I.nofs hb, .inr (Nat.le_trans I.sz hb), fun x c e z => ?_, fun p hp z => ?_⟩
  · obtain ⟨v, q⟩ := I.cell x c e
    exact absurd (Nat.lt_of_lt_of_le q.lt (by rw [z]; exact hb)) (Nat.lt_irrefl _)
  · exact absurd (Nat.lt_of_lt_of_le (Heap.lt_size (I.pin p hp).1) (by rw [z]; exact hb)) (Nat.lt_irrefl _)
structure Turn (P : Program) (w : World) (K : PySem.W.Frag) (tg : Expr) (J : It) (fp : List Addr) (it : Addr) (tn : Nat → Heap → Prop) : Prop where
  mem : it ∈ fp
  obj : ∀ i h, tn i h → ∀ b ∈ fp, ∃ o, h.get? b = some o ∧ ∀ v, o.data ≠ .cell v
  keep : ∀ i h h', tn i h → (∀ b ∈ fp, ∀ o, h.get? b = some o → h'.get? b = some o) → tn i h'
  item : ∀ (X : Cx), X.prog = P → X.w = w → X.K = K → X.calm = true → ∀ (i : Nat) (pins : List (Addr × Obj)) (s : Shared) (σ : St) (H : Hp) (E : Value → Shared → Prop), Inv X pins σ H s → (∀ b ∈ fp, FpOk X pins H b) → tn i s.heap → J.go i H →
    wpAny (model P w) X.A (pyNext (.ref it)) (fun r s1 => ∃ u, r = some u ∧
      wpAny (model P w) X.A (letOwnedTupleGo tg (.ref it) u) (fun _ s2 => ∃ x H', Inv X pins σ H' s2 ∧ RelV x u ∧ J.yld i H x H' ∧ tn (i + 1) s2.heap ∧ ∀ b ∈ fp, H' b = none) E s1) E s
  done : ∀ (X : Cx), X.prog = P → X.w = w → X.K = K → X.calm = true → ∀ (i : Nat) (pins : List (Addr × Obj)) (s : Shared) (σ : St) (H : Hp) (E : Value → Shared → Prop), Inv X pins σ H s → (∀ b ∈ fp, FpOk X pins H b) → tn i s.heap → J.stop i H →
    wpAny (model P w) X.A (pyNext (.ref it)) (fun r s1 => r = none ∧ Inv X pins σ H s1) E s
  self : ∀ (A : Around) (i : Nat) (s : Shared) (Q : Value → Shared → Prop) (E : Value → Shared → Prop), tn i s.heap → Q (.ref it) s → wpAny (model P w) A (pyIter (.ref it)) Q E s
abbrev TI := St → Hp → (It → Hp → Prop) → Prop
/-- an iterator has come -/
def PIE (X : Cx) (pins : List (Addr × Obj)) (σ : St) (tg : Expr) (R : It → Hp → Prop) (itv : Value) (s2 : Shared) : Prop :=
  ∃ (it : Addr) (fp : List Addr) (tn : Nat → Heap → Prop) (J : It) (H' : Hp), itv = .ref it ∧ Inv X pins σ H' s2 ∧ Turn X.prog X.w X.K tg J fp it tn ∧ tn 0 s2.heap ∧ (∀ b ∈ fp, FpOk X pins H' b) ∧ R J H'
def PI (X : Cx) (tg iter : Expr) (wi : TI) : Prop :=
  ∀ (pins : List (Addr × Obj)) (s : Shared) (σ : St) (H : Hp) (R : It → Hp → Prop), Inv X pins σ H s → wi σ H R →
    wpAny (model X.prog X.w) X.A (eval iter X.env) (fun v s1 => wpAny (model X.prog X.w) X.A (pyIter v) (PIE X pins σ tg R) X.xe s1) X.xe s

/-- the step ahead of the store is nothing for an iterator that keeps no tuple -/
theorem go_of {M : Model} {A : Around} {E : Value → Shared → Prop} {s : Shared} {tg : Expr} {it : Addr} {u : Value} {o : Obj} {n : String} {vs : Array Value} {Q : Unit → Shared → Prop} (ho : s.heap.get? it = some o) (hc : o.cls = .type n) (hd : o.data = .fields vs)
    (hn : ["enumerate", "zip", "dict_itemiterator", "dict_reverseitemiterator", "odict_iterator", "itertools.zip_longest", "itertools.pairwise"].contains n = false) (hQ : Q () s) : wpAny M A (letOwnedTupleGo tg (.ref it) u) Q E s := by
  unfold letOwnedTupleGo
  cases tg <;> first
    | exact wpAny_pure hQ
    | (cases u <;> first
        | exact wpAny_pure hQ
        | (refine wpAny_bind (wpAny_load ho ?_)
           rw [hc, hd]
           show wpAny M A (if (["enumerate", "zip", "dict_itemiterator", "dict_reverseitemiterator", "odict_iterator", "itertools.zip_longest", "itertools.pairwise"].contains n && vs[0]? == some (rawInt _)) = true then _ else _) Q E s
           rw [if_neg (by intro h; rw [hn, Bool.false_and] at h; cases h)]
           exact wpAny_pure hQ))

/-- the list at a, as it stands at each turn (a loop may append to it) -/
def Itl (K : PySem.W.Frag) (a : Addr) : It :=
  ⟨fun i H => ∃ xs x, SqL K H a xs ∧ xs[i]? = some x, fun i H x H' => H' = H ∧ ∀ xs, SqL K H a xs → xs[i]? = some x, fun i H => ∃ xs, SqL K H a xs ∧ xs.length ≤ i⟩
def Itt (K : PySem.W.Frag) (a : Addr) : It :=
  ⟨fun i H => ∃ xs x, SqT K H a xs ∧ xs[i]? = some x, fun i H x H' => H' = H ∧ ∀ xs, SqT K H a xs → xs[i]? = some x, fun i H => ∃ xs, SqT K H a xs ∧ xs.length ≤ i⟩
/-- lo, lo + 1, .. (n of them) -/
def Itr (lo : Int) (n : Nat) : It := ⟨fun i _ => i < n, fun i H x H' => H' = H ∧ x = .int (lo + i), fun i _ => n ≤ i⟩
theorem turn_list {P : Program} {w : World} {K : PySem.W.Frag} {tg : Expr} (a it : Addr) : Turn P w K tg (Itl K a) [it] it (fun i h => h.IsListIter it a i) where
  mem := by simp
  obj := fun i h st b hb => by
    have e : b = it := by simpa using hb
    subst e
    obtain ⟨o, e, c, d⟩ := st
    exact ⟨o, e, fun v z => by rw [d] at z; cases z⟩
  keep := fun i h h' st k => st.at fun o e => k it (by simp) o e
  item := by
    intro X hP hw hK hc i pins s σ H E I hf st hg
    subst hP hw hK
    obtain ⟨xs, x, hq, hx⟩ := hg
    obtain ⟨its, rv, p, hz⟩ := I.list hq
    obtain ⟨u, hu, ru⟩ := rv.get hx
    obtain ⟨f0, f1, f2, f3, f4, f5⟩ := hf it (by simp)
    refine wpAny_pyNext_list_item st p.isList (x := u) (by simpa using hu) fun h' st' sb => ?_
    have I1 : Inv X pins σ H { s with heap := h' } := I.turned (t' := s.toks) (fun b o hb e => (sb.2 b hb).trans e) f0 f1 f3 f4 f5
    obtain ⟨o, e, c, d⟩ := id st'
    exact ⟨u, rfl, go_of (s := { s with heap := h' }) e c d (by decide) ⟨x, H, I1, ru, ⟨rfl, fun ys hy => by rw [I.list_inj hy hq]; exact hx⟩, st', fun b hb => (hf b hb).1⟩⟩
  done := by
    intro X hP hw hK hc i pins s σ H E I hf st hg
    subst hP hw hK
    obtain ⟨xs, hq, hx⟩ := hg
    obtain ⟨its, rv, p, hz⟩ := I.list hq
    obtain ⟨f0, f1, f2, f3, f4, f5⟩ := hf it (by simp)
    have hl := rv.length
    exact wpAny_pyNext_list_end (I.ok.hd hc) st p.isList (by simp; omega) fun h' eb => ⟨rfl, I.turned (t' := s.toks) (fun b o hb e => eb b o hb e) f0 f1 f3 f4 f5⟩
  self := fun _ _ _ _ _ st h => wpAny_pyIter_listiter st h
theorem turn_tuple {P : Program} {w : World} {K : PySem.W.Frag} {tg : Expr} (a it : Addr) : Turn P w K tg (Itt K a) [it] it (fun i h => h.IsTupleIter it a i) where
  mem := by simp
  obj := fun i h st b hb => by
    have e : b = it := by simpa using hb
    subst e
    obtain ⟨o, e, c, d⟩ := st
    exact ⟨o, e, fun v z => by rw [d] at z; cases z⟩
  keep := fun i h h' st k => st.at fun o e => k it (by simp) o e
  item := by
    intro X hP hw hK hc i pins s σ H E I hf st hg
    subst hP hw hK
    obtain ⟨xs, x, hq, hx⟩ := hg
    obtain ⟨its, rv, p, hz⟩ := I.tuple hq
    obtain ⟨u, hu, ru⟩ := rv.get hx
    obtain ⟨f0, f1, f2, f3, f4, f5⟩ := hf it (by simp)
    refine wpAny_pyNext_tuple_item st (show s.heap.IsTuple a its.toArray from p) (x := u) (by simpa using hu) fun h' st' sb => ?_
    have I1 : Inv X pins σ H { s with heap := h' } := I.turned (t' := s.toks) (fun b o hb e => (sb.2 b hb).trans e) f0 f1 f3 f4 f5
    obtain ⟨o, e, c, d⟩ := id st'
    exact ⟨u, rfl, go_of (s := { s with heap := h' }) e c d (by decide) ⟨x, H, I1, ru, ⟨rfl, fun ys hy => by rw [I.tuple_inj hy hq]; exact hx⟩, st', fun b hb => (hf b hb).1⟩⟩
  done := by
    intro X hP hw hK hc i pins s σ H E I hf st hg
    subst hP hw hK
    obtain ⟨xs, hq, hx⟩ := hg
    obtain ⟨its, rv, p, hz⟩ := I.tuple hq
    obtain ⟨f0, f1, f2, f3, f4, f5⟩ := hf it (by simp)
    have hl := rv.length
    exact wpAny_pyNext_tuple_end (I.ok.hd hc) st (show s.heap.IsTuple a its.toArray from p) (by simp; omega) fun h' eb => ⟨rfl, I.turned (t' := s.toks) (fun b o hb e => eb b o hb e) f0 f1 f3 f4 f5⟩
  self := fun _ _ _ _ _ st h => wpAny_pyIter_tupleiter st h
theorem turn_range {P : Program} {w : World} {K : PySem.W.Frag} {tg : Expr} (it : Addr) (lo : Int) (n : Nat) : Turn P w K tg (Itr lo n) [it] it (fun i h => IsRangeIter h it (lo + (i : Nat) * 1) ((n : Int) - (i : Nat)) 1) where
  mem := by simp
  obj := fun i h st b hb => by
    have e : b = it := by simpa using hb
    subst e
    exact ⟨_, st, fun v z => by
      have z' : Data.fields _ = Data.cell v := z
      cases z'⟩
  keep := fun i h h' st k => k it (by simp) _ st
  item := by
    intro X hP hw hK hc i pins s σ H E I hf st hg
    subst hP hw hK
    obtain ⟨f0, f1, f2, f3, f4, f5⟩ := hf it (by simp)
    have W := Walks.range (prog := X.prog) (w := X.w) (I.ok.hd hc) it lo 1 n
    refine W.item i s _ _ hg st fun v h' tk hv st' kk => ?_
    obtain ⟨t, rfl⟩ := hv
    have I1 : Inv X pins σ H { s with heap := h', toks := tk } := I.turned (fun b o hb e => kk b o (by simpa using hb) e) f0 f1 f3 f4 f5
    refine ⟨_, rfl, go_of (s := { s with heap := h', toks := tk }) (n := "range_iterator") st' rfl rfl (by decide) ⟨.int (lo + i), H, I1, ⟨t, ?_⟩, ⟨rfl, rfl⟩, st', fun b hb => (hf b hb).1⟩⟩
    rw [Int.mul_one]
  done := by
    intro X hP hw hK hc i pins s σ H E I hf st hg
    subst hP hw hK
    obtain ⟨f0, f1, f2, f3, f4, f5⟩ := hf it (by simp)
    exact wpAny_pyNext_range_end (I.ok.hd hc) st (by have : n ≤ i := hg; omega) fun h' eb => ⟨rfl, I.turned (t' := s.toks) (fun b o hb e => eb b o hb e) f0 f1 f3 f4 f5⟩
  self := fun _ _ _ _ _ st h => wpAny_pyIter_rangeiter st h
end L2

namespace L2
open PySem PySem.Spec PyProof.Rows
section
variable {X : Cx} {tg : Expr}
def iList (K : PySem.W.Frag) (tl : TE) : TI := fun σ H R => tl σ H fun x H1 => ∃ a, x = .ref a ∧ (∃ xs, SqL K H1 a xs) ∧ R (Itl K a) H1
def iTup (K : PySem.W.Frag) (tl : TE) : TI := fun σ H R => tl σ H fun x H1 => ∃ a, x = .ref a ∧ (∃ xs, SqT K H1 a xs) ∧ R (Itt K a) H1
theorem pi_list {l : Expr} {tl : TE} (hl : PE X l tl) : PI X tg l (iList X.K tl) := by
  intro pins s σ H R I h
  refine thn (hl pins s σ H _ I h) fun v s1 ⟨x, H1, I1, r1, q1⟩ => ?_
  obtain ⟨a, e, ⟨xs, hq⟩, q⟩ := q1
  subst e
  cases r1
  obtain ⟨its, rv, p, hz⟩ := I1.list hq
  refine wpAny_pyIter_list p.isList ?_
  refine ⟨s1.heap.objs.size, [s1.heap.objs.size], _, _, H1, rfl, I1.kept (t' := s1.toks) fun b o e => Heap.get?_push_of_some _ e, turn_list a _, ⟨_, Heap.get?_push_size _ rfl, rfl, rfl⟩, fun b hb => ?_, q⟩
  have e : b = s1.heap.objs.size := by simpa using hb
  subst e
  exact I1.fpOk (Nat.le_refl _) (I1.hok.fresh (Nat.le_refl _))
theorem pi_tup {l : Expr} {tl : TE} (hl : PE X l tl) : PI X tg l (iTup X.K tl) := by
  intro pins s σ H R I h
  refine thn (hl pins s σ H _ I h) fun v s1 ⟨x, H1, I1, r1, q1⟩ => ?_
  obtain ⟨a, e, ⟨xs, hq⟩, q⟩ := q1
  subst e
  cases r1
  obtain ⟨its, rv, p, hz⟩ := I1.tuple hq
  refine wpAny_pyIter_tuple (show s1.heap.IsTuple a its.toArray from p) ?_
  refine ⟨s1.heap.objs.size, [s1.heap.objs.size], _, _, H1, rfl, I1.kept (t' := s1.toks) fun b o e => Heap.get?_push_of_some _ e, turn_tuple a _, ⟨_, Heap.get?_push_size _ rfl, rfl, rfl⟩, fun b hb => ?_, q⟩
  have e : b = s1.heap.objs.size := by simpa using hb
  subst e
  exact I1.fpOk (Nat.le_refl _) (I1.hok.fresh (Nat.le_refl _))
/-- a range object just made, walked -/
theorem range_it {pins : List (Addr × Obj)} {σ : St} {H : Hp} {s : Shared} {R : It → Hp → Prop} {E : Value → Shared → Prop} {lo hi : Int} {t u v : Tok} {tk : Nat} (I : Inv X pins σ H s) (h1 : -(2 ^ 62) ≤ lo) (h2 : lo < 2 ^ 62) (h3 : -(2 ^ 62) ≤ hi) (h4 : hi < 2 ^ 62)
    (q : R (Itr lo (hi - lo).toNat) H) : wpAny (model X.prog X.w) X.A (pyIter (.ref s.heap.objs.size)) (PIE X pins σ tg R) E { s with heap := s.heap.push { cls := .type "range", data := .fields #[.int lo t, .int hi u, .int 1 v] }, toks := tk } := by
  refine wpAny_pyIter_range (IsRange.new ..) (small_one h1 h2 h3 h4) ?_
  have I1 : Inv X pins σ H { s with heap := s.heap.push { cls := .type "range", data := .fields #[.int lo t, .int hi u, .int 1 v] }, toks := tk } := I.kept fun b o e => Heap.get?_push_of_some _ e
  refine ⟨(s.heap.push { cls := .type "range", data := .fields #[.int lo t, .int hi u, .int 1 v] }).objs.size, [(s.heap.push { cls := .type "range", data := .fields #[.int lo t, .int hi u, .int 1 v] }).objs.size], _, _, H, rfl,
    I1.kept (t' := tk) fun b o e => Heap.get?_push_of_some _ e, turn_range _ lo (hi - lo).toNat, ?_, fun b hb => ?_, q⟩
  · have e1 : lo + ((0 : Nat) : Int) * 1 = lo := by simp
    have e2 : (((hi - lo).toNat : Nat) : Int) - ((0 : Nat) : Int) = Builtin.Range.rangeSize lo hi 1 := by rw [rangeSize_one]; split <;> omega
    show IsRangeIter _ _ (lo + ((0 : Nat) : Int) * 1) ((((hi - lo).toNat : Nat) : Int) - ((0 : Nat) : Int)) 1
    rw [e1, e2]
    exact Heap.get?_push_size _ rfl
  · have e : b = (s.heap.push { cls := .type "range", data := .fields #[.int lo t, .int hi u, .int 1 v] }).objs.size := by simpa using hb
    subst e
    exact I1.fpOk (Nat.le_refl _) (I1.hok.fresh (Nat.le_refl _))
def iRng1 (ta : TA) : TI := fun σ H R => ta σ H fun vs H1 => ∃ j : Int, vs = [.int j] ∧ -(2 ^ 62) ≤ j ∧ j < 2 ^ 62 ∧ R (Itr 0 j.toNat) H1
def iRng2 (ta : TA) : TI := fun σ H R => ta σ H fun vs H1 => ∃ i j : Int, vs = [.int i, .int j] ∧ (-(2 ^ 62) ≤ i ∧ i < 2 ^ 62 ∧ -(2 ^ 62) ≤ j ∧ j < 2 ^ 62) ∧ R (Itr i (j - i).toNat) H1
theorem pi_range1 {a : Expr} {ta : TA} {p pos : Pos} (hg : Gl X "range") (hm : X.mg "range" = none) (ha : PA X [a] ta) (hs : starEach [a] X.env = [(false, eval a X.env)] := by rfl) : PI X tg (.Call (.Name "range" p) [a] [] pos) (iRng1 ta) := by
  intro pins s σ H R I h
  refine Call_ (ld_blt I hg hm boot_range (PyProof.Rows.callWith_type1 (thn (ha pos pins s σ H _ I h) fun us s1 ⟨vs, H1, I1, r1, q1⟩ => ?_) hs rfl))
  obtain ⟨j, e, q1, q2, q⟩ := q1
  subst e
  cases r1 with
  | cons r rr =>
    cases rr
    obtain ⟨t, rfl⟩ := r
    exact call_range_1 (range_it I1 (by omega) (by omega) q1 q2 (by simpa using q))
theorem pi_range2 {a b : Expr} {ta : TA} {p pos : Pos} (hg : Gl X "range") (hm : X.mg "range" = none) (ha : PA X [a, b] ta) (hs : starEach [a, b] X.env = [(false, eval a X.env), (false, eval b X.env)] := by rfl) (hs2 : starEach [b] X.env = [(false, eval b X.env)] := by rfl) :
    PI X tg (.Call (.Name "range" p) [a, b] [] pos) (iRng2 ta) := by
  intro pins s σ H R I h
  refine Call_ (ld_blt I hg hm boot_range (PyProof.Rows.callWith_type1 (thn (ha pos pins s σ H _ I h) fun us s1 ⟨vs, H1, I1, r1, q1⟩ => ?_) (by rw [hs, hs2]) (by rw [hs2]; rfl)))
  obtain ⟨i, j, e, ⟨q1, q2, q3, q4⟩, q⟩ := q1
  subst e
  cases r1 with
  | cons r rr =>
    cases rr with
    | cons r' rr =>
      cases rr
      obtain ⟨t, rfl⟩ := r
      obtain ⟨t', rfl⟩ := r'
      exact call_range_2 (range_it I1 q1 q2 q3 q4 q)

/-! ### for -/
/-- W: the invariant by the turn and a measure; N: what the body is to reach -/
def tFor (wi : TI) (g : TG) (tb : TS) : TS := fun D σ H => wi σ H fun J H1 => ∃ W : Nat → Nat → St → Hp → Prop, (∃ m, W 0 m σ H1) ∧ ∀ i m σ H, W i m σ H →
  (J.stop i H ∧ D.nx σ H) ∨ (J.go i H ∧ ∃ N : St → Hp → Prop, (∀ σ' H', N σ' H' → ∃ m', m' < m ∧ W (i + 1) m' σ' H') ∧ ∀ x H', J.yld i H x H' → g x σ H' fun σ2 H2 => tb { D with nx := N, ct := N, bk := D.nx } σ2 H2)
/-- the records at fp as they stand -/
def pinsAt (fp : List Addr) (h : Heap) : List (Addr × Obj) := fp.filterMap fun b => (h.get? b).map fun o => (b, o)
theorem mem_pinsAt {fp : List Addr} {h : Heap} {b : Addr} {o : Obj} (hb : b ∈ fp) (e : h.get? b = some o) : (b, o) ∈ pinsAt fp h := List.mem_filterMap.mpr ⟨b, hb, by rw [e]; rfl⟩
theorem of_pinsAt {fp : List Addr} {h : Heap} {p : Addr × Obj} (hp : p ∈ pinsAt fp h) : p.1 ∈ fp ∧ h.get? p.1 = some p.2 := by
  obtain ⟨b, hb, e⟩ := List.mem_filterMap.mp hp
  cases q : h.get? b with
  | none => rw [q] at e; cases e
  | some o =>
    rw [q] at e
    have e' : (b, o) = p := Option.some.inj e
    subst e'
    exact ⟨hb, q⟩
theorem Inv.pinned {pins : List (Addr × Obj)} {σ : St} {H : Hp} {s : Shared} {fp : List Addr} (I : Inv X pins σ H s) (hf : ∀ b ∈ fp, FpOk X pins H b) (ho : ∀ b ∈ fp, ∃ o, s.heap.get? b = some o ∧ ∀ v, o.data ≠ .cell v) : Inv X (pins ++ pinsAt fp s.heap) σ H s :=
  I.pins_of fun p hp => (List.mem_append.mp hp).elim (fun z => I.pin p (List.mem_append_right _ z)) fun z => by
    obtain ⟨hb, e⟩ := of_pinsAt z
    obtain ⟨f0, f1, f2, _⟩ := hf p.1 hb
    obtain ⟨o, e', d⟩ := ho p.1 hb
    rw [e] at e'; cases e'
    exact ⟨e, f0, f1, f2, d⟩
theorem Inv.unpinned {pins pl : List (Addr × Obj)} {σ : St} {H : Hp} {s : Shared} (I : Inv X (pins ++ pl) σ H s) : Inv X pins σ H s := I.pins_of fun p hp => I.pin p (List.mem_append_right _ (List.mem_append_left _ hp))
theorem ps_for {iter : Expr} {body : List Stmt} {wi : TI} {g : TG} {tb : TS} {pos : Pos} (hp : PassesOwn (model X.prog X.w) X.A X.env X.xe) (hc : X.calm = true) (hi : PI X tg iter wi) (hg : PG X tg g) (hb : PSs X body tb)
    (hs : ∀ x, foldedSetIterable iter X.env x = pure x := by intro _; rfl) : PS X (.For tg iter body [] pos) (tFor wi g tb) := by
  intro pins s σ H D I h
  refine wpAny_For (thn (hi pins s σ H _ I h) fun v s1 h1 => thn h1 fun itv s2 h2 => ?_) hs
  obtain ⟨it, fp, tn, J, H2, e, I2, T, st2, f2, W, ⟨m0, w0⟩, turn⟩ := h2
  subst e
  have stat : ∀ {H' : Hp}, (∀ b ∈ fp, H' b = none) → ∀ b ∈ fp, FpOk X pins H' b := fun hn b hb => ⟨hn b hb, (f2 b hb).2⟩
  refine codeAny_forLoop_any (fun n s' => ∃ i σ' H', Inv X pins σ' H' s' ∧ tn i s'.heap ∧ (∀ b ∈ fp, H' b = none) ∧ W i n σ' H') ?_ m0 ⟨0, σ, H2, I2, st2, fun b hb => (f2 b hb).1, w0⟩
  rintro n s3 ⟨i, σ3, H3, I3, st3, fr3, w3⟩
  rcases turn i n σ3 H3 w3 with ⟨stop, qn⟩ | ⟨go, N, hN, step⟩
  · refine wpAny_passesOwn hp (thn (T.done X rfl rfl rfl hc i pins s3 σ3 H3 X.xe I3 (stat fr3) st3 stop) fun r s4 ⟨hr, I4⟩ => ?_)
    subst hr
    exact wpAny_execs_nil ⟨σ3, H3, I4, qn⟩
  · refine wpAny_passesOwn hp (thn (T.item X rfl rfl rfl hc i pins s3 σ3 H3 X.xe I3 (stat fr3) st3 go) fun r s4 ⟨u, hr, h4⟩ => ?_)
    subst hr
    refine wpAny_passesOwn hp (thn h4 fun _ s5 ⟨x, H5, I5, r5, y5, st5, fr5⟩ => ?_)
    have I5' := I5.pinned (stat fr5) (T.obj _ _ st5)
    refine wpAny_passesOwn hp (thn (hg _ s5 σ3 H5 x u _ I5' r5 (step x H5 y5)) fun _ s6 ⟨σ6, H6, I6, q6⟩ => ?_)
    refine wpAny_passesOwn hp (thn (hb _ s6 σ6 H6 _ I6 q6) fun f s7 q7 => ?_)
    have again : ∀ {σ7 : St} {H7 : Hp}, Inv X (pins ++ pinsAt fp s5.heap) σ7 H7 s7 → N σ7 H7 → ∃ m, m < n ∧ ∃ i σ' H', Inv X pins σ' H' s7 ∧ tn i s7.heap ∧ (∀ b ∈ fp, H' b = none) ∧ W i m σ' H' := fun {σ7 H7} I7 n7 => by
      obtain ⟨m', hm, w7⟩ := hN σ7 H7 n7
      refine ⟨m', hm, i + 1, σ7, H7, I7.unpinned, T.keep _ _ _ st5 fun b hb o e => (I7.pin (b, o) (List.mem_append_right _ (List.mem_append_right _ (mem_pinsAt hb e)))).1, fun b hb => ?_, w7⟩
      obtain ⟨o, e, d⟩ := T.obj _ _ st5 b hb
      exact (I7.pin (b, o) (List.mem_append_right _ (List.mem_append_right _ (mem_pinsAt hb e)))).2.1
    cases f with
    | next => obtain ⟨σ7, H7, I7, n7⟩ := q7; exact again I7 n7
    | cont => obtain ⟨σ7, H7, I7, n7⟩ := q7; exact again I7 n7
    | brk => obtain ⟨σ7, H7, I7, q7⟩ := q7; exact ⟨σ7, H7, I7.unpinned, q7⟩
    | ret v => obtain ⟨x7, σ7, H7, I7, r7, q7⟩ := q7; exact ⟨x7, σ7, H7, I7.unpinned, r7, q7⟩
end

/-! ### the forms one uses -/
/-- over a list that the body leaves as it is -/
theorem for_list {K : PySem.W.Frag} {a : Addr} {xs : List V} {g : TG} {tb : TS} {D : Ends} {σ : St} {H : Hp} (Pv : Nat → St → Hp → Prop) (h0 : Pv 0 σ H) (hl : ∀ i σ H, i ≤ xs.length → Pv i σ H → SqL K H a xs)
    (hs : ∀ i x σ H, xs[i]? = some x → Pv i σ H → g x σ H fun σ2 H2 => tb { D with nx := Pv (i + 1), ct := Pv (i + 1), bk := D.nx } σ2 H2) (hd : ∀ σ H, Pv xs.length σ H → D.nx σ H) :
    ∃ W : Nat → Nat → St → Hp → Prop, (∃ m, W 0 m σ H) ∧ ∀ i m σ H, W i m σ H →
      ((Itl K a).stop i H ∧ D.nx σ H) ∨ ((Itl K a).go i H ∧ ∃ N : St → Hp → Prop, (∀ σ' H', N σ' H' → ∃ m', m' < m ∧ W (i + 1) m' σ' H') ∧ ∀ x H', (Itl K a).yld i H x H' → g x σ H' fun σ2 H2 => tb { D with nx := N, ct := N, bk := D.nx } σ2 H2) := by
  refine ⟨fun i m σ H => m = xs.length - i ∧ i ≤ xs.length ∧ Pv i σ H, ⟨xs.length, by simp, Nat.zero_le _, h0⟩, ?_⟩
  rintro i m σ H ⟨rfl, hi, p⟩
  have q := hl i σ H hi p
  by_cases hlt : i < xs.length
  · refine .inr ⟨⟨xs, xs[i], q, by simp [hlt]⟩, Pv (i + 1), fun σ' H' p' => ⟨xs.length - (i + 1), by omega, rfl, hlt, p'⟩, fun x H' y => ?_⟩
    obtain ⟨e, y⟩ := y
    subst e
    exact hs i x σ _ (y xs q) p
  · have e : i = xs.length := by omega
    subst e
    exact .inl ⟨⟨xs, q, Nat.le_refl _⟩, hd σ H p⟩
theorem for_range {lo : Int} {n : Nat} {g : TG} {tb : TS} {D : Ends} {σ : St} {H : Hp} (Pv : Nat → St → Hp → Prop) (h0 : Pv 0 σ H)
    (hs : ∀ i σ H, i < n → Pv i σ H → g (.int (lo + i)) σ H fun σ2 H2 => tb { D with nx := Pv (i + 1), ct := Pv (i + 1), bk := D.nx } σ2 H2) (hd : ∀ σ H, Pv n σ H → D.nx σ H) :
    ∃ W : Nat → Nat → St → Hp → Prop, (∃ m, W 0 m σ H) ∧ ∀ i m σ H, W i m σ H →
      ((Itr lo n).stop i H ∧ D.nx σ H) ∨ ((Itr lo n).go i H ∧ ∃ N : St → Hp → Prop, (∀ σ' H', N σ' H' → ∃ m', m' < m ∧ W (i + 1) m' σ' H') ∧ ∀ x H', (Itr lo n).yld i H x H' → g x σ H' fun σ2 H2 => tb { D with nx := N, ct := N, bk := D.nx } σ2 H2) := by
  refine ⟨fun i m σ H => m = n - i ∧ i ≤ n ∧ Pv i σ H, ⟨n, by simp, Nat.zero_le _, h0⟩, ?_⟩
  rintro i m σ H ⟨rfl, hi, p⟩
  by_cases hlt : i < n
  · refine .inr ⟨hlt, Pv (i + 1), fun σ' H' p' => ⟨n - (i + 1), by omega, rfl, hlt, p'⟩, fun x H' y => ?_⟩
    obtain ⟨e, y⟩ := y
    subst e y
    exact hs i σ _ hlt p
  · have e : i = n := by omega
    subst e
    exact .inl ⟨Nat.le_refl _, hd σ H p⟩
end L2

namespace L2
open PySem PySem.Spec PyProof.Rows

abbrev R2 := V → V → Hp → VK → Prop
/-- a two-place operation on values: f is binaryOp op, inplaceOp op or compareOp op -/
def OpR (X : Cx) (f : Value → Value → Sem Value) (r : R2) : Prop :=
  ∀ (pins : List (Addr × Obj)) (s : Shared) (σ : St) (H : Hp) (x y : V) (v u : Value) (Q : VK), Inv X pins σ H s → RelV x v → RelV y u → r x y H Q →
    wpAny (model X.prog X.w) X.A (f v u) (EP X pins σ Q) X.xe s
/-- a one-place operation -/
def UnR (X : Cx) (f : Value → Sem Value) (r : V → Hp → VK → Prop) : Prop :=
  ∀ (pins : List (Addr × Obj)) (s : Shared) (σ : St) (H : Hp) (x : V) (v : Value) (Q : VK), Inv X pins σ H s → RelV x v → r x H Q →
    wpAny (model X.prog X.w) X.A (f v) (EP X pins σ Q) X.xe s
/-- a call of a value that is known (a builtin, a type) with values -/
def CallR (X : Cx) (f : Value) (r : List V → Hp → VK → Prop) : Prop :=
  ∀ (pins : List (Addr × Obj)) (s : Shared) (σ : St) (H : Hp) (xs : List V) (us : List Value) (Q : VK), Inv X pins σ H s → Vals xs us → r xs H Q →
    wpAny (model X.prog X.w) X.A (call f us) (EP X pins σ Q) X.xe s
/-- a value's truth -/
def TruR (X : Cx) (r : V → Hp → (Bool → Hp → Prop) → Prop) : Prop :=
  ∀ (pins : List (Addr × Obj)) (s : Shared) (σ : St) (H : Hp) (x : V) (v : Value) (Q : Bool → Hp → Prop), Inv X pins σ H s → RelV x v → r x H Q →
    wpAny (model X.prog X.w) X.A (truthy v) (TP X pins σ Q) X.xe s

def tOp (r : R2) (ta tb : TE) : TE := fun σ H Q => ta σ H fun x H1 => tb σ H1 fun y H2 => r x y H2 Q
def tUn (r : V → Hp → VK → Prop) (ta : TE) : TE := fun σ H Q => ta σ H fun x H1 => r x H1 Q
/-- ints in, under C, and a value out -/
def rI (C : Int → Int → Prop) (g : Int → Int → V) : R2 := fun x y H Q => ∃ i j, x = .int i ∧ y = .int j ∧ C i j ∧ Q (g i j) H
def rI0 (g : Int → Int → V) : R2 := fun x y H Q => ∃ i j, x = .int i ∧ y = .int j ∧ Q (g i j) H
def rU (g : Int → V) : V → Hp → VK → Prop := fun x H Q => ∃ i, x = .int i ∧ Q (g i) H

section
variable {X : Cx} {a b c : Expr} {ta tb tc : TE} {pos : Pos}

theorem binT (ha : PE X a ta) (hb : PE X b tb) {pins : List (Addr × Obj)} {s : Shared} {σ : St} {H : Hp} {R : V → V → Hp → Prop} (I : Inv X pins σ H s)
    (h : ta σ H fun x H1 => tb σ H1 fun y H2 => R x y H2) {Q : Value → Shared → Prop} {f : Value → Value → Sem Value}
    (hf : ∀ v u s2 x y H2, Inv X pins σ H2 s2 → RelV x v → RelV y u → R x y H2 → wpAny (model X.prog X.w) X.A (f v u) Q X.xe s2) :
    wpAny (model X.prog X.w) X.A (eval a X.env) (fun v s₁ => wpAny (model X.prog X.w) X.A (eval b X.env) (fun u s₂ => wpAny (model X.prog X.w) X.A (f v u) Q X.xe s₂) X.xe s₁) X.xe s := by
  refine thn (ha pins s σ H _ I h) fun v s1 ⟨x, H1, I1, r1, q1⟩ => ?_
  refine thn (hb pins s1 σ H1 _ I1 q1) fun u s2 ⟨y, H2, I2, r2, q2⟩ => ?_
  exact hf v u s2 x y H2 I2 r1 r2 q2

theorem pe_op {op : Operator} {r : R2} (ho : OpR X (binaryOp op) r) (ha : PE X a ta) (hb : PE X b tb) : PE X (.BinOp a op b pos) (tOp r ta tb) := by
  intro pins s σ H Q I h
  exact wpAny_BinOp (binT ha hb I h fun v u s2 x y H2 I2 rx ry q => ho pins s2 σ H2 x y v u Q I2 rx ry q)
theorem pe_un {op : UnaryOp} {r : V → Hp → VK → Prop} (ho : UnR X (unaryOp op) r) (ha : PE X a ta) : PE X (.UnaryOp op a pos) (tUn r ta) := by
  intro pins s σ H Q I h
  exact UnaryOp_ (thn (ha pins s σ H _ I h) fun v s1 ⟨x, H1, I1, r1, q1⟩ => ho pins s1 σ H1 x v Q I1 r1 q1)

/-! ### ints -/
theorem opI {f : Value → Value → Sem Value} {C : Int → Int → Prop} {g : Int → Int → Int}
    (rule : ∀ (i j : Int) (t u : Tok) (s : Shared) (Q : Value → Shared → Prop) (E : Value → Shared → Prop), C i j → Q (.int (g i j) s.toks) { s with toks := s.toks + 1 } → wpAny (model X.prog X.w) X.A (f (.int i t) (.int j u)) Q E s) :
    OpR X f (rI C fun i j => .int (g i j)) := by
  intro pins s σ H x y v u Q I rx ry h
  obtain ⟨i, j, rfl, rfl, hc, q⟩ := h
  obtain ⟨t, rfl⟩ := rx
  obtain ⟨t', rfl⟩ := ry
  exact rule i j t t' s _ _ hc ⟨.int (g i j), H, I.tok _, ⟨_, rfl⟩, q⟩
theorem opI0 {f : Value → Value → Sem Value} {g : Int → Int → Int}
    (rule : ∀ (i j : Int) (t u : Tok) (s : Shared) (Q : Value → Shared → Prop) (E : Value → Shared → Prop), Q (.int (g i j) s.toks) { s with toks := s.toks + 1 } → wpAny (model X.prog X.w) X.A (f (.int i t) (.int j u)) Q E s) :
    OpR X f (rI0 fun i j => .int (g i j)) := by
  intro pins s σ H x y v u Q I rx ry h
  obtain ⟨i, j, rfl, rfl, q⟩ := h
  obtain ⟨t, rfl⟩ := rx
  obtain ⟨t', rfl⟩ := ry
  exact rule i j t t' s _ _ ⟨.int (g i j), H, I.tok _, ⟨_, rfl⟩, q⟩
theorem opB0 {f : Value → Value → Sem Value} {g : Int → Int → Bool}
    (rule : ∀ (i j : Int) (t u : Tok) (s : Shared) (Q : Value → Shared → Prop) (E : Value → Shared → Prop), Q (.bool (g i j)) s → wpAny (model X.prog X.w) X.A (f (.int i t) (.int j u)) Q E s) :
    OpR X f (rI0 fun i j => .bl (g i j)) := by
  intro pins s σ H x y v u Q I rx ry h
  obtain ⟨i, j, rfl, rfl, q⟩ := h
  obtain ⟨t, rfl⟩ := rx
  obtain ⟨t', rfl⟩ := ry
  exact rule i j t t' s _ _ ⟨.bl (g i j), H, I, rfl, q⟩

def CDiv (i j : Int) : Prop := 0 < j ∧ j < 1073741824
def CPow (i j : Int) : Prop := 0 ≤ j ∧ j ≤ 1000000 ∧ i.natAbs < 2 ^ 64
def CMul (i j : Int) : Prop := (-(2 ^ 64) < i ∧ i < 2 ^ 64) ∨ (-(2 ^ 64) < j ∧ j < 2 ^ 64)
theorem CMul.ok {i j : Int} (h : CMul i j) : IntMulOk i j := by
  rcases h with ⟨h1, h2⟩ | ⟨h1, h2⟩
  · exact .of_left (intBits_le_64 h1 h2)
  · exact .of_right (intBits_le_64 h1 h2)

theorem op_add : OpR X (binaryOp .Add) (rI0 fun i j => .int (i + j)) := opI0 fun _ _ _ _ _ _ _ q => add_int q
theorem op_sub : OpR X (binaryOp .Sub) (rI0 fun i j => .int (i - j)) := opI0 fun _ _ _ _ _ _ _ q => sub_int q
theorem op_mul : OpR X (binaryOp .Mult) (rI CMul fun i j => .int (i * j)) := opI fun _ _ _ _ _ _ _ hc q => mul_int q hc.ok
/-- // by a positive divisor -/
theorem op_fdiv : OpR X (binaryOp .FloorDiv) (rI CDiv fun i j => .int (i / j)) := opI fun i j _ _ _ _ _ hc q => by
  have h1 : (0 : Int) < j := hc.1
  have h2 : j < 1073741824 := hc.2
  exact floordiv_int (by omega) (by rw [Int.fdiv_eq_ediv_of_nonneg i (by omega)]; exact q) (.inl (PyProof.noPylong_small (by omega)))
/-- % by a positive divisor of any size -/
theorem op_mod : OpR X (binaryOp .Mod) (rI (fun _ j => 0 < j) fun i j => .int (i % j)) := opI fun i j _ _ _ _ _ hc q => by
  have h1 : (0 : Int) < j := hc
  exact mod_int' (by omega) (by rw [Int.fmod_eq_emod_of_nonneg i (by omega)]; exact q)
theorem op_pow : OpR X (binaryOp .Pow) (rI CPow fun i j => .int (i ^ j.toNat)) := opI fun _ _ _ _ _ _ _ hc q => pow_int_small hc.1 hc.2.1 hc.2.2 q
theorem op_and : OpR X (binaryOp .BitAnd) (rI0 fun i j => .int (Builtin.bitAnd i j)) := opI0 fun _ _ _ _ _ _ _ q => and_int q
theorem op_or : OpR X (binaryOp .BitOr) (rI0 fun i j => .int (Builtin.bitOr i j)) := opI0 fun _ _ _ _ _ _ _ q => or_int q


theorem unI {f : Value → Sem Value} {g : Int → Int}
    (rule : ∀ (i : Int) (t : Tok) (s : Shared) (Q : Value → Shared → Prop) (E : Value → Shared → Prop), Q (.int (g i) s.toks) { s with toks := s.toks + 1 } → wpAny (model X.prog X.w) X.A (f (.int i t)) Q E s) :
    UnR X f (rU fun i => .int (g i)) := by
  intro pins s σ H x v Q I rx h
  obtain ⟨i, rfl, q⟩ := h
  obtain ⟨t, rfl⟩ := rx
  exact rule i t s _ _ ⟨.int (g i), H, I.tok _, ⟨_, rfl⟩, q⟩
theorem un_neg : UnR X (unaryOp .USub) (rU fun i => .int (-i)) := unI fun _ _ _ _ _ q => neg_int q

/-! ### bools among ints: n += (a < b) -/
end

/-! ### comparisons -/
/-- the scalars that == tells apart as data does -/
def scal : V → V → Bool
  | .non, .non => true | .non, .int _ => true | .int _, .non => true | .non, .bl _ => true | .bl _, .non => true | .non, .str _ => true | .str _, .non => true
  | .int _, .int _ => true | .bl _, .bl _ => true | .str _, .str _ => true | .byt _, .byt _ => true
  | .int _, .str _ => true | .str _, .int _ => true | .bl _, .str _ => true | .str _, .bl _ => true
  | _, _ => false
def rEq : R2 := fun x y H Q => scal x y = true ∧ Q (.bl (decide (x = y))) H
def rNe : R2 := fun x y H Q => scal x y = true ∧ Q (.bl (!decide (x = y))) H

theorem dec_int {i j : Int} : decide (V.int i = V.int j) = (i == j) := by
  rw [Bool.eq_iff_iff]
  simp
theorem dec_bl {i j : Bool} : decide (V.bl i = V.bl j) = (i == j) := by
  rw [Bool.eq_iff_iff]
  simp
theorem dec_str {i j : Str} : decide (V.str i = V.str j) = (i == j) := by
  rw [Bool.eq_iff_iff]
  simp
theorem dec_byt {i j : Array UInt8} : decide (V.byt i = V.byt j) = (i.toList == j.toList) := by
  rw [Bool.eq_iff_iff]
  cases i
  cases j
  simp

section
variable {X : Cx} {a b c : Expr} {ta tb tc : TE} {pos : Pos}
theorem fin_bl {pins : List (Addr × Obj)} {σ : St} {H : Hp} {s : Shared} {Q : VK} {k k' : Bool} (I : Inv X pins σ H s) (q : Q (.bl k) H) (e : k = k') : EP X pins σ Q (.bool k') s := by
  subst e
  exact ⟨.bl k, H, I, rfl, q⟩
theorem op_eq : OpR X (compareOp .Eq) rEq := by
  intro pins s σ H x y v u Q I rx ry h
  obtain ⟨hs, q⟩ := h
  cases x with
  | non =>
    cases rx
    cases y with
    | non => cases ry; exact PySem.EqNone.eq_none_none (fin_bl I q (by simp))
    | bl j => cases ry; exact PySem.EqNone.eq_none_bool (fin_bl I q (by simp))
    | int j => obtain ⟨t', rfl⟩ := ry; exact PySem.EqNone.eq_none_int (fin_bl I q (by simp))
    | str j => obtain ⟨t', rfl⟩ := ry; exact PySem.EqNone.eq_none_str (fin_bl I q (by simp))
    | _ => exact absurd (show false = true from hs) Bool.false_ne_true
  | bl i =>
    cases rx
    cases y with
    | non => cases ry; exact PySem.EqNone.eq_bool_none (fin_bl I q (by simp))
    | bl j => cases ry; exact eq_bool (fin_bl I q dec_bl)
    | str j => obtain ⟨t', rfl⟩ := ry; exact PySem.EqMixed.eq_bool_str (fin_bl I q (by simp))
    | _ => exact absurd (show false = true from hs) Bool.false_ne_true
  | int i =>
    obtain ⟨t, rfl⟩ := rx
    cases y with
    | non => cases ry; exact PySem.EqNone.eq_int_none (fin_bl I q (by simp))
    | int j => obtain ⟨t', rfl⟩ := ry; exact eq_int (fin_bl I q dec_int)
    | str j => obtain ⟨t', rfl⟩ := ry; exact PySem.EqMixed.eq_int_str (fin_bl I q (by simp))
    | _ => exact absurd (show false = true from hs) Bool.false_ne_true
  | str i =>
    obtain ⟨t, rfl⟩ := rx
    cases y with
    | non => cases ry; exact PySem.EqNone.eq_str_none (fin_bl I q (by simp))
    | bl j => cases ry; exact PySem.EqMixed.eq_str_bool (fin_bl I q (by simp))
    | int j => obtain ⟨t', rfl⟩ := ry; exact PySem.EqMixed.eq_str_int (fin_bl I q (by simp))
    | str j => obtain ⟨t', rfl⟩ := ry; exact eq_str (fin_bl I q dec_str)
    | _ => exact absurd (show false = true from hs) Bool.false_ne_true
  | byt i =>
    obtain ⟨t, rfl⟩ := rx
    cases y with
    | byt j => obtain ⟨t', rfl⟩ := ry; exact PySem.W.eq_bytes (fin_bl I q dec_byt)
    | _ => exact absurd (show false = true from hs) Bool.false_ne_true
  | _ => cases y <;> exact absurd (show false = true from hs) Bool.false_ne_true
theorem op_ne : OpR X (compareOp .NotEq) rNe := by
  intro pins s σ H x y v u Q I rx ry h
  obtain ⟨hs, q⟩ := h
  cases x with
  | non =>
    cases rx
    cases y with
    | non => cases ry; exact PySem.EqNone.ne_none_none (fin_bl I q (by simp))
    | bl j => cases ry; exact PySem.EqNone.ne_none_bool (fin_bl I q (by simp))
    | int j => obtain ⟨t', rfl⟩ := ry; exact PySem.EqNone.ne_none_int (fin_bl I q (by simp))
    | str j => obtain ⟨t', rfl⟩ := ry; exact PySem.EqNone.ne_none_str (fin_bl I q (by simp))
    | _ => exact absurd (show false = true from hs) Bool.false_ne_true
  | bl i =>
    cases rx
    cases y with
    | non => cases ry; exact PySem.EqNone.ne_bool_none (fin_bl I q (by simp))
    | bl j => cases ry; exact ne_bool (fin_bl I q (congrArg not dec_bl))
    | str j => obtain ⟨t', rfl⟩ := ry; exact PySem.EqMixed.ne_bool_str (fin_bl I q (by simp))
    | _ => exact absurd (show false = true from hs) Bool.false_ne_true
  | int i =>
    obtain ⟨t, rfl⟩ := rx
    cases y with
    | non => cases ry; exact PySem.EqNone.ne_int_none (fin_bl I q (by simp))
    | int j => obtain ⟨t', rfl⟩ := ry; exact ne_int (fin_bl I q (congrArg not dec_int))
    | str j => obtain ⟨t', rfl⟩ := ry; exact PySem.EqMixed.ne_int_str (fin_bl I q (by simp))
    | _ => exact absurd (show false = true from hs) Bool.false_ne_true
  | str i =>
    obtain ⟨t, rfl⟩ := rx
    cases y with
    | non => cases ry; exact PySem.EqNone.ne_str_none (fin_bl I q (by simp))
    | bl j => cases ry; exact PySem.EqMixed.ne_str_bool (fin_bl I q (by simp))
    | int j => obtain ⟨t', rfl⟩ := ry; exact PySem.EqMixed.ne_str_int (fin_bl I q (by simp))
    | str j => obtain ⟨t', rfl⟩ := ry; exact ne_str (fin_bl I q (congrArg not dec_str))
    | _ => exact absurd (show false = true from hs) Bool.false_ne_true
  | byt i =>
    obtain ⟨t, rfl⟩ := rx
    cases y with
    | byt j => obtain ⟨t', rfl⟩ := ry; exact PySem.W.ne_bytes (fin_bl I q (congrArg not dec_byt))
    | _ => exact absurd (show false = true from hs) Bool.false_ne_true
  | _ => cases y <;> exact absurd (show false = true from hs) Bool.false_ne_true

theorem op_lt : OpR X (compareOp .Lt) (rI0 fun i j => .bl (decide (i < j))) := opB0 fun _ _ _ _ _ _ _ q => lt_int q
theorem op_le : OpR X (compareOp .LtE) (rI0 fun i j => .bl (decide (i ≤ j))) := opB0 fun _ _ _ _ _ _ _ q => le_int q
theorem op_gt : OpR X (compareOp .Gt) (rI0 fun i j => .bl (decide (j < i))) := opB0 fun _ _ _ _ _ _ _ q => gt_int q
theorem op_ge : OpR X (compareOp .GtE) (rI0 fun i j => .bl (decide (j ≤ i))) := opB0 fun _ _ _ _ _ _ _ q => ge_int q

/-- is None, is not None: the right side a value none -/
theorem op_isN : OpR X (compareOp .Is) (fun x y H Q => y = .non ∧ Q (.bl (decide (x = .non))) H) := by
  intro pins s σ H x y v u Q I rx ry h
  obtain ⟨rfl, q⟩ := h
  cases ry
  refine is_none_gen (fin_bl I q ?_)
  cases x <;> first
    | (cases rx; rfl)
    | (obtain ⟨t, rfl⟩ := rx; rfl)
theorem op_notN : OpR X (compareOp .IsNot) (fun x y H Q => y = .non ∧ Q (.bl (!decide (x = .non))) H) := by
  intro pins s σ H x y v u Q I rx ry h
  obtain ⟨rfl, q⟩ := h
  cases ry
  refine isnot_none_gen (fin_bl I q ?_)
  cases x <;> first
    | (cases rx; rfl)
    | (obtain ⟨t, rfl⟩ := rx; rfl)



theorem nomark (b : Expr) {op : CmpOp} (h : op ≠ .In := by decide) (h2 : op ≠ .NotIn := by decide) : behindInMarks op b = false := by
  have e1 : (op == CmpOp.In) = false := by cases op <;> first | rfl | exact absurd rfl h
  have e2 : (op == CmpOp.NotIn) = false := by cases op <;> first | rfl | exact absurd rfl h2
  cases b <;> simp [behindInMarks, e1, e2]
/-- a comparison as a value; hm: nomark b, or (for in, not in) by with_unfolding_all rfl -/
theorem pe_cmpR {op : CmpOp} {r : R2} (ho : OpR X (compareOp op) r) (ha : PE X a ta) (hb : PE X b tb) (hm : behindInMarks op b = false) : PE X (.Compare a [op] [b] pos) (tOp r ta tb) := by
  intro pins s σ H Q I h
  exact wpAny_Compare1 (binT ha hb I h fun v u s2 x y H2 I2 rx ry q => ho pins s2 σ H2 x y v u Q I2 rx ry q) hm
/-- a reading of a value as a test -/
def tTest (t : TE) : TT := fun σ H Q => t σ H fun x H' => ∃ k, x = .bl k ∧ Q k H'
theorem pt_cmpR {op : CmpOp} {r : R2} (ho : OpR X (compareOp op) r) (ha : PE X a ta) (hb : PE X b tb) (hm : behindInMarks op b = false) : PT X (.Compare a [op] [b] pos) (tTest (tOp r ta tb)) := by
  intro pins s σ H Q I h
  refine wpAny_isTrue_Compare1 (thn (ha pins s σ H _ I h) fun v s1 ⟨x, H1, I1, r1, q1⟩ => thn (hb pins s1 σ H1 _ I1 q1) fun u s2 ⟨y, H2, I2, r2, q2⟩ =>
    thn (ho pins s2 σ H2 x y v u _ I2 r1 r2 q2) fun c s3 ⟨z, H3, I3, r3, k, e, q3⟩ => ?_) hm
  subst e
  cases r3
  exact wpAny_truthy_bool ⟨H3, I3, q3⟩
/-- a op1 b op2 c -/
def tChain (r r' : R2) (ta tb tc : TE) : TE := fun σ H Q => ta σ H fun x H1 => tb σ H1 fun y H2 => r x y H2 fun z H3 => ∃ k, z = .bl k ∧
  (if k = true then tc σ H3 fun w' H4 => r' y w' H4 Q else Q (.bl false) H3)
theorem pe_chain {op op' : CmpOp} {r r' : R2} (ho : OpR X (compareOp op) r) (ho' : OpR X (compareOp op') r') (ha : PE X a ta) (hb : PE X b tb) (hc : PE X c tc)
    (hm : lastMarks [op, op'] [b, c] = false := by with_unfolding_all rfl) : PE X (.Compare a [op, op'] [b, c] pos) (tChain r r' ta tb tc) := by
  intro pins s σ H Q I h
  refine Compare_chain (thn (ha pins s σ H _ I h) fun v s1 ⟨x, H1, I1, r1, q1⟩ => chain_link (thn (hb pins s1 σ H1 _ I1 q1) fun u s2 ⟨y, H2, I2, r2, q2⟩ =>
    thn (ho pins s2 σ H2 x y v u _ I2 r1 r2 q2) fun d s3 ⟨z, H3, I3, r3, k, e, q3⟩ => ?_)) hm
  subst e
  cases r3
  refine wpAny_truthy_bool ?_
  cases k with
  | false => exact ite_ff ⟨.bl false, H3, I3, rfl, q3⟩
  | true => exact ite_tt (chain_last (thn (hc pins s3 σ H3 _ I3 q3) fun w' s4 ⟨z', H4, I4, r4, q4⟩ => ho' pins s4 σ H4 y z' u w' Q I4 r2 r4 q4))

/-! ### truth -/
/-- a value's truth by the abstract heap -/
def TruV (K : PySem.W.Frag) (x : V) (H : Hp) (k : Bool) : Prop :=
  match x with
  | .non => k = false
  | .bl b => k = b
  | .int i => k = (i != 0)
  | .str y => y.length ≤ sizeLine ∧ k = ((y.length : Int) != 0)
  | .byt y => y.size ≤ sizeLine ∧ k = ((y.size : Int) != 0)
  | .ref p => (∃ xs, SqL K H p xs ∧ k = !xs.isEmpty) ∨ (∃ xs, SqT K H p xs ∧ k = !xs.isEmpty) ∨ ∃ kvs, H p = some (.dK kvs) ∧ k = !kvs.isEmpty
  | _ => False
theorem isEmpty_kv {κ : Type} {kvs : List (κ × V)} {vs : List (κ × Value)} (r : KV kvs vs) : (!vs.isEmpty) = !kvs.isEmpty := by
  cases r <;> rfl
theorem isEmpty_of {xs : List V} {its : List Value} (r : Vals xs its) : (!its.toArray.isEmpty) = !xs.isEmpty := by
  cases r <;> simp
theorem line63 : (sizeLine : Nat) < 2 ^ 63 := by rw [sizeLine_eq]; decide
theorem tru_ok : TruR X (fun x H Q => ∃ k, TruV X.K x H k ∧ Q k H) := by
  intro pins s σ H x v Q I rx h
  obtain ⟨k, e, q⟩ := h
  have hl := line63
  have hs : sizeLine = 16777216 := sizeLine_eq
  cases x with
  | non =>
    cases rx
    have e' : k = false := e
    subst e'
    exact truthy_none ⟨H, I, q⟩
  | bl b =>
    cases rx
    have e' : k = b := e
    subst e'
    exact wpAny_truthy_bool ⟨H, I, q⟩
  | int i =>
    obtain ⟨t, rfl⟩ := rx
    have e' : k = (i != 0) := e
    subst e'
    exact PySem.P.truthy_int ⟨H, I, q⟩
  | str y =>
    obtain ⟨t, rfl⟩ := rx
    obtain ⟨hy, e'⟩ : y.length ≤ sizeLine ∧ k = ((y.length : Int) != 0) := e
    subst e'
    exact PySem.P.truthy_str (by omega) ⟨H, I.tok _, q⟩
  | byt y =>
    obtain ⟨t, rfl⟩ := rx
    obtain ⟨hy, e'⟩ : y.size ≤ sizeLine ∧ k = ((y.size : Int) != 0) := e
    subst e'
    exact PySem.W.truthy_bytes (by omega) ⟨H, I.tok _, q⟩
  | ref p =>
    cases rx
    have e' : (∃ xs, SqL X.K H p xs ∧ k = !xs.isEmpty) ∨ (∃ xs, SqT X.K H p xs ∧ k = !xs.isEmpty) ∨ ∃ kvs, H p = some (.dK kvs) ∧ k = !kvs.isEmpty := e
    rcases e' with ⟨xs, hx, e'⟩ | ⟨xs, hx, e'⟩ | ⟨kvs, hx, e'⟩
    · subst e'
      obtain ⟨its, r, pl, hz⟩ := I.list hx
      have hlen := r.length
      exact wpAny_truthy_list pl.isList (by simp only [List.size_toArray]; omega) ⟨H, I.tok _, by rw [isEmpty_of r]; exact q⟩
    · subst e'
      obtain ⟨its, r, pl, hz⟩ := I.tuple hx
      have hlen := r.length
      exact truthy_tuple pl (by simp only [List.size_toArray]; omega) ⟨H, I.tok _, by rw [isEmpty_of r]; exact q⟩
    · subst e'
      obtain ⟨hz, hS, vs, r, m⟩ : kvs.length ≤ sizeLine ∧ (p == sysModules) = false ∧ ∃ vs, KV kvs vs ∧ s.heap.DictOf (mixKind X.prog X.w) p vs := I.hok p _ hx
      have hlen : kvs.length = vs.length := Paired.length r
      exact wpAny_truthy_dict hS m (by omega) ⟨H, I.tok _, by rw [isEmpty_kv r]; exact q⟩
  | _ => exact (show False from e).elim
/-- any expression whose test is its value's truth (a name, a call, a subscript, a field ..: he by fun _ => rfl) -/
theorem pt_truth (ha : PE X a ta) (he : ∀ whole, isTrue a X.env whole = (do let v ← whole; standAt a.pos; holding [v] (truthy v))) :
    PT X a (fun σ H Q => ta σ H fun x H' => ∃ k, TruV X.K x H' k ∧ Q k H') := by
  intro pins s σ H Q I h
  exact isTrue_plain (thn (ha pins s σ H _ I h) fun v s1 ⟨x, H1, I1, r1, q1⟩ => tru_ok pins s1 σ H1 x v Q I1 r1 q1) (he _)

/-! ### strs and bytes -/


/-! ### scalar builtins, by CallR -/
theorem vals1 {x : V} {us : List Value} (r : Vals [x] us) : ∃ u, us = [u] ∧ RelV x u := by
  cases r with
  | cons r1 r2 => cases r2; exact ⟨_, rfl, r1⟩
theorem vals2 {x y : V} {us : List Value} (r : Vals [x, y] us) : ∃ u w', us = [u, w'] ∧ RelV x u ∧ RelV y w' := by
  cases r with
  | cons r1 r2 =>
    cases r2 with
    | cons r3 r4 => cases r4; exact ⟨_, _, rfl, r1, r3⟩
end
end L2

namespace L2
open PySem PySem.Spec PyProof.Rows

/-! ### an instance, its attributes a map -/
structure ObjM (h : Heap) (x dx C : Addr) (mA : Str → Option Value) : Prop where
  obj : h.get? x = some (PySem.W.instObj C dx)
  ns : h.Ns1 dx mA
  ne : dx ≠ x

theorem lookIn_ns {h : Heap} {dx : Addr} {mA : Str → Option Value} (n : h.Ns1 dx mA) : ∃ od, h.get? dx = some od ∧ ∀ name, PySem.W.lookIn name od = some (mA name) := by
  obtain ⟨o, es, ep, ho, hd, hk, _, hm⟩ := n
  refine ⟨o, ho, fun name => ?_⟩
  have e := hm name
  unfold nsFind findBy at e
  rw [← Array.find?_toList] at e
  unfold PySem.W.lookIn
  rw [hd]
  dsimp only
  split
  · rename_i y q
    rw [q] at e
    exact congrArg some e
  · rename_i q
    rw [q] at e
    have a : es.toList.any (·.refKey) = false := by
      rw [List.any_eq_false]
      intro y hy
      obtain ⟨z, t, hkey⟩ := hk y (Array.mem_toList_iff.mp hy)
      simp [DictEntry.refKey, hkey]
    have a' : ¬ es.toList.any (·.refKey) = true := by rw [a]; exact Bool.false_ne_true
    rw [if_neg a']
    exact congrArg some e

theorem ObjM.look {h : Heap} {x dx C : Addr} {mA : Str → Option Value} (I : ObjM h x dx C mA) : ∃ od, PySem.W.InstAt h x (PySem.W.instObj C dx) C (some od) ∧ ∀ name, PySem.W.lookIn name od = some (mA name) :=
  let ⟨od, ho, hl⟩ := lookIn_ns I.ns
  ⟨od, ⟨I.obj, rfl, rfl, ho⟩, hl⟩

section
variable {prog : Program} {w : World} {A : Around} {E : Value → Shared → Prop} {s : Shared} {K : PySem.W.Frag} {x dx C f : Addr} {mA : Str → Option Value} {name : Str} {v : Value}

theorem get_map {expr : Bool} {Q : Value → Shared → Prop} (X : K.In s.heap) (I : ObjM s.heap x dx C mA) (hg : PySem.W.plainGet K C name = true) (hh : PySem.W.hasDictIn K C = true)
    (ha : PySem.W.findIn K (.ref C) name = some none) (hv : mA name = some v) (hv' : PySem.W.handedIn v = true) (h : Q v { s with toks := s.toks + 1 }) :
    wpAny (model prog w) A (getAttr (.ref x) name expr) Q E s := by
  obtain ⟨od, J, hl⟩ := I.look
  exact PySem.W.get_value X J (PySem.W.plainGet_of hg).1 (PySem.W.findObj_own hh ha rfl (by rw [hl, hv])) hv' h



theorem set_map {ns : List Str} {Q : Unit → Shared → Prop} (X : K.In s.heap) (I : ObjM s.heap x dx C mA)
    (hs : PySem.W.findIn K (.ref C) "__setattr__" = some (some (.builtin "object.__setattr__"))) (hp : PySem.W.plainOver K C = true) (ht : PySem.W.takerIn K C name = some none) (hh : PySem.W.hasDictIn K C = true)
    (hw : PySem.Within mA ns) (hsz : ns.length ≤ sizeLine)
    (h : ∀ h', ObjM h' x dx C (fun y => if y = name then some v else mA y) → Heap.SameBut dx s.heap h' → Q () { s with heap := h', toks := s.toks + 2 }) :
    wpAny (model prog w) A (setAttr (.ref x) name v) Q E s := by
  obtain ⟨od, J, hl⟩ := I.look
  refine PySem.W.set_plain X J hs (PySem.W.osa_open (s := { s with toks := s.toks + 1 }) (r := none) X J hp ht fun b => ?_)
  obtain ⟨cd, hc, hd'⟩ := PySem.W.any_some hh
  have hx : s.heap.get? x = some ⟨.ref C, some dx, .plain, #[]⟩ := I.obj
  refine wpAny_bind (wpAny_pure (wpAny_bind (wpAny_bind (wpAny_loadPart hx (wpAny_bind (PySem.W.Looks.here (s := { s with toks := s.toks + 1 }) (PySem.W.looks_clsIn X hc) ?_))))))
  rw [hd']
  refine wpAny_pure (a := some dx) (wpAny_bind (wpAny_pure (wpAny_bind ?_)))
  refine wpAny_nsSet1 (s := { s with toks := s.toks + 1 }) I.ns fun h' hn2 hs2 => ?_
  obtain ⟨oD, esD, epD, hoD, hdD, hcD⟩ := hn2.count (PySem.Within.cons name v hw)
  refine wpAny_bind (wpAny_lookBehind hoD (by rw [hdD]; exact pastItsLine_dict (Nat.le_trans hcD (by rw [List.length_cons]; omega))) ?_)
  exact wpAny_pure (h _ ⟨(hs2.2 _ (Ne.symm I.ne)).trans I.obj, hn2, I.ne⟩ hs2)

/-- C(..): the dict at the heap's end, the instance behind it; then its __init__ -/
theorem make_map {R : Result → Shared → Prop} {vs : List Value} {kw : List (Str × Value)} (X : K.In s.heap) (hm : PySem.W.makesIn K C = true)
    (hi : PySem.W.findIn K (.ref C) "__init__" = some (some (.ref f))) (hf : PySem.W.typeIn K (.ref f) = some (.type "function"))
    (h : codeAny (model prog w) (A.under (.builtin "type.__call__" ⟨.ref C :: vs, kw⟩)) (.call (.ref f) ⟨.ref (s.heap.objs.size + 1) :: vs, kw⟩) (PySem.W.InitBack (s.heap.objs.size + 1) R)
      { s with heap := (s.heap.push PySem.W.emptyDict).push (PySem.W.instObj C s.heap.objs.size) }) :
    codeAny (model prog w) A (.call (.ref C) ⟨vs, kw⟩) R s := by
  obtain ⟨hh, g, d, t, os⟩ := s
  exact PySem.W.make_core (PySem.W.makes_of X hm) (PySem.W.looks_findIn X hi) (fun self => PySem.W.bind_fn X self hf) (.inl rfl) h
end

/-! ### the attributes as a list of pairs -/
def putF (f : Str) (v : V) : List (Str × V) → List (Str × V)
  | [] => [(f, v)]
  | (g, x) :: r => if g = f then (g, v) :: r else (g, x) :: putF f v r
theorem lookup_putF (f g : Str) (v : V) : ∀ fs : List (Str × V), (putF f v fs).lookup g = if g = f then some v else fs.lookup g
  | [] => by
    show List.lookup g [(f, v)] = _
    by_cases h : g = f
    · have hb : (g == f) = true := beq_iff_eq.mpr h
      simp only [List.lookup, hb, if_pos h]
    · have hb : (g == f) = false := beq_eq_false_iff_ne.mpr h
      simp only [List.lookup, hb, if_neg h]
  | (k, x) :: r => by
    have ih := lookup_putF f g v r
    rw [show putF f v ((k, x) :: r) = (if k = f then (k, v) :: r else (k, x) :: putF f v r) from rfl]
    by_cases hk : k = f
    · rw [if_pos hk]
      by_cases h : g = k
      · have hb : (g == k) = true := beq_iff_eq.mpr h
        simp only [List.lookup, hb, if_pos (h.trans hk)]
      · have hb : (g == k) = false := beq_eq_false_iff_ne.mpr h
        simp only [List.lookup, hb, if_neg (fun e : g = f => h (e.trans hk.symm))]
    · rw [if_neg hk]
      by_cases h : g = k
      · have hb : (g == k) = true := beq_iff_eq.mpr h
        simp only [List.lookup, hb, if_neg (fun e : g = f => hk (h.symm.trans e))]
      · have hb : (g == k) = false := beq_eq_false_iff_ne.mpr h
        simp only [List.lookup, hb]
        exact ih
theorem keys_putF (f : Str) (v : V) : ∀ fs : List (Str × V), f ∈ (putF f v fs).map (·.1) ∧ ∀ g, g ∈ fs.map (·.1) → g ∈ (putF f v fs).map (·.1)
  | [] => ⟨by simp [putF], fun g h => by simp at h⟩
  | (k, x) :: r => by
    obtain ⟨i1, i2⟩ := keys_putF f v r
    rw [show putF f v ((k, x) :: r) = (if k = f then (k, v) :: r else (k, x) :: putF f v r) from rfl]
    by_cases hk : k = f
    · rw [if_pos hk]
      subst hk
      exact ⟨by simp, fun g h => by simpa using h⟩
    · rw [if_neg hk]
      refine ⟨?_, fun g h => ?_⟩
      · rw [List.map_cons]
        exact List.mem_cons_of_mem _ i1
      · rw [List.map_cons] at h ⊢
        rcases List.mem_cons.mp h with e | e
        · exact List.mem_cons.mpr (.inl e)
        · exact List.mem_cons_of_mem _ (i2 g e)
theorem length_putF (f : Str) (v : V) : ∀ fs : List (Str × V), (putF f v fs).length ≤ fs.length + 1
  | [] => by simp [putF]
  | (k, x) :: r => by
    have ih := length_putF f v r
    rw [show putF f v ((k, x) :: r) = (if k = f then (k, v) :: r else (k, x) :: putF f v r) from rfl]
    by_cases hk : k = f
    · rw [if_pos hk, List.length_cons, List.length_cons]; omega
    · rw [if_neg hk, List.length_cons, List.length_cons]; omega

theorem RelO.some_of {v : V} {o : Option Value} (r : RelO (some v) o) : ∃ u, o = some u ∧ RelV v u := by
  cases o with
  | none => exact (show False from r).elim
  | some u => exact ⟨u, rfl, r⟩
theorem handed_of {v : V} {u : Value} (r : RelV v u) : PySem.W.handedIn u = true := by
  cases v with
  | non => cases (show u = Value.none from r); rfl
  | bl b => cases (show u = Value.bool b from r); rfl
  | int i => obtain ⟨t, e⟩ := (show ∃ t, u = Value.int i t from r); cases e; rfl
  | str x => obtain ⟨t, e⟩ := (show ∃ t, u = Value.str x t from r); cases e; rfl
  | byt b => obtain ⟨t, e⟩ := (show ∃ t, u = Value.bytes b t from r); cases e; rfl
  | flt b => obtain ⟨t, e⟩ := (show ∃ t, u = Value.float b t from r); cases e; rfl
  | ref a => cases (show u = Value.ref a from r); rfl
  | ty n => cases (show u = Value.type n from r); rfl

section
variable {P : Program} {w : World} {H H' : Hp} {h h' : Heap} {a C dx : Addr} {fs fs' : List (Str × V)}
theorem ins_get (hok : HOk P w H h) (e : H a = some (.ins C dx fs)) : ∃ mA, ObjM h a dx C mA ∧ (∀ f, RelO (fs.lookup f) (mA f)) ∧ PySem.Within mA (fs.map (·.1)) ∧ fs.length ≤ 1000 ∧ H dx = some (.own a) := by
  obtain ⟨d, z, ne, ob, mA, n, r, q⟩ := (show ObjOk P w H h a (.ins C dx fs) from hok a _ e)
  exact ⟨mA, ⟨ob, n, ne⟩, r, q, z, d⟩
end

/-! ### what of the text a class must have -/
structure Cls (K : PySem.W.Frag) (C : Addr) : Prop where
  pg : PySem.W.plainGet K C Str.empty = true
  hd : PySem.W.hasDictIn K C = true
  po : PySem.W.plainOver K C = true
  sa : PySem.W.findIn K (.ref C) "__setattr__" = some (some (.builtin "object.__setattr__"))
theorem Cls.get {K : PySem.W.Frag} {C : Addr} (c : Cls K C) (f : Str) : PySem.W.plainGet K C f = true := c.pg
/-- no class of it has the name -/
def NoAttr (K : PySem.W.Frag) (C : Addr) (f : Str) : Prop := PySem.W.findIn K (.ref C) f = some none
theorem NoAttr.taker {K : PySem.W.Frag} {C : Addr} {f : Str} (n : NoAttr K C f) : PySem.W.takerIn K C f = some none := by
  unfold PySem.W.takerIn
  rw [show PySem.W.findIn K (.ref C) f = some none from n]
  rfl
/-- a method: a plain def of the class or of one above it -/
structure Meth (K : PySem.W.Frag) (C : Addr) (m : Str) (f : Addr) : Prop where
  at_ : PySem.W.findIn K (.ref C) m = some (some (.ref f))
  fn : PySem.W.isFn K (.ref f) = true
  kp : PySem.W.keepIn K (.ref f) = true

section
variable {X : Cx} {pins : List (Addr × Obj)} {σ : St} {H : Hp} {s : Shared} {a C dx : Addr} {fs : List (Str × V)} {f : Str} {v : V} {A : Around} {E : Value → Shared → Prop}

theorem getattr_ok {b : Bool} {Q : Value → Shared → Prop} (I : Inv X pins σ H s) (e : H a = some (.ins C dx fs)) (c : Cls X.K C) (n : NoAttr X.K C f) (l : fs.lookup f = some v)
    (h : ∀ u s', Inv X pins σ H s' → RelV v u → Q u s') : wpAny (model X.prog X.w) A (getAttr (.ref a) f b) Q E s := by
  obtain ⟨mA, O, r, _, _, _⟩ := ins_get I.hok e
  obtain ⟨u, hu, ru⟩ := RelO.some_of (v := v) (o := mA f) (by rw [← l]; exact r f)
  exact get_map I.kIn O (c.get f) c.hd n hu (handed_of ru) (h u _ (I.tok _) ru)



theorem setattr_ok {y : V} {u : Value} {Q : Unit → Shared → Prop} (I : Inv X pins σ H s) (e : H a = some (.ins C dx fs)) (c : Cls X.K C) (n : NoAttr X.K C f) (hl : fs.length < 1000) (ry : RelV y u)
    (h : ∀ s', Inv X pins σ (upd H a (.ins C dx (putF f y fs))) s' → Q () s') : wpAny (model X.prog X.w) A (setAttr (.ref a) f u) Q E s := by
  obtain ⟨mA, O, r, wi, _, ho⟩ := ins_get I.hok e
  have hz : (fs.map (·.1)).length ≤ sizeLine := by rw [List.length_map, sizeLine_eq]; omega
  refine set_map I.kIn O c.sa c.po n.taker c.hd wi hz fun h' O' sb => h _ ?_
  have hd : ∃ o, h'.get? dx = some o := let ⟨o, _, _, e', _⟩ := O'.ns; ⟨o, e'⟩
  refine I.write (x := a) (e := dx) (by rw [e]; exact True.intro) (.inr ho) (fun b q hb z => (sb.2 b hb).trans z) hd ?_
  refine ⟨by rw [upd_ne O.ne]; exact ho, ?_, O.ne, O'.obj, _, O'.ns, fun g => ?_, fun g hg => ?_⟩
  · have := length_putF f y fs; omega
  · show RelO ((putF f y fs).lookup g) (if g = f then some u else mA g)
    rw [lookup_putF]
    by_cases q : g = f
    · rw [if_pos q, if_pos q]; exact ry
    · rw [if_neg q, if_neg q]; exact r g
  · by_cases q : g = f
    · rw [q]; exact (keys_putF f y fs).1
    · refine (keys_putF f y fs).2 g (wi g fun z => hg ?_)
      show (if g = f then some u else mA g) = none
      rw [if_neg q]; exact z

/-- a new instance, tracked, without attributes -/
theorem Inv.made (I : Inv X pins σ H s) : Inv X pins σ (upd (upd H s.heap.objs.size (.own (s.heap.objs.size + 1))) (s.heap.objs.size + 1) (.ins C s.heap.objs.size []))
    { s with heap := (s.heap.push PySem.W.emptyDict).push (PySem.W.instObj C s.heap.objs.size) } := by
  have e1 : (s.heap.push PySem.W.emptyDict).get? s.heap.objs.size = some PySem.W.emptyDict := Heap.get?_push_size s.heap rfl
  have e2 : ((s.heap.push PySem.W.emptyDict).push (PySem.W.instObj C s.heap.objs.size)).get? (s.heap.objs.size + 1) = some (PySem.W.instObj C s.heap.objs.size) := by
    have := Heap.get?_push_size (s.heap.push PySem.W.emptyDict) (o := PySem.W.instObj C s.heap.objs.size) rfl
    rwa [Heap.size_push] at this
  have e3 : (s.heap.push PySem.W.emptyDict).Ns s.heap.objs.size (fun _ => none) := ⟨PySem.W.emptyDict, #[], _, e1, rfl, (fun e he => absurd he (by simp)), fun _ => rfl⟩
  have I1 := I.laid (a := s.heap.objs.size) (o := .own (s.heap.objs.size + 1)) (h' := s.heap.push PySem.W.emptyDict) (t' := s.toks) (fun b u q => Heap.get?_push_of_some _ q) (Nat.le_refl _) ⟨_, e1⟩
  refine I1.laid (a := s.heap.objs.size + 1) (o := .ins C s.heap.objs.size []) (t' := s.toks) (fun b u q => Heap.get?_push_of_some _ q) (Nat.le_of_eq (Heap.size_push _ _)) ?_
  have ne : s.heap.objs.size ≠ s.heap.objs.size + 1 := Nat.ne_of_lt (Nat.lt_succ_self _)
  refine ⟨by rw [upd_ne ne, upd_same], Nat.zero_le _, ne, e2, fun _ => none, (Heap.Ns1.of_empty e3).at fun o q => Heap.get?_push_of_some _ q, fun _ => True.intro, fun y hy => absurd rfl hy⟩

/-- e.f where nothing but the object is asked: through attributeBase (super) and the last hold -/
theorem attr_of {prog : Program} {w : World} {env : Env} {e : Expr} {f : Str} {pos : Pos} {s : Shared} {Q : Value → Shared → Prop} (hb : attributeBase e f env (eval e env) = eval e env)
    (h : wpAny (model prog w) A (eval e env) (fun o s₁ => wpAny (model prog w) A (getAttr o f true) Q E s₁) E s) : wpAny (model prog w) A (eval (.Attribute e f pos) env) Q E s :=
  Attribute_any_ h (by rw [arm_eval_Attribute, hb])
end

/-! ### readings and rules -/
/-- e.f, an attribute of the instance -/
def tFld (K : PySem.W.Frag) (ta : TE) (f : Str) : TE := fun σ H Q => ta σ H fun x H1 => ∃ a C dx fs v, x = .ref a ∧ H1 a = some (.ins C dx fs) ∧ Cls K C ∧ NoAttr K C f ∧ fs.lookup f = some v ∧ Q v H1
/-- e.f = value -/
def sFld (K : PySem.W.Frag) (ta tv : TE) (f : Str) : TS := fun D σ H => tv σ H fun y H1 => ta σ H1 fun x H2 => ∃ a C dx fs, x = .ref a ∧ H2 a = some (.ins C dx fs) ∧ Cls K C ∧ NoAttr K C f ∧ fs.length < 1000 ∧
  D.nx σ (upd H2 a (.ins C dx (putF f y fs)))

section
variable {X : Cx} {o e value : Expr} {f : Str} {pos pos' tpos : Pos} {ta tv : TE}
theorem pe_fld (he : PE X e ta) (hb : attributeBase e f X.env (eval e X.env) = eval e X.env) : PE X (.Attribute e f pos) (tFld X.K ta f) := by
  intro pins s σ H Q I h
  refine attr_of hb (thn (he pins s σ H _ I h) fun u s1 ⟨x, H1, I1, rx, a, C, dx, fs, v, ex, ea, c, n, l, q⟩ => ?_)
  subst ex
  obtain rfl : u = Value.ref a := rx
  exact getattr_ok I1 ea c n l fun u' s2 I2 ru => ⟨v, H1, I2, ru, q⟩
theorem ps_fld (ha : PE X o ta) (hv : PE X value tv) (hs : swapsWith value (some (.Attribute o f pos')) pos.line X.env = pure false) : PS X (.Assign [.Attribute o f pos'] value pos) (sFld X.K ta tv f) := by
  intro pins s σ H D I h
  refine plainObj_wpAny_Assign_Attribute (thn (hv pins s σ H _ I h) fun u s1 ⟨y, H1, I1, ry, q⟩ => thn (ha pins s1 σ H1 _ I1 q) fun ov s2 ⟨x, H2, I2, rx, a, C, dx, fs, ex, ea, c, n, l, q2⟩ => ?_) hs
  subst ex
  obtain rfl : ov = Value.ref a := rx
  exact setattr_ok I2 ea c n l ry fun s3 I3 => ⟨σ, _, I3, q2⟩

end

/-! ### isinstance -/
section
variable {X : Cx} {pins : List (Addr × Obj)} {σ : St} {H : Hp} {s : Shared} {A : Around} {E : Value → Shared → Prop} {Q : Value → Shared → Prop} {c : Value} {b : Bool}
/-- the type of a value, as the fragment's deciders take it; for an instance its class -/
inductive TyOf (K : PySem.W.Frag) (H : Hp) : V → Value → Prop where
  | non : TyOf K H .non (.type "NoneType")
  | bl (x : Bool) : TyOf K H (.bl x) (.type "bool")
  | int (i : Int) : TyOf K H (.int i) (.type "int")
  | str (x : Str) : TyOf K H (.str x) (.type "str")
  | flt (x : UInt64) : TyOf K H (.flt x) (.type "float")
  | lst {a : Addr} {xs : List V} (e : H a = some (.lst xs)) : TyOf K H (.ref a) (.type "list")
  | frz {a : Addr} {o : Obj} {xs : List V} (e : H a = some (.frz o (.lst xs))) : TyOf K H (.ref a) (.type "list")
  | tup {a : Addr} {xs : List V} (e : H a = some (.tup xs)) : TyOf K H (.ref a) (.type "tuple")
  | dK {a : Addr} {kvs : List (Key × V)} (e : H a = some (.dK kvs)) : TyOf K H (.ref a) (.type "dict")
  | dT {a : Addr} {kvs : List (List Key × V)} (e : H a = some (.dT kvs)) : TyOf K H (.ref a) (.type "dict")
  | ins {a C dx : Addr} {fs : List (Str × V)} (e : H a = some (.ins C dx fs)) (cl : Cls K C) (ha : PySem.W.findIn K (.ref C) "__class__" = some (some (.builtin "object.__class__")))
      (hn : PySem.W.specialIn K (.builtin "object.__class__") "__get__" = some (some (.builtin "getset_descriptor.__get__"))) (htk : PySem.W.takesIn K (.builtin "object.__class__") = some true)
      (hm : PySem.W.mroIn K C (.type "object") = some true) : TyOf K H (.ref a) (.ref C)
/-- isinstance(x, c) for one class c, a built-in or an own one: kitOne's answer -/
theorem isinst_ok {x : V} {u t : Value} (I : Inv X pins σ H s) (rx : RelV x u) (ty : TyOf X.K H x t) (e : PySem.W.kitOne X.K t c = some b) (h : ∀ tk, Q (.bool b) { s with toks := tk }) :
    wpAny (model X.prog X.w) A (call (.builtin "isinstance") [u, c]) Q E s := by
  cases ty with
  | non => cases (show u = Value.none from rx); exact PySem.W.kia_one PySem.W.kitx_none I.kIn True.intro e (fun z => nomatch z) h
  | bl y => cases (show u = Value.bool y from rx); exact PySem.W.kia_one PySem.W.kitx_bool I.kIn True.intro e (fun z => nomatch z) h
  | int i => obtain ⟨t, q⟩ := (show ∃ t, u = Value.int i t from rx); cases q; exact PySem.W.kia_one PySem.W.kitx_int I.kIn True.intro e (fun z => nomatch z) h
  | str y => obtain ⟨t, q⟩ := (show ∃ t, u = Value.str y t from rx); cases q; exact PySem.W.kia_one PySem.W.kitx_str I.kIn True.intro e (fun z => nomatch z) h
  | flt y => obtain ⟨t, q⟩ := (show ∃ t, u = Value.float y t from rx); cases q; exact PySem.W.kia_one PySem.W.kitx_float I.kIn True.intro e (fun z => nomatch z) h
  | @lst a xs ea =>
    cases (show u = Value.ref a from rx)
    obtain ⟨_, _, n, _, h1⟩ := (show ObjOk X.prog X.w H s.heap a (.lst xs) from I.hok a _ ea)
    exact PySem.W.kia_one PySem.W.kitx_list I.kIn ⟨_, h1, rfl⟩ e (fun z => nomatch z) h
  | @frz a ob xs ea =>
    cases (show u = Value.ref a from rx)
    obtain ⟨_, _, _, n, _, h1⟩ := (show ObjOk X.prog X.w H s.heap a (.frz ob (.lst xs)) from I.hok a _ ea)
    exact PySem.W.kia_one PySem.W.kitx_list I.kIn ⟨_, h1, rfl⟩ e (fun z => nomatch z) h
  | @tup a xs ea =>
    cases (show u = Value.ref a from rx)
    obtain ⟨_, _, _, p⟩ := (show ObjOk X.prog X.w H s.heap a (.tup xs) from I.hok a _ ea)
    obtain ⟨o, h1, h2, _⟩ := p
    exact PySem.W.kia_one PySem.W.kitx_tuple I.kIn ⟨o, h1, h2⟩ e (fun z => nomatch z) h
  | @dK a kvs ea =>
    cases (show u = Value.ref a from rx)
    obtain ⟨_, _, vs, _, p⟩ := (show ObjOk X.prog X.w H s.heap a (.dK kvs) from I.hok a _ ea)
    obtain ⟨o, es, ep, h1, h2, _⟩ := p
    exact PySem.W.kia_one PySem.W.kitx_dict I.kIn ⟨o, h1, h2.1⟩ e (fun z => nomatch z) h
  | @dT a kvs ea =>
    cases (show u = Value.ref a from rx)
    obtain ⟨_, _, xs, _, o, es, ep, h1, h2, _⟩ := (show ObjOk X.prog X.w H s.heap a (.dT kvs) from I.hok a _ ea)
    exact PySem.W.kia_one PySem.W.kitx_dict I.kIn ⟨o, h1, h2.1⟩ e (fun z => nomatch z) h
  | @ins a C dx fs ea cl ha hn htk hm =>
    cases (show u = Value.ref a from rx)
    obtain ⟨mA, O, _⟩ := ins_get I.hok ea
    obtain ⟨od, J, _⟩ := O.look
    exact PySem.W.kia_one (PySem.W.kitx_own (cl.get _) cl.hd ha hn htk hm) I.kIn J e (fun z => nomatch z) h
end
end L2

namespace L2
open PySem PySem.Spec PyProof.Rows

/-! ### room -/
structure Room (k : Nat) (A : Around) : Prop where
  hd : A.handled = none
  dp : A.depth + 3 * k + 5 < recursionLimit
  un : A.units + 16 * k + 200 < cLine
theorem Room.mono {j k : Nat} {A : Around} (r : Room k A) (h : j ≤ k) : Room j A := ⟨r.hd, by have := r.dp; omega, by have := r.un; omega⟩
theorem Room.deeper {k : Nat} {A : Around} (r : Room (k + 1) A) (env : Env) : Room k (A.deeper env) :=
  ⟨r.hd, by have := r.dp; show A.depth + 1 + 3 * k + 5 < _; omega, by have := r.un; show A.units + 3 + 16 * k + 200 < _; omega⟩
theorem make_depth {A : Around} {C : Addr} {us : List Value} {kw : List (Str × Value)} : (A.under (.builtin "type.__call__" ⟨.ref C :: us, kw⟩)).depth = A.depth + 1 := by
  first | rfl | simp [Around.under, Code.weight, Code.isCreation, Code.isGuard, Code.isCaller, Code.frames, Code.isFrame, guardIds]
theorem make_units {A : Around} {C : Addr} {us : List Value} {kw : List (Str × Value)} : (A.under (.builtin "type.__call__" ⟨.ref C :: us, kw⟩)).units = A.units + 1 := by
  first | rfl | simp [Around.under, Code.cUnits, Code.frames, Code.isFrame]
theorem Room.make {k : Nat} {A : Around} (r : Room (k + 1) A) (C : Addr) (us : List Value) (kw : List (Str × Value)) : Room k (A.under (.builtin "type.__call__" ⟨.ref C :: us, kw⟩)) :=
  ⟨r.hd, by have := r.dp; rw [make_depth]; omega, by have := r.un; rw [make_units]; omega⟩
theorem Room.depth {k : Nat} {A : Around} (r : Room k A) : A.depth < recursionLimit := by have := r.dp; omega

/-! ### argument lists and displays -/
def tNil : TA := fun _ H Q => Q [] H
def tCons (ta : TE) (tr : TA) : TA := fun σ H Q => ta σ H fun x H1 => tr σ H1 fun xs H2 => Q (x :: xs) H2
section
variable {X : Cx} {e : Expr} {es : List Expr} {te : TE} {t : TA} {pos : Pos}
theorem pa_nil : PA X [] tNil := fun _ _ _ _ H Q I h => Calls.spliced_nil ⟨[], H, I, .nil, h⟩
theorem pa_cons (ha : PE X e te) (hr : PA X es t) (hs : starEach (e :: es) X.env = (false, eval e X.env) :: starEach es X.env := by rfl) : PA X (e :: es) (tCons te t) := by
  intro pos pins s σ H Q I h
  rw [hs]
  show wpAny _ _ (spliced ((false, eval e X.env) :: backTo pos (starEach es X.env))) _ _ s
  refine Calls.spliced_cons (thn (ha pins s σ H _ I h) fun u s1 ⟨x, H1, I1, r1, q1⟩ => ?_)
  exact thn (hr pos pins s1 σ H1 _ I1 q1) fun us s2 ⟨xs, H2, I2, r2, q2⟩ => ⟨x :: xs, H2, I2, .cons r1 r2, q2⟩

end

/-! ### what a def promises -/
/-- a def's promise: the bound arguments in the parameters' order, the heap, the wanted end, the wanted exception -/
abbrev Sp := List V → Hp → VK → XK → Prop
/-- how an exception lies behind a call (file 08 gives it): the callers' frames, abstract heap and state ahead of the call, the wish, the exception, the state -/
abbrev CXT := List Env → Hp → Shared → XK → Value → Shared → Prop

/-- the state at a call -/
structure Env0 (P : Program) (w : World) (K : PySem.W.Frag) (mg : Str → Option Value) (base : Heap) (A : Around) (outer : List Env) (s : Shared) (H : Hp) : Prop where
  frames : A.frames = some outer
  mod : Mod K mg base
  bs : ∀ b o, base.get? b = some o → s.heap.get? b = some o ∧ H b = none
  bsz : base.objs.size ≤ s.heap.objs.size
  funs : s.heap.FunFrames base outer
  frf : ∀ b ∈ frs outer, H b = none
  hok : HOk P w H s.heap
  bare : AllBare s.gens
/-- a call's end -/
def CE (outer : List Env) (P : Program) (w : World) (H : Hp) (s : Shared) (Q : VK) (u : Value) (s' : Shared) : Prop :=
  ∃ v H', s'.os = s.os ∧ AllBare s'.gens ∧ Un (frs outer) [] H H' s.heap s'.heap ∧ HOk P w H' s'.heap ∧ RelV v u ∧ Q v H'
def CR (CX : CXT) (outer : List Env) (P : Program) (w : World) (H : Hp) (s : Shared) (Q : VK) (E : XK) (r : Result) (s' : Shared) : Prop :=
  match r with
  | .ok (.ret u) => CE outer P w H s Q u s'
  | .ok _ => False
  | .error e => CX outer H s E e s'
structure FnOk (P : Program) (w : World) (K : PySem.W.Frag) (mg : Str → Option Value) (base : Heap) (CX : CXT) (k : Nat) (f : Addr) (fd : FuncData) (ps : List Str) (sp : Sp) : Prop where
  len : ∀ vs H Q E, sp vs H Q E → vs.length = ps.length
  run : ∀ (A : Around) (outer : List Env) (s : Shared) (H : Hp) (args : Args) (us : List Value) (vs : List V) (Q : VK) (E : XK), Room k A → Env0 P w K mg base A outer s H → BindsTo s fd args (ps.zip us) → Vals vs us → sp vs H Q E →
    codeAny (model P w) A (.call (.ref f) args) (CR CX outer P w H s Q E) s
theorem FnOk.mono {P : Program} {w : World} {K : PySem.W.Frag} {mg : Str → Option Value} {base : Heap} {CX : CXT} {j k : Nat} {f : Addr} {fd : FuncData} {ps : List Str} {sp : Sp} (F : FnOk P w K mg base CX j f fd ps sp) (h : j ≤ k) :
    FnOk P w K mg base CX k f fd ps sp := ⟨F.len, fun A outer s H args us vs Q E hr => F.run A outer s H args us vs Q E (hr.mono h)⟩

theorem Env0.make {P : Program} {w : World} {K : PySem.W.Frag} {mg : Str → Option Value} {base : Heap} {A : Around} {outer : List Env} {s : Shared} {H : Hp} (e : Env0 P w K mg base A outer s H) (C : Addr) (us : List Value) (kw : List (Str × Value)) :
    Env0 P w K mg base (A.under (.builtin "type.__call__" ⟨.ref C :: us, kw⟩)) outer s H := ⟨by first | exact e.frames | (simpa [Around.under, Code.envs, Code.isFrame, pushEnvs] using e.frames), e.mod, e.bs, e.bsz, e.funs, e.frf, e.hok, e.bare⟩

section
variable {X : Cx} {pins : List (Addr × Obj)} {σ : St} {H : Hp} {s s' : Shared}
/-- from a body: what a callee wants -/
theorem Inv.env0 (I : Inv X pins σ H s) : Env0 X.prog X.w X.K X.mg X.base X.A X.stack s H :=
  ⟨I.ok.frames, I.ok.mod, I.bs, Nat.le_trans I.ok.bsz I.sz, I.stack, I.stkFree, I.hok, I.bare⟩
/-- behind a call -/
theorem Inv.after {Q : VK} {u : Value} (I : Inv X pins σ H s) (h : CE X.stack X.prog X.w H s Q u s') : EP X pins σ Q u s' := by
  obtain ⟨v, H', os, bare, un, hok, r, q⟩ := h
  obtain ⟨hh, g, d, t, os'⟩ := s'
  obtain rfl : os' = s.os := os
  exact ⟨v, H', I.call (h' := hh) (g' := g) (d' := d) (t' := t) (ch := []) un hok bare (fun b z => absurd z (by simp)), r, q⟩
end

/-! ### calls -/
/-- f(..): the written arguments, then the defaults dvs; E: what is wanted of an exception -/
def tCall (sp : Sp) (dvs : List V) (E : XK) (t : TA) : TE := fun σ H Q => t σ H fun vs H1 => sp (vs ++ dvs) H1 Q E
/-- C(..): a new instance and its dict, then __init__ -/
def tMake (C : Addr) (sp : Sp) (dvs : List V) (E : XK) (t : TA) : TE := fun σ H Q => t σ H fun vs H1 => ∀ x dx, H1 x = none → H1 dx = none → dx ≠ x →
  sp (.ref x :: (vs ++ dvs)) (upd (upd H1 dx (.own x)) x (.ins C dx [])) (fun v H2 => v = .non ∧ Q (.ref x) H2) E

/-- how the parameters are bound: us the positional arguments, kw the keywords' values by name, ds the defaults that fill up -/
def Binds (K : PySem.W.Frag) (fd : FuncData) (ps : List Str) (ds : List Value) : Prop :=
  ∀ (s : Shared) (us : List Value), K.In s.heap → (us ++ ds).length = ps.length → BindsTo s fd ⟨us, []⟩ (ps.zip (us ++ ds))
/-- every parameter is given -/
theorem Binds.all {K : PySem.W.Frag} {fd : FuncData} {ps : List Str} (h : ∀ us : List Value, us.length = ps.length → bindArgs fd ⟨us, []⟩ = pure (ps.zip us)) : Binds K fd ps [] := fun s us _ hl => by
  rw [List.append_nil] at hl ⊢
  exact .of_eq (h us hl)

/-- an exception of a callee reaches what this body wants of exceptions -/
def Passes (CX : CXT) (X : Cx) (E : XK) : Prop := ∀ (pins : List (Addr × Obj)) (σ : St) (H : Hp) (s : Shared) (e : Value) (s' : Shared), Inv X pins σ H s → CX X.stack H s E e s' → X.xe e s'

section
variable {X : Cx} {CX : CXT} {k : Nat} {f C : Addr} {fd : FuncData} {ps : List Str} {sp : Sp} {dvs : List V} {ds : List Value} {E : XK} {x m : Str} {p pos apos : Pos} {e o : Expr} {es : List Expr} {ta : TE} {t : TA}

/-- the callee runs -/
theorem run_fn {pins : List (Addr × Obj)} {σ : St} {H : Hp} {s : Shared} {Q : VK} {us : List Value} {vs : List V} (F : FnOk X.prog X.w X.K X.mg X.base CX k f fd ps sp) (hr : Room k X.A) (hb : Binds X.K fd ps ds) (hd : Vals dvs ds) (hx : Passes CX X E)
    (I : Inv X pins σ H s) (r : Vals vs us) (h : sp (vs ++ dvs) H Q E) : wpAny (model X.prog X.w) X.A (call (.ref f) us) (EP X pins σ Q) X.xe s := by
  have r2 : Vals (vs ++ dvs) (us ++ ds) := r.append hd
  have hl : (us ++ ds).length = ps.length := by rw [← r2.length]; exact F.len _ _ _ _ h
  refine wpAny_call (codeAny_mono (F.run X.A X.stack s H ⟨us, []⟩ (us ++ ds) (vs ++ dvs) Q E hr I.env0 (hb s us I.kIn hl) r2 h) fun r s' hq => ?_)
  cases r with
  | error e => exact hx pins σ H s e s' I hq
  | ok fl =>
    cases fl with
    | ret u => exact I.after hq
    | next => exact False.elim hq
    | brk => exact False.elim hq
    | cont => exact False.elim hq

theorem pe_call (F : FnOk X.prog X.w X.K X.mg X.base CX k f fd ps sp) (hr : Room k X.A) (hg : Gl X x) (hm : X.mg x = some (.ref f)) (hk : PySem.W.keepIn X.K (.ref f) = true) (hb : Binds X.K fd ps ds) (hd : Vals dvs ds) (hx : Passes CX X E)
    (ha : PA X (e :: es) t) (hdb : (x == ("__debug__" : Str)) = false := by decide) (he : starEach (e :: es) X.env = (false, eval e X.env) :: starEach es X.env := by rfl) (hpl : (backTo pos (starEach es X.env)).any (·.1) = false := by rfl) :
    PE X (.Call (.Name x p) (e :: es) [] pos) (tCall sp dvs E t) := by
  intro pins s σ H Q I h
  refine wpAny_Call_Name_kw (ld_glob I hg hm ?_ hdb)
  refine PySem.W.callWith_K (h₀ := X.base) I.ok.mod.kin hk (thn (ha pos pins s σ H _ I h) fun us s1 ⟨vs, H1, I1, r, q⟩ => ⟨I1.kIn, ?_⟩) he hpl
  exact run_fn F hr hb hd hx I1 r q


/-- what a class must have to be made -/
structure Mk (K : PySem.W.Frag) (C f : Addr) : Prop where
  makes : PySem.W.makesIn K C = true
  init : PySem.W.findIn K (.ref C) "__init__" = some (some (.ref f))
  fn : PySem.W.isFn K (.ref f) = true
  kp : PySem.W.keepIn K (.ref C) = true

theorem run_make {pins : List (Addr × Obj)} {σ : St} {H : Hp} {s : Shared} {Q : VK} {us : List Value} {vs : List V} (M : Mk X.K C f) (F : FnOk X.prog X.w X.K X.mg X.base CX k f fd ps sp) (hr : Room (k + 1) X.A) (hb : Binds X.K fd ps ds) (hd : Vals dvs ds)
    (hx : Passes CX X E) (I : Inv X pins σ H s) (r : Vals vs us)
    (h : ∀ x dx, H x = none → H dx = none → dx ≠ x → sp (.ref x :: (vs ++ dvs)) (upd (upd H dx (.own x)) x (.ins C dx [])) (fun v H2 => v = .non ∧ Q (.ref x) H2) E) :
    wpAny (model X.prog X.w) X.A (call (.ref C) us) (EP X pins σ Q) X.xe s := by
  have hq := h (s.heap.objs.size + 1) s.heap.objs.size (I.hok.fresh (Nat.le_succ _)) (I.hok.fresh (Nat.le_refl _)) (Nat.ne_of_lt (Nat.lt_succ_self _))
  have I2 := Inv.made (C := C) I
  have r2 : Vals (V.ref (s.heap.objs.size + 1) :: (vs ++ dvs)) (Value.ref (s.heap.objs.size + 1) :: (us ++ ds)) := .cons rfl (r.append hd)
  have hl : (Value.ref (s.heap.objs.size + 1) :: us ++ ds).length = ps.length := by
    have e := r2.length
    rw [F.len _ _ _ _ hq] at e
    exact e.symm
  refine wpAny_call (make_map (f := f) I.kIn M.makes M.init (beq_iff_eq.mp M.fn) (codeAny_mono (F.run _ X.stack _ _ ⟨Value.ref (s.heap.objs.size + 1) :: us, []⟩ (Value.ref (s.heap.objs.size + 1) :: (us ++ ds)) _ _ E (hr.make C us [])
    (I2.env0.make C us []) (hb _ (Value.ref (s.heap.objs.size + 1) :: us) I2.kIn hl) r2 hq) fun r s' hq' => ?_))
  cases r with
  | error e => exact hx pins σ _ _ e s' I2 hq'
  | ok fl =>
    cases fl with
    | ret u =>
      obtain ⟨v, H', I3, rv, ev, q3⟩ := I2.after hq'
      subst ev
      exact ⟨rv, ⟨V.ref (s.heap.objs.size + 1), H', I3, rfl, q3⟩⟩
    | next => exact False.elim hq'
    | brk => exact False.elim hq'
    | cont => exact False.elim hq'
theorem pe_make (M : Mk X.K C f) (F : FnOk X.prog X.w X.K X.mg X.base CX k f fd ps sp) (hr : Room (k + 1) X.A) (hg : Gl X x) (hm : X.mg x = some (.ref C)) (hb : Binds X.K fd ps ds) (hd : Vals dvs ds) (hx : Passes CX X E)
    (ha : PA X (e :: es) t) (hdb : (x == ("__debug__" : Str)) = false := by decide) (he : starEach (e :: es) X.env = (false, eval e X.env) :: starEach es X.env := by rfl) (hpl : (backTo pos (starEach es X.env)).any (·.1) = false := by rfl) :
    PE X (.Call (.Name x p) (e :: es) [] pos) (tMake C sp dvs E t) := by
  intro pins s σ H Q I h
  refine wpAny_Call_Name_kw (ld_glob I hg hm ?_ hdb)
  refine PySem.W.callWith_K (h₀ := X.base) I.ok.mod.kin M.kp (thn (ha pos pins s σ H _ I h) fun us s1 ⟨vs, H1, I1, r, q⟩ => ⟨I1.kIn, ?_⟩) he hpl
  exact run_make M F hr hb hd hx I1 r q
end

/-! ### keywords -/
section
variable {X : Cx} {CX : CXT} {k : Nat} {f C : Addr} {fd : FuncData} {ps ks : List Str} {sp : Sp} {E : XK} {x m : Str} {p pos apos kpos : Pos} {e o : Expr} {es : List Expr} {kws : List Keyword} {te ta : TE} {t tk : TA} {nm : Option Str}

variable {g : List Value → List Value → List Value} {gV : List V → List V → List V}
end

/-! ### a def's body keeps its promise -/
/-- names: the parameters first -/
structure FnScope (N P : List Str) (sc : Scope) : Prop where
  kind : sc.kind = .function
  co : sc.isCoroutine = false
  gen : sc.isGenerator = false
  nd : N.Nodup
  pre : N.take P.length = P
  par : ∀ x ∈ P, sc.names.lookup x = some .local ∨ sc.names.lookup x = some .cell
  nofree : ∀ y ∈ sc.names, y.2 ≠ .free

theorem bindL_out {kindOf : Str → Option NameKind} {x : Str} : ∀ {binds : List (Str × Value)} {m : Str → Option Value}, (∀ v, (x, v) ∉ binds) → bindL kindOf binds m x = m x
  | [], _, _ => rfl
  | (n, v) :: r, m, h => by
    unfold bindL
    rw [bindL_out fun w hw => h w (List.mem_cons_of_mem _ hw)]
    split
    · have : x ≠ n := by rintro rfl; exact h v List.mem_cons_self
      simp [this]
    · rfl
theorem bindC_out {kindOf : Str → Option NameKind} {x : Str} : ∀ {binds : List (Str × Value)} {m : Str → Option Value}, (∀ v, (x, v) ∉ binds) → bindC kindOf binds m x = m x
  | [], _, _ => rfl
  | (n, v) :: r, m, h => by
    unfold bindC
    rw [bindC_out fun w hw => h w (List.mem_cons_of_mem _ hw)]
    split
    · rfl
    · have : x ≠ n := by rintro rfl; exact h v List.mem_cons_self
      simp [this]
theorem bindL_get {kindOf : Str → Option NameKind} {x : Str} {v : Value} : ∀ {P : List Str} {vs : List Value} {i : Nat} {m : Str → Option Value}, P.Nodup → P[i]? = some x → vs[i]? = some v → kindOf x = some .local →
    bindL kindOf (P.zip vs) m x = some v
  | [], _, _, _, _, h, _, _ => by simp at h
  | _ :: _, [], _, _, _, _, h, _ => by simp at h
  | p :: P, w :: vs, 0, m, nd, h1, h2, hk => by
    simp at h1 h2; subst h1; subst h2
    show bindL kindOf ((p, w) :: P.zip vs) m p = _
    unfold bindL
    rw [bindL_out fun v hv => (List.nodup_cons.mp nd).1 (List.of_mem_zip hv).1, if_pos hk]
    simp
  | p :: P, w :: vs, i + 1, m, nd, h1, h2, hk => by
    show bindL kindOf ((p, w) :: P.zip vs) m x = _
    unfold bindL
    exact bindL_get (i := i) (List.nodup_cons.mp nd).2 (by simpa using h1) (by simpa using h2) hk
theorem bindC_get {kindOf : Str → Option NameKind} {x : Str} {v : Value} : ∀ {P : List Str} {vs : List Value} {i : Nat} {m : Str → Option Value}, P.Nodup → P[i]? = some x → vs[i]? = some v → kindOf x ≠ some .local →
    bindC kindOf (P.zip vs) m x = some v
  | [], _, _, _, _, h, _, _ => by simp at h
  | _ :: _, [], _, _, _, _, h, _ => by simp at h
  | p :: P, w :: vs, 0, m, nd, h1, h2, hk => by
    simp at h1 h2; subst h1; subst h2
    show bindC kindOf ((p, w) :: P.zip vs) m p = _
    unfold bindC
    rw [bindC_out fun v hv => (List.nodup_cons.mp nd).1 (List.of_mem_zip hv).1, if_neg hk]
    simp
  | p :: P, w :: vs, i + 1, m, nd, h1, h2, hk => by
    show bindC kindOf ((p, w) :: P.zip vs) m x = _
    unfold bindC
    exact bindC_get (i := i) (List.nodup_cons.mp nd).2 (by simpa using h1) (by simpa using h2) hk

/-- the names' values at the entry -/
def start (N : List Str) (vs : List V) : St := vs.map some ++ List.replicate (N.length - vs.length) none

/-- the context of a def's body, at its entry; an exception leaves the frame, then lies as CX says -/
def cxOf (CX : CXT) (P : Program) (w : World) (K : PySem.W.Frag) (mg : Str → Option Value) (base : Heap) (N : List Str) (qual : Str) (scope : Scope) (f : Addr) (cd : Value) (A : Around) (outer : List Env) (s : Shared) (H : Hp) (E : XK) : Cx where
  prog := P
  w := w
  K := K
  mg := mg
  base := base
  A := A.deeper (envOfC qual scope s.heap.objs.size f cd)
  N := N
  s₀ := s
  H₀ := H
  env := envOfC qual scope s.heap.objs.size f cd
  outer := outer
  stack := envOfC qual scope s.heap.objs.size f cd :: outer
  ex := []
  calm := true
  fn := fun _ => true
  pn := []
  xe := fun e s' => wpAny (model P w) (A.deeper (envOfC qual scope s.heap.objs.size f cd)) (leaving (envOfC qual scope s.heap.objs.size f cd) e) (fun _ s'' => CX outer H s E e s'') (fun e' s'' => CX outer H s E e' s'') s'

theorem cell_has {sc : Scope} {n : Nat} {x : Str} (h : sc.names.lookup x = some .cell) : ∃ c, (cellsFrom n sc.names []).lookup x = some c := by
  have q := PySem.W.cellsFrom_some sc.names n [] (.inl h)
  exact Option.isSome_iff_exists.mp q

theorem inv_start {CX : CXT} {P : Program} {w : World} {K : PySem.W.Frag} {mg : Str → Option Value} {base : Heap} {N ps : List Str} {qual : Str} {scope : Scope} {f : Addr} {cd : Value} {A : Around} {outer : List Env} {s s1 : Shared} {H : Hp} {E : XK} {us : List Value} {vs : List V}
    (S : FnScope N ps scope) (hd : A.handled = none) (e0 : Env0 P w K mg base A outer s H) (hl : vs.length = ps.length) (r : Vals vs us)
    (x : InCallC s s.heap.objs.size (bindL (envOfC qual scope s.heap.objs.size f cd).kindOf (ps.zip us) fun _ => none) (cellsFrom (s.heap.objs.size + 1) scope.names []) (bindC (envOfC qual scope s.heap.objs.size f cd).kindOf (ps.zip us) fun _ => none) s1) :
    Inv (cxOf CX P w K mg base N qual scope f cd A outer s H E) [] (start N vs) H s1 := by
  have hpl : ps.length ≤ N.length := by have := congrArg List.length S.pre; rw [List.length_take] at this; omega
  obtain ⟨h1, tk, rfl, hk⟩ := x.done
  have noA : ∀ b : Addr, b ∉ (cxOf CX P w K mg base N qual scope f cd A outer s H E).ex := fun b z => absurd (show b ∈ ([] : List Addr) from z) (by simp)
  refine ⟨⟨e0.mod, S.kind, rfl, rfl, Nat.le_refl _, fun y z c h1 h2 => ?_, fun y hy => ?_, fun y c _ h => ?_, fun _ => hd, Around.frames_deeper e0.frames, .inr ⟨rfl, rfl⟩, fun b z => absurd z (noA b), e0.bs, e0.bsz, fun b _ _ => noA b, fun b z => absurd z (noA b), e0.funs, e0.frf⟩,
    rfl, e0.bare, Un.kept hk, ⟨_, x.toInCall.ns, fun i y v h1 h2 h3 => ?_⟩, fun y c h => ⟨_, x.cell y c h⟩, e0.hok.fresh (Nat.le_refl _), fun y c h => ?_, fun p hp => absurd (show p ∈ ([] : List (Addr × Obj)) from hp) (by simp), e0.hok.kept hk, ?_⟩
  · exact name_of_addr x.apart (PySem.mem_of_lookup h1) (PySem.mem_of_lookup h2)
  · have hy : scope.names.lookup y = some .cell ∨ scope.names.lookup y = some .free := hy
    rcases hy with hy | hy
    · exact cell_has hy
    · exact absurd rfl (S.nofree _ (PySem.mem_of_lookup hy))
  · exact Nat.le_of_lt (x.above y c (PySem.mem_of_lookup h))
  · have hi : i < vs.length := by
      unfold start at h2
      by_cases hi : i < vs.length
      · exact hi
      · rw [List.getElem?_append_right (by simpa using hi)] at h2
        rw [List.getElem?_replicate] at h2
        split at h2 <;> cases h2
    have ha : vs[i]? = some v := by
      unfold start at h2
      rw [List.getElem?_append_left (by simpa using hi), List.getElem?_map] at h2
      cases e : vs[i]? with
      | none => rw [e] at h2; cases h2
      | some a => rw [e] at h2; cases h2; rfl
    obtain ⟨u, hu, rv⟩ := r.get ha
    have hp : ps[i]? = some y := by
      rw [← S.pre, List.getElem?_take_of_lt (by omega)]; exact h1
    have ndP : ps.Nodup := by rw [← S.pre]; exact S.nd.sublist (List.take_sublist _ _)
    refine ⟨u, rv, ?_⟩
    rcases S.par y (List.mem_of_getElem? hp) with k | k
    · exact .inl ⟨k, bindL_get ndP hp hu k⟩
    · obtain ⟨c, e⟩ := cell_has (n := s.heap.objs.size + 1) k
      refine .inr ⟨.inl k, c, e, ?_⟩
      have q := x.cell y c e
      rw [bindC_get ndP hp hu (by show scope.names.lookup y ≠ _; rw [k]; decide)] at q
      exact q
  · exact e0.hok.fresh (Nat.le_of_lt (x.above y c (PySem.mem_of_lookup h)))
  · unfold start
    show _ = N.length
    rw [List.length_append, List.length_map, List.length_replicate]
    omega

/-- THE RULE: a def (or a method) of the text, by its body. The body's reading t is chosen for each entry; it is run at the parameters' values -/
theorem fn_of {CX : CXT} {P : Program} {w : World} {K : PySem.W.Frag} {mg : Str → Option Value} {base : Heap} {k : Nat} {f : Addr} {name qual : Str} {params : Arguments} {body : List Stmt} {scope : Scope} {dV kV doc pm cdv ct oc : Value} {an od : Option Addr}
    {osl : Array (Option Value)} {N ps : List Str} {sp : Sp} (lk : K.lookup f = some ⟨oc, od, .func (PySem.W.fnOf name qual params body scope dV kV doc pm an cdv ct), osl⟩) (hcd : PySem.W.codeIn K cdv qual = true) (S : FnScope N ps scope)
    (len : ∀ vs H Q E, sp vs H Q E → vs.length = ps.length)
    (hbody : ∀ (A : Around) (outer : List Env) (s : Shared) (H : Hp) (vs : List V) (Q : VK) (E : XK), Room k (A.deeper (envOfC qual scope s.heap.objs.size f cdv)) → sp vs H Q E →
      ∃ t, PSs (cxOf CX P w K mg base N qual scope f cdv A outer s H E) body t ∧ t { nx := fun _ H' => Q .non H', rt := Q } (start N vs) H) :
    FnOk P w K mg base CX (k + 1) f (PySem.W.fnOf name qual params body scope dV kV doc pm an cdv ct) ps sp := by
  refine ⟨len, fun A outer s H args us vs Q E hr e0 hb r hsp => ?_⟩
  have hl := len _ _ _ _ hsp
  have KX : K.In s.heap := e0.mod.kin.keeps fun b o e => (e0.bs b o e).1
  have lim : s.heap.NoLimit := e0.mod.nolimit.keeps fun b o e => (e0.bs b o e).1
  have hkind : ∀ y ∈ ps.zip us, scope.names.lookup y.1 = some .local ∨ (scope.names.lookup y.1 = some .cell ∧ ((cellsFrom (s.heap.objs.size + 1) scope.names []).lookup y.1).isSome = true) := fun ⟨n, v⟩ hy => by
    rcases S.par n (List.of_mem_zip hy).1 with q | q
    · exact .inl q
    · exact .inr ⟨q, PySem.W.cellsFrom_some _ _ _ (.inl q)⟩
  refine codeAny_call_function hr.depth (KX _ _ lk) rfl S.co S.gen rfl (PySem.W.codeRec_of KX hcd) (hb _ _ _ _ ?_)
  refine wpAny_newFunctionEnv_cells S.kind hkind fun env he s1 x => ?_
  subst he
  refine ⟨lim.keeps x.toInCall.keep, codeAny_func ?_⟩
  obtain ⟨t, ht, hq⟩ := hbody A outer s H vs Q E (hr.deeper _) hsp
  have I : Inv (cxOf CX P w K mg base N qual scope f cdv A outer s H E) [] (start N vs) H s1 := inv_start S hr.hd e0 hl r x
  refine wpAny_mono (ht [] s1 (start N vs) H _ I hq) (fun fl s' hs => ?_) fun e s' hs => hs
  have fin : ∀ {σ' : St} {H' : Hp} {v : V} {u : Value}, Inv (cxOf CX P w K mg base N qual scope f cdv A outer s H E) [] σ' H' s' → RelV v u → Q v H' → CE outer P w H s Q u s' :=
    fun {σ' H' v u} J rv q => ⟨v, H', J.os, J.bare, J.base, J.hok, rv, q⟩
  cases fl with
  | ret u =>
    obtain ⟨v, σ', H', J, rv, q⟩ := hs
    exact fin J rv q
  | next =>
    obtain ⟨σ', H', J, q⟩ := hs
    exact fin (v := V.non) (u := Value.none) J rfl q
  | brk =>
    obtain ⟨_, _, _, q⟩ := hs
    exact False.elim q
  | cont =>
    obtain ⟨_, _, _, q⟩ := hs
    exact False.elim q
end L2

namespace L2
open PySem PySem.Spec PyProof.Rows
section
variable {X : Cx} {x : Str} {p pos : Pos} {e : Expr} {es : List Expr} {t : TA} {id T : String} {r : List V → Hp → VK → Prop}

def tCB (r : List V → Hp → VK → Prop) (t : TA) : TE := fun σ H Q => t σ H fun vs H1 => r vs H1 Q
/-- f(e, ..), f a built-in function -/
theorem pe_callB (hc : CallR X (.builtin id) r) (hg : Gl X x) (hm : X.mg x = none) (hv : bootBuiltins x = some (.builtin id)) (ha : PA X (e :: es) t) (hn : x ≠ "__name__" := by decide) (hdb : (x == ("__debug__" : Str)) = false := by decide)
    (he : starEach (e :: es) X.env = (false, eval e X.env) :: starEach es X.env := by rfl) (hpl : (backTo pos (starEach es X.env)).any (·.1) = false := by rfl) : PE X (.Call (.Name x p) (e :: es) [] pos) (tCB r t) := by
  intro pins s σ H Q I h
  refine wpAny_Call_Name_kw (ld_blt I hg hm hv ?_ hn hdb)
  exact PyProof.Rows.callWith_builtin1 (thn (ha pos pins s σ H _ I h) fun us s1 ⟨vs, H1, I1, r1, q1⟩ => hc pins s1 σ H1 vs us Q I1 r1 q1) he hpl
/-- T(e, ..), T a built-in type -/
theorem pe_callTy (hc : CallR X (.type T) r) (hg : Gl X x) (hm : X.mg x = none) (hv : bootBuiltins x = some (.type T)) (ha : PA X (e :: es) t) (hn : x ≠ "__name__" := by decide) (hdb : (x == ("__debug__" : Str)) = false := by decide)
    (he : starEach (e :: es) X.env = (false, eval e X.env) :: starEach es X.env := by rfl) (hpl : (backTo pos (starEach es X.env)).any (·.1) = false := by rfl) : PE X (.Call (.Name x p) (e :: es) [] pos) (tCB r t) := by
  intro pins s σ H Q I h
  refine wpAny_Call_Name_kw (ld_blt I hg hm hv ?_ hn hdb)
  exact PyProof.Rows.callWith_type1 (thn (ha pos pins s σ H _ I h) fun us s1 ⟨vs, H1, I1, r1, q1⟩ => hc pins s1 σ H1 vs us Q I1 r1 q1) he hpl
end
end L2

namespace HT
open PySem PyProof.Rows



section
open PySem.SeqAt
open PySem.AutoSeq1 (wpAny_loadPart')
open PySem.MeetsSeq PySem.MeetsSeq2 PySem.MeetsSeq3

end

section
variable {prog : Program} {w : World} {A : Around} {E : Value → Shared → Prop} {s : Shared}



/-! ### t[a:b], not the whole -/
/-- a slice's bound as a place among n (d where it is left out) -/
def sIx (n d : Nat) : Option Int → Nat
  | none => d
  | some v => if v < 0 then (v + (n : Int)).toNat else min v.toNat n
theorem sIx_le (n d : Nat) (hd : d ≤ n) (o : Option Int) : sIx n d o ≤ n := by
  cases o with
  | none => exact hd
  | some v =>
    show (if v < 0 then (v + (n : Int)).toNat else min v.toNat n) ≤ n
    by_cases hv : v < 0
    · rw [if_pos hv]; omega
    · rw [if_neg hv]; exact Nat.min_le_right _ _
theorem clip_eq (v : Int) (n d : Nat) : (if v < 0 then max (v + (n : Int)) 0 else min v (n : Int)) = ((sIx n d (some v) : Nat) : Int) := by
  show (if v < 0 then max (v + (n : Int)) 0 else min v (n : Int)) = (((if v < 0 then (v + (n : Int)).toNat else min v.toNat n) : Nat) : Int)
  by_cases hv : v < 0
  · simp only [if_pos hv]; omega
  · simp only [if_neg hv]; omega
theorem adjust_gen (lo hi : Option Int) (n : Nat) : Builtin.Slice.sliceAdjust lo hi 1 (n : Int) = (((sIx n 0 lo : Nat) : Int), ((sIx n n hi : Nat) : Int)) := by
  have h1 : ¬ ((1 : Int) < 0) := by omega
  unfold Builtin.Slice.sliceAdjust
  simp only [h1, if_false]
  refine Prod.ext ?_ ?_
  · cases lo with
    | none => rfl
    | some v => exact clip_eq v n 0
  · cases hi with
    | none => rfl
    | some v => exact clip_eq v n n
theorem places_gen (i j : Nat) : Builtin.Slice.slicePlaces (i : Int) (j : Int) 1 = j - i := by
  unfold Builtin.Slice.slicePlaces
  have h1 : (1 : Int) > 0 := by omega
  simp only [h1, if_true, Int.ediv_one]
  split <;> omega
theorem slicePart_ {v : Value} {o : Option Int} {Q : Option Int → Shared → Prop} (p : IsPart v o) (h : Q o s) : wpAny (model prog w) A (Builtin.Slice.slicePartIndex v) Q E s := by
  cases p with
  | none => exact slicePart_none h
  | int i t => exact slicePart_int h
theorem sliceApplied_gen {sl : Addr} {vl vu : Value} {lo hi : Option Int} {n : Nat} {Q : Int × Int × Nat → Shared → Prop} (hs : s.heap.IsSliceOf sl vl vu .none) (pl : IsPart vl lo) (pu : IsPart vu hi)
    (h : Q (((sIx n 0 lo : Nat) : Int), 1, sIx n n hi - sIx n 0 lo) s) : wpAny (model prog w) A (Builtin.Slice.sliceApplied (.ref sl) (pure (n : Int))) Q E s := by
  obtain ⟨os, hos, hcs, hds⟩ := id hs
  unfold Builtin.Slice.sliceApplied Builtin.Slice.sliceFields
  refine wpAny_bind (wpAny_bind (wpAny_field hos hds (x := vl) rfl (wpAny_bind (wpAny_field hos hds (x := vu) rfl (wpAny_bind (wpAny_field hos hds (x := .none) rfl (wpAny_pure ?_)))))))
  refine wpAny_bind (slicePart_none ?_)
  show wpAny _ _ (if ((1 : Int) == 0) = true then _ else _) _ _ s
  rw [if_neg (by decide)]
  refine wpAny_bind (slicePart_ pl (wpAny_bind (slicePart_ pu (wpAny_bind (wpAny_pure ?_)))))
  show wpAny _ _ (match Builtin.Slice.sliceAdjust lo hi 1 (n : Int) with | (lo, hi) => pure (lo, (1 : Int), Builtin.Slice.slicePlaces lo hi 1)) _ _ s
  rw [adjust_gen lo hi n]
  show wpAny _ _ (pure (((sIx n 0 lo : Nat) : Int), (1 : Int), Builtin.Slice.slicePlaces ((sIx n 0 lo : Nat) : Int) ((sIx n n hi : Nat) : Int) 1)) _ _ s
  rw [places_gen]
  exact wpAny_pure h
theorem pick_gen (xs : Array Value) (i k : Nat) : ((List.range k).filterMap fun (m : Nat) => xs[((i : Int) + (m : Int) * 1).toNat]?).toArray = ((xs.toList.drop i).take k).toArray := by
  have e : (fun (m : Nat) => xs[((i : Int) + (m : Int) * 1).toNat]?) = fun m => xs[i + m]? := by
    funext m
    have : ((i : Int) + (m : Int) * 1).toNat = i + m := by omega
    rw [this]
  rw [e]
  have := pick_run xs i k
  rw [List.filterMap_map] at this
  have e2 : ((fun x => xs[x]?) ∘ fun x => i + x) = fun m => xs[i + m]? := rfl
  rw [e2] at this
  rw [this]

theorem getItem_tuple_cut {t sl : Addr} {items : Array Value} {vl vu : Value} {lo hi : Option Int} {Q : Value → Shared → Prop} (ht : IsTup s.heap t items) (hs : s.heap.IsSliceOf sl vl vu .none) (pl : IsPart vl lo) (pu : IsPart vu hi)
    (hw : ¬ (sIx items.size 0 lo = 0 ∧ sIx items.size items.size hi = items.size))
    (h : Q (.ref s.heap.objs.size) { s with heap := s.heap.push { cls := .type "tuple", data := .seq ((items.toList.drop (sIx items.size 0 lo)).take (sIx items.size items.size hi - sIx items.size 0 lo)).toArray } })
    (hsz : items.size ≤ sizeLine) : wpAny (model prog w) A (getItem (.ref t) (.ref sl)) Q E s := by
  have htake : sizeOk (.seq ((items.toList.drop (sIx items.size 0 lo)).take (sIx items.size items.size hi - sIx items.size 0 lo)).toArray) := by
    show ((items.toList.drop (sIx items.size 0 lo)).take (sIx items.size items.size hi - sIx items.size 0 lo)).toArray.size ≤ sizeLine
    rw [List.size_toArray, List.length_take, List.length_drop, Array.length_toList]
    omega
  have hj : sIx items.size items.size hi ≤ items.size := sIx_le _ _ (Nat.le_refl _) hi
  obtain ⟨os, hos, hcs, hds⟩ := id hs
  have hTs : s.TypeIs (.ref sl) "slice" := ⟨os, hos, hcs⟩
  unfold getItem
  try with_reducible refine wpAny_holding ?_
  first | refine wpAny_bind (wpAny_pure ?_) | skip
  refine wpAny_bind (wpAny_sequenceKey ht.typeIs (by decide) ?_)
  refine wpAny_bind (wpAny_callSpecial?_slot (name := Str.ofString "__getitem__") ht.typeIs PyProof.Rows.slot_tuple_getitem
    (wpAny_call_entry PyProof.Rows.slot_tuple_getitem ht.typeIs entry_tuple_getitem ?_ (args_tuple_getitem _ _)))
  show wpAny _ _ (Builtin.Tuple.tupleItemsOf (.ref t) >>= _) _ _ s
  refine wpAny_bind (tupleItemsOf_ ht ?_)
  refine wpAny_bind (wpAny_typeOf hTs ?_)
  rw [if_pos (by decide)]
  refine wpAny_bind (sliceApplied_gen hs pl pu ?_)
  have hno : ¬ ((((sIx items.size 0 lo : Nat) : Int) == 0 && (1 : Int) == 1 && (sIx items.size items.size hi - sIx items.size 0 lo) == items.size) = true) := by
    intro q
    rw [Bool.and_eq_true, Bool.and_eq_true] at q
    have q1 : ((sIx items.size 0 lo : Nat) : Int) = 0 := eq_of_beq q.1.1
    have q2 : sIx items.size items.size hi - sIx items.size 0 lo = items.size := eq_of_beq q.2
    exact hw ⟨by omega, by omega⟩
  show wpAny _ _ (if (((sIx items.size 0 lo : Nat) : Int) == 0 && (1 : Int) == 1 && (sIx items.size items.size hi - sIx items.size 0 lo) == items.size) = true then _ else _) _ _ s
  rw [if_neg hno, pick_gen]
  first
    | exact wpAny_bind (m := Builtin.Tuple.tupleExact _) (wpAny_newObj_type (wpAny_pure ⟨_, rfl, wpAny_pure h⟩) htake)
    | exact wpAny_bind (m := Builtin.Tuple.tupleExact _) (wpAny_newObj_type (wpAny_bind (wpAny_pure (wpAny_pure ⟨_, rfl, wpAny_pure h⟩))) htake)
    | exact wpAny_bind (wpAny_bind (m := Builtin.Tuple.tupleExact _) (wpAny_newObj_type (wpAny_pure (wpAny_pure ⟨_, rfl, wpAny_pure h⟩)) htake))
    | exact wpAny_bind (wpAny_bind (m := Builtin.Tuple.tupleExact _) (wpAny_newObj_type (wpAny_pure ⟨_, rfl, wpAny_pure h⟩) htake))
end
end HT

namespace L2
open PySem PySem.Spec PyProof.Rows

/-! ### the parts of a slice -/
abbrev TO := St → Hp → (Option Int → Hp → Prop) → Prop
/-- a slice's part (left out, or an int) -/
def PO (X : Cx) (e : Option Expr) (t : TO) : Prop :=
  ∀ (pins : List (Addr × Obj)) (s : Shared) (σ : St) (H : Hp) (Q : Option Int → Hp → Prop), Inv X pins σ H s → t σ H Q →
    wpAny (model X.prog X.w) X.A (evalPart e X.env) (fun u s' => ∃ o H', Inv X pins σ H' s' ∧ IsPart u o ∧ Q o H') X.xe s
def tNoPart : TO := fun _ H Q => Q none H
def tPart (t : TE) : TO := fun σ H Q => t σ H fun x H1 => ∃ i, x = .int i ∧ Q (some i) H1


section
variable {X : Cx} {e : Expr} {te : TE} {lo hi : Option Expr} {tl th : TO} {pos p2 : Pos}

theorem po_none : PO X none tNoPart := by
  intro pins s σ H Q I h
  rw [evalPart_none]
  exact wpAny_pure ⟨none, H, I, .none, h⟩
theorem po_some (h : PE X e te) : PO X (some e) (tPart te) := by
  intro pins s σ H Q I hw
  rw [evalPart_some]
  refine thn (h pins s σ H _ I hw) fun u s1 ⟨x, H1, I1, r1, q1⟩ => ?_
  obtain ⟨i, rfl, q⟩ := q1
  obtain ⟨t, rfl⟩ := r1
  exact ⟨some i, H1, I1, .int i t, q⟩

/-- what a slice of a value is, by values: the slice object stands at sl -/
def SlR (X : Cx) (r : V → Option Int → Option Int → Hp → VK → Prop) : Prop :=
  ∀ (pins : List (Addr × Obj)) (s : Shared) (σ : St) (H : Hp) (x : V) (v vl vu : Value) (lo hi : Option Int) (sl : Addr) (Q : VK), Inv X pins σ H s → RelV x v → s.heap.IsSliceOf sl vl vu .none → IsPart vl lo → IsPart vu hi → r x lo hi H Q →
    ∃ T id, typeLookup (.type T) "__getitem__" = pure (some (.builtin id)) ∧ s.TypeIs v T ∧ wpAny (model X.prog X.w) X.A (getItem v (.ref sl)) (EP X pins σ Q) X.xe s
def tSl (r : V → Option Int → Option Int → Hp → VK → Prop) (te : TE) (tl th : TO) : TE := fun σ H Q => te σ H fun x H1 => tl σ H1 fun l H2 => th σ H2 fun u H3 => r x l u H3 Q
/-- a[lo:hi], any a -/
theorem pe_slice {r : V → Option Int → Option Int → Hp → VK → Prop} (hr : SlR X r) (he : PE X e te) (hl : PO X lo tl) (hu : PO X hi th) : PE X (.Subscript e (.Slice lo hi none p2) pos) (tSl r te tl th) := by
  intro pins s σ H Q I h
  refine Subscript_ (thn (he pins s σ H _ I h) fun v s1 ⟨x, H1, I1, r1, q1⟩ => ?_)
  refine wpAny_Slice (thn (hl pins s1 σ H1 _ I1 q1) fun vl s2 ⟨l, H2, I2, pl, q2⟩ => thn (hu pins s2 σ H2 _ I2 q2) fun vu s3 ⟨u, H3, I3, pu, q3⟩ => ?_)
  rw [evalPart_none]
  refine wpAny_pure ?_
  have I4 : Inv X pins σ H3 { s3 with heap := s3.heap.push { cls := .type "slice", data := .fields #[vl, vu, .none] } } := I3.kept (t' := s3.toks) fun b ob q => Heap.get?_push_of_some _ q
  obtain ⟨T, id, hT, ht, hg⟩ := hr pins { s3 with heap := s3.heap.push { cls := .type "slice", data := .fields #[vl, vu, .none] } } σ H3 x v vl vu l u s3.heap.objs.size Q I4 r1 (Heap.IsSliceOf.new ..) pl pu q3
  show wpAny (model X.prog X.w) X.A (subscriptTail e (.Slice lo hi none p2) v (.ref s3.heap.objs.size)) (EP X pins σ Q) X.xe { s3 with heap := s3.heap.push { cls := .type "slice", data := .fields #[vl, vu, .none] } }
  exact tail_any (ops := [.ref s3.heap.objs.size, v]) ht hT hg (by with_unfolding_all rfl)

/-- the items of xs[lo:hi] -/
def cutV (xs : List V) (lo hi : Option Int) : List V := (xs.drop (HT.sIx xs.length 0 lo)).take (HT.sIx xs.length xs.length hi - HT.sIx xs.length 0 lo)
theorem cutV_length (xs : List V) (lo hi : Option Int) : (cutV xs lo hi).length ≤ xs.length := by
  unfold cutV
  rw [List.length_take, List.length_drop]
  omega
/-- t[lo:hi], not the whole of it (the whole would be t itself) -/
def rSlT (K : PySem.W.Frag) : V → Option Int → Option Int → Hp → VK → Prop := fun x lo hi H Q => ∃ a xs, x = .ref a ∧ SqT K H a xs ∧
  ¬ (HT.sIx xs.length 0 lo = 0 ∧ HT.sIx xs.length xs.length hi = xs.length) ∧ ∀ p, H p = none → Q (.ref p) (upd H p (.tup (cutV xs lo hi)))
theorem sl_tup : SlR X (rSlT X.K) := by
  intro pins s σ H x v vl vu lo hi sl Q I rx hs pl pu h
  obtain ⟨a, xs, rfl, hx, hw, q⟩ := h
  cases rx
  obtain ⟨its, r, ht, hz⟩ := I.tuple hx
  have hlen : its.toArray.size = xs.length := by rw [List.size_toArray]; exact r.length.symm
  refine ⟨"tuple", _, PyProof.Rows.slot_tuple_getitem.lookup, ht.typeIs, ?_⟩
  refine HT.getItem_tuple_cut ht hs pl pu (by rw [hlen]; exact hw) ?_ (by rw [hlen]; exact hz)
  rw [hlen]
  refine ⟨.ref s.heap.objs.size, _, I.laid (t' := s.toks) (o := .tup (cutV xs lo hi)) (fun b ob q => Heap.get?_push_of_some _ q) (Nat.le_refl _) ?_, rfl, q _ (I.hok.fresh (Nat.le_refl _))⟩
  exact ⟨Nat.le_trans (cutV_length xs lo hi) hz, _, (r.drop (HT.sIx xs.length 0 lo)).take (HT.sIx xs.length xs.length hi - HT.sIx xs.length 0 lo), IsTup.new _ _⟩

/-! ### t < u, t + u -/
end
end L2

namespace L2
open PySem PySem.Spec PyProof.Rows

/-! ### places -/
/-- the place that an index of any sign means -/
def ixN (n : Nat) (i : Int) : Option Nat := if 0 ≤ i then (if i < n then some i.toNat else none) else if -(n : Int) ≤ i then some (i + n).toNat else none
def atI {α : Type} (xs : List α) (i : Int) : Option α := (ixN xs.length i).bind fun j => xs[j]?
theorem ixN_seq {n : Nat} {i : Int} {j : Nat} (h : ixN n i = some j) : seqIndex? i n = some j ∧ j < n ∧ -(n : Int) ≤ i ∧ i < n := by
  unfold ixN at h
  by_cases h0 : 0 ≤ i
  · rw [if_pos h0] at h
    by_cases h1 : i < n
    · rw [if_pos h1] at h
      have e : i.toNat = j := Option.some.inj h
      exact ⟨by rw [seqIndex_of h0 h1, e], by omega, by omega, h1⟩
    · rw [if_neg h1] at h; cases h
  · rw [if_neg h0] at h
    by_cases h1 : -(n : Int) ≤ i
    · rw [if_pos h1] at h
      have e : (i + n).toNat = j := Option.some.inj h
      exact ⟨by rw [seqIndex_neg (by omega) h1, e], by omega, h1, by omega⟩
    · rw [if_neg h1] at h; cases h
theorem atI_get {α : Type} {xs : List α} {i : Int} {v : α} (h : atI xs i = some v) : ∃ j, seqIndex? i xs.length = some j ∧ xs[j]? = some v ∧ j < xs.length ∧ -(xs.length : Int) ≤ i ∧ i < xs.length := by
  unfold atI at h
  cases e : ixN xs.length i with
  | none => rw [e] at h; cases h
  | some j =>
    rw [e] at h
    obtain ⟨h1, h2, h3, h4⟩ := ixN_seq e
    exact ⟨j, h1, h, h2, h3, h4⟩
theorem atI_nat {α : Type} {xs : List α} {j : Nat} {v : α} (h : xs[j]? = some v) : atI xs (j : Int) = some v := by
  have hj : j < xs.length := (List.getElem?_eq_some_iff.mp h).1
  have e : ixN xs.length (j : Int) = some j := by
    unfold ixN
    rw [if_pos (by omega), if_pos (by omega)]; simp
  unfold atI; rw [e]; exact h

/-! ### what may be subscripted -/
/-- what stands as an index of a plain subscript -/
def PlainIx (b : Expr) : Prop := ∀ o i, subscripted b false o i = operate [o, i] (getItem o i)
/-- a subscript by values -/
def IxR (X : Cx) (r : R2) : Prop :=
  ∀ (value slice : Expr) (pins : List (Addr × Obj)) (s : Shared) (σ : St) (H : Hp) (x y : V) (v u : Value) (Q : VK), Inv X pins σ H s → RelV x v → RelV y u → r x y H Q →
    subscripted slice false v u = operate [v, u] (getItem v u) → wpAny (model X.prog X.w) X.A (subscriptTail value slice v u) (EP X pins σ Q) X.xe s
/-- a call of a builtin's method by values: the receiver, the arguments -/
def MtR (X : Cx) (id : String) (r : V → List V → Hp → VK → Prop) : Prop :=
  ∀ (pins : List (Addr × Obj)) (s : Shared) (σ : St) (H : Hp) (x : V) (xs : List V) (v : Value) (us : List Value) (Q : VK), Inv X pins σ H s → RelV x v → Vals xs us → r x xs H Q →
    wpAny (model X.prog X.w) X.A (call (.builtin id) (v :: us)) (EP X pins σ Q) X.xe s
section
variable {X : Cx} {a b : Expr} {ta tb : TE} {pos : Pos}
/-- a[b] -/
theorem pe_ix {r : R2} (hr : IxR X r) (ha : PE X a ta) (hb : PE X b tb) (hs : PlainIx b) : PE X (.Subscript a b pos) (tOp r ta tb) := by
  intro pins s σ H Q I h
  exact Subscript_ (binT ha hb I h fun v u s2 x y H2 I2 rx ry q => hr a b pins s2 σ H2 x y v u Q I2 rx ry q (hs _ _))

def rIxL (K : PySem.W.Frag) : R2 := fun x y H Q => ∃ p xs i v, x = .ref p ∧ y = .int i ∧ SqL K H p xs ∧ atI xs i = some v ∧ Q v H
def rIxT (K : PySem.W.Frag) : R2 := fun x y H Q => ∃ p xs i v, x = .ref p ∧ y = .int i ∧ SqT K H p xs ∧ atI xs i = some v ∧ Q v H
theorem ix_list : IxR X (rIxL X.K) := by
  intro value slice pins s σ H x y v u Q I rx ry h hs
  obtain ⟨p, xs, i, z, rfl, rfl, hq, he, q⟩ := h
  cases rx
  obtain ⟨t, rfl⟩ := ry
  obtain ⟨its, r, pl, hz⟩ := I.list hq
  obtain ⟨j, h1, h2, h3, h4, h5⟩ := atI_get he
  obtain ⟨w, ew, rw'⟩ := r.get h2
  have hl := r.length
  have hn := line63
  have fin : EP X pins σ Q w s := ⟨z, H, I, rw', q⟩
  by_cases h0 : 0 ≤ i
  · have hj : i.toNat = j := by
      rw [seqIndex_of h0 h5] at h1
      exact Option.some.inj h1
    exact item_listR pl.isList h0 (by omega) (by rw [hj]; simpa using ew) fin hs
  · have hj : (i + (its.toArray.size : Int)).toNat = j := by
      rw [seqIndex_neg (by omega) h4] at h1
      rw [List.size_toArray, ← hl]
      exact Option.some.inj h1
    exact subscriptTail_builtinR (x := w) pl.isList.typeIs slot_list_getitem.lookup
      (wpAny_getItem_list_neg (Q := fun r s' => r = w ∧ EP X pins σ Q r s') pl.isList (by omega) (by rw [List.size_toArray] <;> omega) (by omega) (by rw [hj]; simpa using ew) ⟨rfl, fin⟩) hs
theorem ix_tup : IxR X (rIxT X.K) := by
  intro value slice pins s σ H x y v u Q I rx ry h hs
  obtain ⟨p, xs, i, z, rfl, rfl, hq, he, q⟩ := h
  cases rx
  obtain ⟨t, rfl⟩ := ry
  obtain ⟨its, r, pl, hz⟩ := I.tuple hq
  obtain ⟨j, h1, h2, h3, h4, h5⟩ := atI_get he
  obtain ⟨w, ew, rw'⟩ := r.get h2
  have hl := r.length
  have hn := line63
  have fin : EP X pins σ Q w s := ⟨z, H, I, rw', q⟩
  exact subscriptTail_builtinR (x := w) pl.typeIs slot_tuple_getitem.lookup
    (getItem_tuple (j := j) (Q := fun r s' => r = w ∧ EP X pins σ Q r s') pl (by omega) (by omega) (by rw [List.size_toArray, ← hl]; exact h1) (by simpa using ew) ⟨rfl, fin⟩) hs

/-! ### xs[i] = v, any sign -/
/-- the list's object behind a store -/
theorem mapSeq_set (its : List Value) (n j : Nat) (u : Value) : Obj.mapSeq (·.setIfInBounds j u) { cls := .type "list", data := .seq its.toArray n } = { cls := .type "list", data := .seq (its.set j u).toArray n } := by
  simp [Obj.mapSeq]
theorem Inv.lst {pins : List (Addr × Obj)} {σ : St} {H : Hp} {s : Shared} {p : Addr} {xs : List V} (I : Inv X pins σ H s) (h : H p = some (.lst xs)) :
    ∃ (its : List Value) (n : Nat), Vals xs its ∧ s.heap.get? p = some { cls := .type "list", data := .seq its.toArray n } ∧ xs.length ≤ sizeLine := by
  obtain ⟨z, its, n, r, e⟩ := I.hok p _ h
  exact ⟨its, n, r, e, z⟩
/-- the list at p is written by an update of its object -/
theorem Inv.lstUpd {pins : List (Addr × Obj)} {σ : St} {H : Hp} {s : Shared} {p : Addr} {xs ys : List V} {its its' : List Value} {n n' : Nat} {f : Obj → Obj} (I : Inv X pins σ H s) (h : H p = some (.lst xs))
    (ho : s.heap.get? p = some { cls := .type "list", data := .seq its.toArray n }) (hf : f { cls := .type "list", data := .seq its.toArray n } = { cls := .type "list", data := .seq its'.toArray n' }) (r : Vals ys its') (hz : ys.length ≤ sizeLine) (t : Nat) :
    Inv X pins σ (upd H p (.lst ys)) { s with heap := s.heap.update p f, toks := t } := by
  have e : (s.heap.update p f).get? p = some { cls := .type "list", data := .seq its'.toArray n' } := by
    rw [Heap.get?_update_self f ho (by rw [hf] <;> rfl), hf]
  refine I.write (x := p) (e := p) (by rw [h]; trivial) (.inl rfl) (fun b u hb q => (Heap.get?_update_other _ _ (Ne.symm hb)).trans q) ⟨_, e⟩ ?_
  exact ⟨hz, its', n', r, e⟩
def rSetL : V → V → V → Hp → (Hp → Prop) → Prop := fun o i v H Q => ∃ p xs k j, o = .ref p ∧ i = .int k ∧ H p = some (.lst xs) ∧ ixN xs.length k = some j ∧ Q (upd H p (.lst (xs.set j v)))
theorem set_list : PSet X rSetL := by
  intro pins s σ H o i v ov iv u Q I ro ri rv h
  obtain ⟨p, xs, k, j, rfl, rfl, hp, hj, q⟩ := h
  cases ro
  obtain ⟨t, rfl⟩ := ri
  obtain ⟨its, n, r, ho, hz⟩ := I.lst hp
  obtain ⟨h1, h2, h3, h4⟩ := ixN_seq hj
  have hl := r.length
  have hn := line63
  have I' : Inv X pins σ (upd H p (.lst (xs.set j v))) { s with heap := s.heap.update p (Obj.mapSeq (·.setIfInBounds j u)) } :=
    I.lstUpd hp ho (mapSeq_set its n j u) (r.set rv j) (by rw [List.length_set]; exact hz) s.toks
  by_cases h0 : 0 ≤ k
  · have hk : k.toNat = j := by
      rw [seqIndex_of h0 h4] at h1
      exact Option.some.inj h1
    exact PySem.W.ki_setAt ho h0 (by omega) (by rw [List.size_toArray, ← hl]; exact h4) (by rw [hk]; exact ⟨_, I', q⟩)
  · have hk : (k + (its.toArray.size : Int)).toNat = j := by
      rw [seqIndex_neg (by omega) h3] at h1
      rw [List.size_toArray, ← hl]
      exact Option.some.inj h1
    exact PySem.W.ki_setBack ho (by omega) (by rw [List.size_toArray, ← hl]; exact h3) (by omega) (by rw [hk]; exact ⟨_, I', q⟩)

/-! ### slices -/
theorem slice_bounds (lo hi : Option Int) (n : Nat) : (sliceBounds lo hi none n).1 = ((HT.sIx n 0 lo : Nat) : Int) ∧ (sliceBounds lo hi none n).2.1 = ((HT.sIx n n hi : Nat) : Int) ∧ (sliceBounds lo hi none n).2.2 = 1 := by
  refine ⟨?_, ?_, rfl⟩
  · cases lo with
    | none => simp [sliceBounds, HT.sIx]
    | some i =>
      simp only [sliceBounds, HT.sIx, Option.getD_none, show (1 : Int) > 0 by decide, if_true]
      by_cases h : i < 0
      · simp only [h, if_true] <;> omega
      · simp only [h, if_false] <;> omega
  · cases hi with
    | none => simp [sliceBounds, HT.sIx]
    | some i =>
      simp only [sliceBounds, HT.sIx, Option.getD_none, show (1 : Int) > 0 by decide, if_true]
      by_cases h : i < 0
      · simp only [h, if_true] <;> omega
      · simp only [h, if_false] <;> omega
theorem slicePick_cut (its : List Value) (lo hi : Option Int) : slicePick its.toArray lo hi none = ((its.drop (HT.sIx its.length 0 lo)).take (HT.sIx its.length its.length hi - HT.sIx its.length 0 lo)).toArray := by
  obtain ⟨h1, h2, h3⟩ := slice_bounds lo hi its.toArray.size
  unfold slicePick
  rw [h1, h2, h3]
  simp only [sliceRange_one, pick_run, List.size_toArray] <;> rfl
/-- xs[lo:hi] of a list: a new list -/
def rSlL (K : PySem.W.Frag) : V → Option Int → Option Int → Hp → VK → Prop := fun x lo hi H Q => ∃ a xs, x = .ref a ∧ SqL K H a xs ∧ ∀ p, H p = none → Q (.ref p) (upd H p (.lst (cutV xs lo hi)))
theorem sl_list : SlR X (rSlL X.K) := by
  intro pins s σ H x v vl vu lo hi sl Q I rx hs pl pu h
  obtain ⟨a, xs, rfl, hx, q⟩ := h
  cases rx
  obtain ⟨its, r, ht, hz⟩ := I.list hx
  have hlen := r.length
  refine ⟨"list", _, slot_list_getitem.lookup, ht.isList.typeIs, ?_⟩
  refine wpAny_getItem_list_slice ht.isList hs pl pu .none (by simp) ?_ (by rw [List.size_toArray] <;> omega)
  rw [slicePick_cut, ← hlen]
  refine ⟨.ref s.heap.objs.size, _, I.laid (t' := s.toks) (o := .lst (cutV xs lo hi)) (fun b ob q => Heap.get?_push_of_some _ q) (Nat.le_refl _) ?_, rfl, q _ (I.hok.fresh (Nat.le_refl _))⟩
  exact ⟨Nat.le_trans (cutV_length xs lo hi) hz, _, 0, (r.drop (HT.sIx xs.length 0 lo)).take (HT.sIx xs.length xs.length hi - HT.sIx xs.length 0 lo), Heap.get?_push_size _ rfl⟩

/-! ### in, not in: flat items -/
def flatV : V → Bool
  | .non => true
  | .bl _ => true
  | .int _ => true
  | .str _ => true
  | _ => false
/-- == of flat values -/
def eqV : V → V → Bool
  | .non, .non => true
  | .bl a, .bl b => a == b
  | .bl a, .int b => (if a then 1 else 0) == b
  | .int a, .bl b => a == (if b then 1 else 0)
  | .int a, .int b => a == b
  | .str a, .str b => a == b
  | _, _ => false
theorem eqAt_V {A : Around} {s : Shared} {y x : V} {u v : Value} (ry : RelV y u) (rx : RelV x v) (fy : flatV y = true) (fx : flatV x = true) : SeqAt.EqAt A s u v (eqV y x) := by
  cases y with
  | non =>
    cases ry
    cases x with
    | non => cases rx; exact SeqAt.EqAt.same _
    | bl b => cases rx; exact SeqAt.EqAt.none_bool b
    | int b => obtain ⟨t, rfl⟩ := rx; exact SeqAt.EqAt.none_int b t
    | str b => obtain ⟨t, rfl⟩ := rx; exact SeqAt.EqAt.none_str b t
    | _ => exact absurd (show false = true from fx) Bool.false_ne_true
  | bl a =>
    cases ry
    cases x with
    | non => cases rx; exact SeqAt.EqAt.bool_none a
    | bl b => cases rx; exact SeqAt.EqAt.bool_bool a b
    | int b => obtain ⟨t, rfl⟩ := rx; exact SeqAt.EqAt.bool_int a b t
    | str b => obtain ⟨t, rfl⟩ := rx; exact SeqAt.EqAt.bool_str a b t
    | _ => exact absurd (show false = true from fx) Bool.false_ne_true
  | int a =>
    obtain ⟨t', rfl⟩ := ry
    cases x with
    | non => cases rx; exact SeqAt.EqAt.int_none a t'
    | bl b => cases rx; exact SeqAt.EqAt.int_bool a t' b
    | int b => obtain ⟨t, rfl⟩ := rx; exact SeqAt.EqAt.int_int a t' b t
    | str b => obtain ⟨t, rfl⟩ := rx; exact SeqAt.EqAt.int_str a t' b t
    | _ => exact absurd (show false = true from fx) Bool.false_ne_true
  | str a =>
    obtain ⟨t', rfl⟩ := ry
    cases x with
    | non => cases rx; exact SeqAt.EqAt.str_none a t'
    | bl b => cases rx; exact SeqAt.EqAt.str_bool a t' b
    | int b => obtain ⟨t, rfl⟩ := rx; exact SeqAt.EqAt.str_int a t' b t
    | str b => obtain ⟨t, rfl⟩ := rx; exact SeqAt.EqAt.str_str a t' b t
    | _ => exact absurd (show false = true from fx) Bool.false_ne_true
  | _ => exact absurd (show false = true from fy) Bool.false_ne_true
/-- the items' answers, read off the values (a value's own answer does not lean on its token) -/
def eqU (x : V) (u : Value) : Bool := match u with
  | .none => eqV .non x
  | .bool b => eqV (.bl b) x
  | .int i _ => eqV (.int i) x
  | .str z _ => eqV (.str z) x
  | _ => false
theorem eqU_of {x y : V} {u : Value} (r : RelV y u) (f : flatV y = true) : eqU x u = eqV y x := by
  cases y with
  | non => cases r; rfl
  | bl b => cases r; rfl
  | int i => obtain ⟨t, rfl⟩ := r; rfl
  | str z => obtain ⟨t, rfl⟩ := r; rfl
  | _ => exact absurd (show false = true from f) Bool.false_ne_true
theorem any_eqU {x : V} : ∀ {xs : List V} {us : List Value}, Vals xs us → xs.all flatV = true → us.any (eqU x) = xs.any fun y => eqV y x
  | _, _, .nil, _ => rfl
  | y :: xs, u :: us, .cons r t, f => by
    rw [List.all_cons, Bool.and_eq_true] at f
    rw [List.any_cons, List.any_cons, eqU_of r f.1, any_eqU t f.2]
theorem mem_eqAt {A : Around} {s : Shared} {x : V} {v : Value} (rx : RelV x v) (fx : flatV x = true) : ∀ {xs : List V} {us : List Value}, Vals xs us → xs.all flatV = true → ∀ u ∈ us, SeqAt.EqAt A s u v (eqU x u)
  | _, _, .nil, _ => fun u hu => by cases hu
  | y :: xs, u :: us, .cons r t, f => fun u' hu => by
    rw [List.all_cons, Bool.and_eq_true] at f
    rcases List.mem_cons.mp hu with rfl | hu
    · rw [eqU_of r f.1]; exact eqAt_V r rx f.1 fx
    · exact mem_eqAt rx fx t f.2 u' hu
def inV (x : V) (xs : List V) : Bool := xs.any fun y => eqV y x
/-- x in a list or tuple of flat items -/
def rIn (K : PySem.W.Frag) (neg : Bool) : R2 := fun x y H Q => ∃ p xs, y = .ref p ∧ (SqL K H p xs ∨ SqT K H p xs) ∧ flatV x = true ∧ xs.all flatV = true ∧ Q (.bl (if neg then !inV x xs else inV x xs)) H
theorem op_notIn_seq : OpR X (compareOp .NotIn) (rIn X.K true) := by
  intro pins s σ H x y v u Q I rx ry h
  obtain ⟨p, xs, rfl, hq, fx, fs, q⟩ := h
  cases ry
  rcases hq with hq | hq
  · obtain ⟨its, r, pl, hz⟩ := I.list hq
    refine SeqAt.notIn_listAt (eqU x) pl.isList (fun w hw => mem_eqAt rx fx r fs w (by simpa using hw)) ⟨.bl _, H, I, rfl, ?_⟩
    rw [show its.toArray.any (eqU x) = its.any (eqU x) by simp, any_eqU r fs]
    exact q
  · obtain ⟨its, r, pl, hz⟩ := I.tuple hq
    refine SeqAt.notIn_tupleAt (eqU x) pl (fun w hw => mem_eqAt rx fx r fs w (by simpa using hw)) ⟨.bl _, H, I, rfl, ?_⟩
    rw [show its.toArray.any (eqU x) = its.any (eqU x) by simp, any_eqU r fs]
    exact q

/-! ### len, list(x), tuple(x) of any list or tuple that is read -/
theorem call_len_seq : CallR X (.builtin "len") (fun xs H Q => ∃ p ys, xs = [.ref p] ∧ (SqL X.K H p ys ∨ SqT X.K H p ys) ∧ Q (.int ys.length) H) := by
  intro pins s σ H xs us Q I r h
  obtain ⟨p, ys, rfl, hq, q⟩ := h
  obtain ⟨u, rfl, rx⟩ := vals1 r
  cases rx
  have hn := line63
  rcases hq with hq | hq
  · obtain ⟨its, r', pl, hz⟩ := I.list hq
    have hlen := r'.length
    exact Calls.call_len_list pl.isList (by simp only [List.size_toArray] <;> omega) ⟨.int ys.length, H, I.tok _, ⟨s.toks + 1, by rw [List.size_toArray, hlen]⟩, q⟩
  · obtain ⟨its, r', pl, hz⟩ := I.tuple hq
    have hlen := r'.length
    exact len_tuple pl (by simp only [List.size_toArray] <;> omega) ⟨.int ys.length, H, I.tok _, ⟨s.toks + 1, by rw [List.size_toArray, hlen]⟩, q⟩
theorem call_list_of : CallR X (.type "list") (fun xs H Q => ∃ p ys, xs = [.ref p] ∧ (SqL X.K H p ys ∨ SqT X.K H p ys) ∧ ∀ l, H l = none → Q (.ref l) (upd H l (.lst ys))) := by
  intro pins s σ H xs us Q I r h
  obtain ⟨p, ys, rfl, hq, q⟩ := h
  obtain ⟨u, rfl, rx⟩ := vals1 r
  cases rx
  have fin : ∀ (its : List Value), Vals ys its → ys.length ≤ sizeLine → ∀ (h' : Heap) (c' : Nat), (∀ b o', s.heap.get? b = some o' → h'.get? b = some o') →
      h'.get? s.heap.objs.size = some { cls := .type "list", dict := none, data := .seq its.toArray c', slots := #[] } → EP X pins σ Q (.ref s.heap.objs.size) { s with heap := h' } := fun its r' hz h' c' kp e =>
    ⟨.ref s.heap.objs.size, _, I.laid (t' := s.toks) kp (Nat.le_refl _) (show ObjOk X.prog X.w _ h' _ (.lst ys) from ⟨hz, its, c', r', e⟩), rfl, q _ (I.hok.fresh (Nat.le_refl _))⟩
  rcases hq with hq | hq
  · obtain ⟨its, r', pl, hz⟩ := I.list hq
    have hlen := r'.length
    obtain ⟨o, ho, hc, n, hd⟩ := pl.isList
    exact call_list_seq p (.inl rfl) ho hc hd (fun h' c' kp e => fin its r' hz h' c' kp e) (by simp only [List.size_toArray] <;> omega)
  · obtain ⟨its, r', pl, hz⟩ := I.tuple hq
    have hlen := r'.length
    obtain ⟨o, ho, hc, n, hd⟩ := pl
    exact call_list_seq p (.inr rfl) ho hc hd (fun h' c' kp e => fin its r' hz h' c' kp e) (by simp only [List.size_toArray] <;> omega)

/-! ### the call of a builtin's method: o.m(..) -/
/-- the value is of that builtin type -/
def tyV (K : PySem.W.Frag) (T : String) (x : V) (H : Hp) : Prop := match x with
  | .str _ => T = "str"
  | .int _ => T = "int"
  | .ref p => (T = "list" ∧ ∃ xs, SqL K H p xs) ∨ (T = "tuple" ∧ ∃ o, K.lookup p = some o ∧ o.cls = .type "tuple" ∧ o.dict = none) ∨
      (T = "dict" ∧ ((∃ kvs, H p = some (.dK kvs)) ∨ ∃ kvs, H p = some (.dT kvs))) ∨ (T = "set" ∧ ∃ S n, H p = some (.set S n))
  | _ => False
theorem tyV_is {pins : List (Addr × Obj)} {σ : St} {H : Hp} {s : Shared} {T : String} {x : V} {v : Value} (I : Inv X pins σ H s) (r : RelV x v) (ty : tyV X.K T x H) :
    s.TypeIs v T ∧ ∀ a, v = .ref a → ∃ ob, s.heap.get? a = some ob ∧ ob.dict = none := by
  cases x with
  | str z =>
    obtain ⟨t, rfl⟩ := r
    cases (show T = "str" from ty)
    exact ⟨typeIs_str s z t, fun _ e => nomatch e⟩
  | int i =>
    obtain ⟨t, rfl⟩ := r
    cases (show T = "int" from ty)
    exact ⟨typeIs_int s i t, fun _ e => nomatch e⟩
  | ref p =>
    cases r
    rcases ty with ⟨rfl, xs, hq⟩ | ⟨rfl, o, hk, hc, hd⟩ | ⟨rfl, hk⟩ | ⟨rfl, S, n, hk⟩
    · obtain ⟨its, _, pl, _⟩ := I.list hq
      refine ⟨pl.isList.typeIs, fun a e => ?_⟩
      cases e
      obtain ⟨o, n, e, c, hd, _⟩ := pl
      exact ⟨o, e, hd⟩
    · refine ⟨⟨o, I.kIn p o hk, hc⟩, fun a e => ?_⟩
      cases e
      exact ⟨o, I.kIn _ o hk, hd⟩
    · have z : ∃ o, s.heap.get? p = some o ∧ o.ExactDict := by
        rcases hk with ⟨kvs, hk⟩ | ⟨kvs, hk⟩
        · obtain ⟨_, _, _, _, o, _, _, e, ex, _⟩ := I.hok p _ hk
          exact ⟨o, e, ex⟩
        · obtain ⟨_, _, _, _, o, _, _, e, ex, _⟩ := I.hok p _ hk
          exact ⟨o, e, ex⟩
      obtain ⟨o, e, ex⟩ := z
      refine ⟨⟨o, e, ex.1⟩, fun a e2 => ?_⟩
      cases e2
      exact ⟨o, e, ex.2.1⟩
    · obtain ⟨o, _, _, _, e, ex, _⟩ := I.hok p _ hk
      refine ⟨⟨o, e, ex.1⟩, fun a e2 => ?_⟩
      cases e2
      exact ⟨o, e, ex.2.1⟩
  | _ => exact False.elim ty
def tBM (K : PySem.W.Frag) (T : String) (r : V → List V → Hp → VK → Prop) (to : TE) (t : TA) : TE := fun σ H Q => to σ H fun x H1 => tyV K T x H1 ∧ t σ H1 fun xs H2 => r x xs H2 Q
variable {o e : Expr} {es : List Expr} {to : TE} {t : TA} {name : Str} {apos cpos : Pos} {T id : String} {r : V → List V → Hp → VK → Prop}
theorem pe_bm (pa : PlainAttrs T) (slot : Slot T name id) (hty : typeOf (.builtin id) = pure (.type "method_descriptor")) (hm : MtR X id r) (ho : PE X o to) (ha : PA X (e :: es) t)
    (hbase : attributeBase o name X.env (eval o X.env) = eval o X.env := by rfl)
    (hfew : ((backTo cpos (starEach (e :: es) X.env)).all (fun x => !x.1) && (backToKw cpos (keywordEach [] X.env)).all (fun x => x.1.isSome)
      && decide ((e :: es).length + ([] : List Keyword).length + (if ([] : List Keyword).isEmpty then 0 else 1) < 30)) = true := by rfl)
    (hline : (apos.endLine == cpos.line) = true := by rfl) (hs : starEach (e :: es) X.env = (false, eval e X.env) :: starEach es X.env := by rfl) (hplain : (backTo cpos (starEach es X.env)).any (·.1) = false := by rfl) :
    PE X (.Call (.Attribute o name apos) (e :: es) [] cpos) (tBM X.K T r to t) := by
  intro pins s σ H Q I h
  refine wpAny_Call_method_late hbase hfew hline rfl (thn (ho pins s σ H _ I h) fun v s1 ⟨x, H1, I1, r1, ty, q1⟩ => ?_)
  obtain ⟨h1, h2⟩ := tyV_is I1 r1 ty
  refine ⟨T, id, pa, slot, hty, h1, h2, ?_⟩
  have hA := ha cpos pins s1 σ H1 _ I1 q1
  rw [hs] at hA ⊢
  refine Calls.callWith_builtin (by show (false || (backTo cpos (starEach es X.env)).any (·.1)) = false; rw [hplain] <;> rfl) (Calls.evalArgs_plain ?_)
  exact thn hA fun us s2 ⟨vs, H2, I2, r2, q2⟩ => hm pins s2 σ H2 x vs v us Q I2 r1 r2 q2
/- xs.append(e), list.index on a module's tuple .. are MtR facts of 06m -/
end
end L2

namespace L2
open PySem PySem.Spec PyProof.Rows

def MtM (X : Cx) (id : String) (r : V → List V → Hp → VK → Prop) : Prop :=
  ∀ (pins : List (Addr × Obj)) (s : Shared) (σ : St) (H : Hp) (x : V) (xs : List V) (v : Value) (us : List Value) (Q : VK), Inv X pins σ H s → RelV x v → Vals xs us → r x xs H Q →
    wpAny (model X.prog X.w) X.A (call (.builtin id) (v :: us)) (EP X pins σ Q) X.xe s

/-! ### lists of values -/
theorem Vals.one : ∀ {x : V} {us : List Value}, Vals [x] us → ∃ u, us = [u] ∧ RelV x u
  | _, _, .cons r .nil => ⟨_, rfl, r⟩
theorem Vals.two : ∀ {x y : V} {us : List Value}, Vals [x, y] us → ∃ u v, us = [u, v] ∧ RelV x u ∧ RelV y v
  | _, _, _, .cons r (.cons q .nil) => ⟨_, _, rfl, r, q⟩
theorem Vals.eraseIdx : ∀ {xs : List V} {us : List Value} (i : Nat), Vals xs us → Vals (xs.eraseIdx i) (us.eraseIdx i)
  | _, _, _, .nil => .nil
  | _, _, 0, .cons _ t => t
  | _, _, i + 1, .cons r t => .cons r (Vals.eraseIdx i t)
theorem len_erase {α : Type} : ∀ (l : List α) (i : Nat), (l.eraseIdx i).length ≤ l.length
  | [], _ => Nat.le_refl _
  | _ :: _, 0 => Nat.le_succ _
  | _ :: r, i + 1 => Nat.succ_le_succ (len_erase r i)

section
variable {X : Cx} {pins : List (Addr × Obj)} {σ : St} {H : Hp} {s : Shared} {l b : Addr} {xs ys zs : List V}

/-! ### the two steps: a tracked list is rewritten, a new list is laid -/
theorem Inv.lset {its its' : List Value} {n : Nat} {f : Array Value → Array Value} {t' : Nat} (I : Inv X pins σ H s) (hH : H l = some (.lst xs))
    (e : s.heap.get? l = some { cls := .type "list", data := .seq its.toArray n }) (hf : f its.toArray = its'.toArray) (hv : Vals ys its') (hz : ys.length ≤ sizeLine) :
    Inv X pins σ (upd H l (.lst ys)) { s with heap := s.heap.update l (Obj.mapSeq f), toks := t' } := by
  have q := PySem.IsL.update e f
  rw [hf] at q
  refine I.write (x := l) (e := l) (by rw [hH]; exact trivial) (.inl rfl) (fun b' u hb hu => (Heap.get?_update_other s.heap (Obj.mapSeq f) (Ne.symm hb)).trans hu) ⟨_, q⟩ ?_
  exact ⟨hz, its', _, hv, q⟩
theorem Inv.lnew {its : List Value} {t' : Nat} (I : Inv X pins σ H s) (hv : Vals ys its) (hz : ys.length ≤ sizeLine) :
    Inv X pins σ (upd H s.heap.objs.size (.lst ys)) { s with heap := s.heap.push { cls := .type "list", data := .seq its.toArray }, toks := t' } :=
  I.laid (fun _ _ q => Heap.get?_push_of_some _ q) (Nat.le_refl _) ⟨hz, its, 0, hv, Heap.get?_push_size _ rfl⟩
theorem Inv.fresh (I : Inv X pins σ H s) : H s.heap.objs.size = none := I.hok.fresh (Nat.le_refl _)
theorem Inv.lstM (I : Inv X pins σ H s) (hH : H l = some (.lst xs)) : xs.length ≤ sizeLine ∧ ∃ (its : List Value) (n : Nat), Vals xs its ∧ xs.length = its.length ∧ s.heap.get? l = some { cls := .type "list", data := .seq its.toArray n } := by
  obtain ⟨z, its, n, r, e⟩ := I.hok l _ hH
  exact ⟨z, its, n, r, r.length, e⟩

end

section
variable {X : Cx}

/-! ### methods -/
def rAppend : V → List V → Hp → VK → Prop := fun x vs H Q => ∃ l xs y, x = .ref l ∧ vs = [y] ∧ H l = some (.lst xs) ∧ xs.length < sizeLine ∧ Q .non (upd H l (.lst (xs ++ [y])))
theorem mt_append : MtM X "list.append" rAppend := by
  intro pins s σ H x vs v us Q I rx rv h
  obtain ⟨l, xs, y, rfl, rfl, hH, hz, q⟩ := h
  cases rx
  obtain ⟨u, rfl, ru⟩ := rv.one
  obtain ⟨z, its, n, r, hl, e⟩ := I.lstM hH
  refine call_meets F.slot_list_append ⟨_, e, rfl⟩ F.entry_list_append (F.args_list_append_2 _ _) (PySem.list_append l its.toArray n u (by rw [List.size_toArray]; omega)) ⟨e, ?_⟩
  refine ⟨.non, _, I.lset (its' := its ++ [u]) hH e (by simp) (r.append (.cons ru .nil)) ?_, rfl, q⟩
  rw [List.length_append, List.length_singleton]
  omega



def rPopAt : V → List V → Hp → VK → Prop := fun x vs H Q => ∃ l xs i k y, x = .ref l ∧ vs = [.int i] ∧ H l = some (.lst xs) ∧ -(2 ^ 63) ≤ i ∧ i < 2 ^ 63 ∧ seqIndex? i xs.length = some k ∧ xs[k]? = some y ∧ Q y (upd H l (.lst (xs.eraseIdx k)))
theorem mt_popAt : MtM X "list.pop" rPopAt := by
  intro pins s σ H x vs v us Q I rx rv h
  obtain ⟨l, xs, i, k, y, rfl, rfl, hH, h1, h2, hk, hy, q⟩ := h
  cases rx
  obtain ⟨u, rfl, ru⟩ := rv.one
  obtain ⟨t, rfl⟩ := ru
  obtain ⟨z, its, n, r, hl, e⟩ := I.lstM hH
  obtain ⟨w, hw, rw'⟩ := r.get hy
  refine call_meets F.slot_list_pop ⟨_, e, rfl⟩ F.entry_list_pop (F.args_list_pop_2 _ _)
    (MeetsSeq.list_pop_at l its.toArray n i t k w (fitsIndex_both h1 h2) (by rw [List.size_toArray, ← hl]; exact hk) (by rw [← Array.getElem?_toList]; exact hw) (by rw [List.size_toArray]; omega)) ⟨e, ?_⟩
  refine ⟨y, _, I.lset (its' := its.eraseIdx k) hH e ?_ (r.eraseIdx k) ?_, rw', q⟩
  · show its.toArray.eraseIdxIfInBounds k = (its.eraseIdx k).toArray
    rw [List.eraseIdxIfInBounds_toArray]
  · have := len_erase xs k
    omega



/-! ### list + list, list += list, list * int -/
def rCat : R2 := fun x y H Q => ∃ l b xs zs, x = .ref l ∧ y = .ref b ∧ H l = some (.lst xs) ∧ H b = some (.lst zs) ∧ xs.length + zs.length ≤ sizeLine ∧ ∀ p, H p = none → Q (.ref p) (upd H p (.lst (xs ++ zs)))
theorem op_cat : OpR X (binaryOp .Add) rCat := by
  intro pins s σ H x y v u Q I rx ry h
  obtain ⟨l, b, xs, zs, rfl, rfl, hH, hB, hz, q⟩ := h
  cases rx
  cases ry
  obtain ⟨z, its, n, r, hl, e⟩ := I.lstM hH
  obtain ⟨z2, its2, n2, r2, hl2, e2⟩ := I.lstM hB
  refine PySem.P.add_list e e2 ?_ (by rw [List.size_toArray, List.size_toArray]; omega)
  have ea : its.toArray ++ its2.toArray = (its ++ its2).toArray := by simp
  rw [ea]
  exact ⟨.ref _, _, I.lnew (t' := s.toks) (r.append r2) (by rw [List.length_append]; omega), rfl, q _ I.fresh⟩

/-! ### del xs[i] -/
end

/-! ### xs[a:b] = ys -/
section
variable {prog : Program} {w : World} {A : Around} {E : Value → Shared → Prop} {s : Shared}
end

section
variable {X : Cx}
end
end L2

namespace Att
open PySem PySem.W PySem.Calls PyProof.Rows

/-! ### the script -/
theorem ints_of_wellAll {P : Params} {h : Heap} : ∀ (ns : List Int) (vs : List Value), WellAll P h vs (ns.map WData.int) → IntsAre vs ns := by
  intro ns
  induction ns with
  | nil =>
    intro vs w
    rw [List.map_nil] at w
    cases w
    exact .nil
  | cons n ns ih =>
    intro vs w
    rw [List.map_cons] at w
    cases w with
    | cons a b =>
      cases a
      exact .cons _ _ (ih _ b)

theorem script_of {l : OpenLaw} {n : Nat} (hn : l.most = some n) {P : Params} {h : Heap} {args : List WData} {vals : List Value}
    (hpre : l.row.toRowW.claim.pre args = true) (hwl : WellAll P h vals args) :
    ∃ a vs ns, vals = [Value.ref a] ∧ args = [WData.list (ns.map WData.int)] ∧ h.get? a = some { cls := .type "list", data := .seq vs.toArray } ∧ IntsAre vs ns ∧ ns.length ≤ n := by
  have hsh : WShape.hasAll [] args [.list .int] = true := (pre_splitW hpre).1
  have hc : l.pre.holds [] { args := args } = true := (pre_splitW hpre).2
  obtain ⟨d, r, rfl, h1, h2⟩ := hasAllW_cons hsh
  obtain rfl := hasAllW_nil h2
  obtain ⟨xs, rfl, h3⟩ := hasW_list h1
  obtain ⟨ns, rfl⟩ := items_int h3
  have hlen : ns.length ≤ n := by
    unfold OpenLaw.pre at hc
    have h4 : (WTm.not (.lt (.lit (.int (n : Int))) (.len (.arg 0)))).holds [] { args := [.list (ns.map .int)] } = true := by
      have h4 := (holds_andW hc).1
      rw [hn] at h4
      exact h4
    have h5 := condW_of h4 (w_not (w_lt w_lit (w_len_list (w_arg rfl))))
    rw [List.length_map] at h5
    refine Nat.le_of_not_lt fun q => ?_
    have q' : (n : Int) < ((ns.length : Nat) : Int) := by omega
    first
      | (rw [decide_eq_true q'] at h5; exact absurd h5 (by decide))
      | (simp at h5; omega)
  cases hwl with
  | cons w1 w2 =>
    cases w2
    cases w1 with
    | list ho hall => exact ⟨_, _, ns, rfl, rfl, ho, ints_of_wellAll ns _ hall, hlen⟩

theorem post_true (l : OpenLaw) (args : List WData) : l.row.toRowW.claim.post args (.bool true) args = true :=
  postW_of (r := l.row.toRowW) (X := (true == true))
    (show WShape.has [] (.bool true) .bool = true by first | rfl | decide | simp [WShape.has, WShape.arms, WShape.armsAll])
    (show (WTm.eq .res (.lit (.bool true))).value [] { args := args, res := some (.bool true), after := args } = some (.bool (true == true)) from w_eq_bool (w_res rfl) w_lit) rfl

/-! ### the attachment: holds_open's last premise (the goal 'hc' behind k_head) from a wpAny of the law's body -/

/-- the same from a codeAny of the CALL (for a layer whose function contracts speak of calls) -/
theorem attach_call {l : OpenLaw} {n : Nat} {q : Program} {loose : List Str} {XP : (Str → Option Value) → Heap → Prop} {YP : World → Heap → Prop} {d : DefRec}
    (hn : l.most = some n) (hdf : d.params.defaults = [])
    (call : ∀ (w : World) (s₀ s₁ : Shared) (mg mb : Str → Option Value) (fa : Addr) (o : Obj) (pm cd doc : Value) (a : Addr) (vs : List Value) (ns : List Int),
      Ground q loose [] XP w s₀ mg mb s₁.heap → YP w s₁.heap →
      s₁.heap.get? fa = some o → o.data = .func (docDef d.name d.params d.body d.scope pm cd doc) → s₁.heap.CodeRec cd d.name → mg d.name = some (.ref fa) →
      s₁.heap.get? a = some { cls := .type "list", data := .seq vs.toArray } → IntsAre vs ns → ns.length ≤ n → s₁.gens = #[] →
      codeAny (model l.prog w) callerA (.call (.ref fa) ⟨[.ref a], []⟩) (fun r s' => r = .ok (.ret (.bool true)) ∧ OldK s₁.heap s'.heap ∧ s'.os = s₁.os ∧ AllBare s'.gens) s₁) :
    WalkO q loose XP YP l.row.toRowW d [] (fun f vs => PySem.call f vs) := by
  intro w s₀ s₁ mg mb G Y fa o pm cd doc dV kV ho hd hcd hD hmg hg args vals as hpre hlay hrd hwl hlo
  obtain rfl : dV = .none := Dflts.none hD hdf
  obtain rfl : kV = .none := Dflts.noKw hD
  obtain ⟨a, vs, ns, rfl, rfl, hobj, hints, hlen⟩ := script_of hn hpre hwl
  refine enter_call (codeAny_mono (call w s₀ s₁ mg mb fa o pm cd doc a vs ns G Y ho (fd_plain hd) hcd hmg hobj hints hlen hg) fun r s' hq => ?_)
  obtain ⟨rfl, h2, h3, h4⟩ := hq
  exact ⟨.inl ⟨.bool true, .bool true, [], rfl, fun _ => rfl, .bool true, post_true l _, fun _ => ⟨List.Pairwise.nil, fun _ hm => (nomatch hm)⟩⟩, h2, h3, h4⟩


/-! ### rules over ANY heap (no ledger) from facts about the written part K: the library's own take a ledger (News) for what they write -/
section
variable {prog : Program} {w : World} {A : Around} {E : Value → Shared → Prop} {s : Shared} {K : Frag}





/-! the whole heap as the ledger: makes every rule that writes through a ledger a rule over any heap -/

end
end Att

namespace L2
open PySem PySem.Spec PyProof.Rows

theorem vals_ints : ∀ {vs : List Value} {ns : List Int}, IntsAre vs ns → Vals (ns.map V.int) vs
  | _, _, .nil => .nil
  | _, _, .cons n t h => .cons ⟨t, rfl⟩ (vals_ints h)

/-- nothing is tracked but the script, known to the object (or it is an object of the module) -/
def Only (H : Hp) : Prop := ∀ b, H b = none ∨ ∃ o xs, H b = some (.frz o (.lst xs))

/-- THE HEAD: the law's promise, at the heap behind the top. F, the promise of the law's def, may use that base is part of the heap (so K.In base, base.Ns mainGlobals mg stand in Mod) -/
theorem law_call {P : Program} {w : World} {K : PySem.W.Frag} {mg mb : Str → Option Value} {CX : CXT} {k : Nat} {fa a : Addr} {fd : FuncData} {x : Str} {sp : Sp} {s₁ : Shared} {vs : List Value} {ns : List Int}
    (KX : K.In s₁.heap) (hns : s₁.heap.Ns mainGlobals mg) (hb : s₁.heap.Ns builtinsNs mb) (hbb : ∀ x : Str, x ≠ "__name__" → mb x = bootBuiltins x) (hlim : s₁.heap.NoLimit) (hg : s₁.gens = #[])
    (ha : s₁.heap.get? a = some { cls := .type "list", data := .seq vs.toArray }) (hi : IntsAre vs ns) (hl : ns.length ≤ sizeLine) (hr : Room k callerA)
    (F : ∀ base : Heap, K.In base → base.Ns mainGlobals mg → FnOk P w K mg base CX k fa fd [x] sp) (hbind : ∀ (s : Shared) (u : Value), BindsTo s fd ⟨[u], []⟩ [(x, u)])
    (hsp : ∀ H : Hp, Only H → SqL K H a (ns.map V.int) → sp [.ref a] H (fun v _ => v = .bl true) fun _ _ _ => False)
    (hCX : ∀ H e s', CX [] H s₁ (fun _ _ _ => False) e s' → False) :
    codeAny (model P w) callerA (.call (.ref fa) ⟨[.ref a], []⟩) (fun r s' => r = .ok (.ret (.bool true)) ∧ OldK s₁.heap s'.heap ∧ s'.os = s₁.os ∧ AllBare s'.gens) s₁ := by
  have rv := vals_ints hi
  have lenV := hi.length
  have core : ∀ H : Hp, Only H → SqL K H a (ns.map V.int) → HOk P w H s₁.heap → (∀ b, H b ≠ none → b = a) → (H a ≠ none → K.lookup a = none) →
      codeAny (model P w) callerA (.call (.ref fa) ⟨[.ref a], []⟩) (fun r s' => r = .ok (.ret (.bool true)) ∧ OldK s₁.heap s'.heap ∧ s'.os = s₁.os ∧ AllBare s'.gens) s₁ := by
    intro H hO hS hok hA hK
    have base_of : ∀ {b : Addr} {o : Obj}, s₁.heap.get? b = some o → H b = none → (hidT s₁.heap H).get? b = some o := fun e n => hidT_get e n
    have noA : ∀ {b : Addr} {o : Obj} {es : Array DictEntry} {ep : Nat}, s₁.heap.get? b = some o → o.data = .dict es ep → H b = none := fun {b o es ep} e d => by
      cases q : H b with
      | none => rfl
      | some u =>
        have e' : b = a := hA b (by rw [q]; simp)
        subst e'
        rw [ha] at e; cases e
        have d' : Data.seq vs.toArray _ = Data.dict es ep := d
        cases d'
    have nsK : ∀ {b : Addr} {m : Str → Option Value}, s₁.heap.Ns b m → (hidT s₁.heap H).Ns b m := fun {b m} ⟨o, es, ep, e, d, r⟩ => ⟨o, es, ep, base_of e (noA e d), d, r⟩
    have hKb : K.In (hidT s₁.heap H) := fun b o e => base_of (KX b o e) (by
      cases q : H b with
      | none => rfl
      | some u =>
        have e' : b = a := hA b (by rw [q]; simp)
        subst e'
        rw [hK (by rw [q]; simp)] at e; cases e)
    have hM : Mod K mg (hidT s₁.heap H) := ⟨hKb, nsK hns, ⟨mb, nsK hb, hbb⟩, let ⟨mc, h1, h2⟩ := hlim; ⟨mc, nsK h1, h2⟩⟩
    have e0 : Env0 P w K mg (hidT s₁.heap H) callerA [] s₁ H := ⟨rfl, hM, fun b o e => of_hidT e, Nat.le_of_eq (hidT_size _ _), trivial, fun b hb => absurd (show b ∈ ([] : List Addr) from hb) (by simp), hok, .of_eq hg⟩
    refine codeAny_mono ((F _ hKb (nsK hns)).run callerA [] s₁ H ⟨[.ref a], []⟩ [.ref a] [.ref a] _ _ hr e0 (hbind s₁ (.ref a)) (.cons rfl .nil) (hsp H hO hS)) fun r s' h => ?_
    cases r with
    | error e => exact (hCX H e s' h).elim
    | ok fl =>
      cases fl with
      | next => exact False.elim h
      | brk => exact False.elim h
      | cont => exact False.elim h
      | ret u =>
        obtain ⟨v, H', os, bare, un, hok', r', q⟩ := h
        have q' : v = .bl true := q
        subst q'
        obtain rfl : u = Value.bool true := r'
        refine ⟨rfl, OldK.of_keep fun b o e => ?_, os, bare⟩
        cases q : H b with
        | none => exact un.keep b o e q (by intro z; exact absurd (show b ∈ ([] : List Addr) from z) (by simp)) (by simp)
        | some u =>
          rcases hO b with z | ⟨ob, xs, z⟩
          · rw [q] at z; cases z
          · have z2 := un.frzs b ob _ z
            obtain ⟨e1, _⟩ := hok b _ z
            obtain ⟨e2, _⟩ := hok' b _ z2
            rw [e] at e1; cases e1
            exact e2
  cases hk : K.lookup a with
  | some o =>
    have e := KX a o hk
    rw [ha] at e
    cases e
    refine core (fun _ => none) (fun _ => .inl rfl) (.inr ⟨_, vs.toArray, _, hk, rfl, rfl, rfl, by rw [List.size_toArray, lenV]; exact hl, by simpa using rv⟩) (fun b u z => by have z' : (none : Option HO) = some u := z; cases z') (fun b z => absurd rfl z) fun z => absurd rfl z
  | none =>
    refine core (fun b => if b = a then some (.frz { cls := .type "list", data := .seq vs.toArray } (.lst (ns.map V.int))) else none) (fun b => ?_) (.inl (.inr ⟨{ cls := .type "list", data := .seq vs.toArray }, if_pos rfl⟩)) (fun b u z => ?_) (fun b z => ?_) fun _ => hk
    · by_cases hb : b = a
      · exact .inr ⟨_, _, if_pos hb⟩
      · exact .inl (if_neg hb)
    · by_cases hb : b = a
      · have z' := (if_pos hb).symm.trans z
        cases z'
        subst hb
        exact ⟨ha, by rw [List.length_map]; exact hl, vs, _, rv, ha⟩
      · have z' := (if_neg hb).symm.trans z
        cases z'
    · by_cases hb : b = a
      · exact hb
      · exact absurd (if_neg hb) z
end L2

namespace L2
open PySem PySem.Spec PyProof.Rows

abbrev KOf {K : PySem.W.Frag} {h : Heap} (_ : K.In h) : PySem.W.Frag := K

/-- the goal that k_head leaves (case hc), from the law's promise. F gives the function object fd (K's own) once, then the promise over every base -/
theorem walk_of {l : PySem.W.OpenLaw} {n k : Nat} {q : Program} {loose : List Str} {XP : (Str → Option Value) → Heap → Prop} {YP : World → Heap → Prop} {d : DefRec} {K : Params → PySem.W.Frag} {CX : World → CXT} {sp : World → Sp} {x : Str}
    (hn : l.most = some n) (hn2 : n ≤ sizeLine) (hdf : d.params.defaults = []) (hr : Room k callerA)
    (hY : ∀ (w : World) (h : Heap), YP w h → (K w.params).In h)
    (F : ∀ (w : World) (mg : Str → Option Value) (fa : Addr) (h : Heap), (K w.params).In h → h.Ns mainGlobals mg → mg d.name = some (.ref fa) →
      ∃ fd : FuncData, (∀ (s : Shared) (u : Value), BindsTo s fd ⟨[u], []⟩ [(x, u)]) ∧
        ∀ base : Heap, (K w.params).In base → base.Ns mainGlobals mg → FnOk l.prog w (K w.params) mg base (CX w) k fa fd [x] (sp w))
    (hsp : ∀ (w : World) (H : Hp) (a : Addr) (ns : List Int), ns.length ≤ n → Only H → SqL (K w.params) H a (ns.map V.int) → sp w [.ref a] H (fun v _ => v = .bl true) fun _ _ _ => False)
    (hCX : ∀ (w : World) (H : Hp) (s : Shared) (e : Value) (s' : Shared), CX w [] H s (fun _ _ _ => False) e s' → False) :
    PySem.W.WalkO q loose XP YP l.row.toRowW d [] (fun f vs => PySem.call f vs) := by
  refine Att.attach_call hn hdf fun w s₀ s₁ mg mb fa o pm cd doc a vs ns G Y ho hd hcd hmg hobj hints hlen hg => ?_
  have KX := hY w _ Y
  obtain ⟨fd, hb, hF⟩ := F w mg fa _ KX G.T.g hmg
  exact law_call KX G.T.g G.T.b G.T.builtins G.T.nolimit hg hobj hints (Nat.le_trans hlen hn2) hr hF hb (fun H hO hS => hsp w H a ns hlen hO hS) fun H e s' => hCX w H s₁ e s'
/-- the same where the promise hangs on the written part alone: (sp := My.sp_law), no hole under a binder -/
theorem walk_ofK {l : PySem.W.OpenLaw} {n k : Nat} {q : Program} {loose : List Str} {XP : (Str → Option Value) → Heap → Prop} {YP : World → Heap → Prop} {d : DefRec} {K : Params → PySem.W.Frag} {CX : CXT} {sp : PySem.W.Frag → Sp} {x : Str}
    (hn : l.most = some n) (hn2 : n ≤ sizeLine) (hdf : d.params.defaults = []) (hr : Room k callerA)
    (hY : ∀ (w : World) (h : Heap), YP w h → (K w.params).In h)
    (F : ∀ (w : World) (mg : Str → Option Value) (fa : Addr) (h : Heap), (K w.params).In h → h.Ns mainGlobals mg → mg d.name = some (.ref fa) →
      ∃ fd : FuncData, (∀ (s : Shared) (u : Value), BindsTo s fd ⟨[u], []⟩ [(x, u)]) ∧
        ∀ base : Heap, (K w.params).In base → base.Ns mainGlobals mg → FnOk l.prog w (K w.params) mg base CX k fa fd [x] (sp (K w.params)))
    (hsp : ∀ (K : PySem.W.Frag) (H : Hp) (a : Addr) (ns : List Int), ns.length ≤ n → Only H → SqL K H a (ns.map V.int) → sp K [.ref a] H (fun v _ => v = .bl true) fun _ _ _ => False)
    (hCX : ∀ (H : Hp) (s : Shared) (e : Value) (s' : Shared), CX [] H s (fun _ _ _ => False) e s' → False) :
    PySem.W.WalkO q loose XP YP l.row.toRowW d [] (fun f vs => PySem.call f vs) :=
  walk_of (K := K) (CX := fun _ => CX) (sp := fun w => sp (K w.params)) hn hn2 hdf hr hY F (fun w H a ns h1 h2 h3 => hsp (K w.params) H a ns h1 h2 h3) fun _ H s e s' => hCX H s e s'
end L2

/- THE LAST THEOREM (shape; LID, My.* are yours):
   My.Adr: a structure of the addresses that your layer names (classes, functions); My.Txt K t: a structure (Prop) of the equations over K;
   My.txt_mk : {K} {implicit addresses ..} (e1 : nsIn K mainGlobals "law" = some (some (.ref f))) (e2 : K.lookup f = some ⟨oc, od, .func (fnOf "law" "law" params body scope dV kV doc pm an cdv ct), sl⟩) (e3 : codeIn K cdv "law" = true) .. : ∃ t, My.Txt K t

set_option maxRecDepth 100000 in
set_option maxHeartbeats 0 in
theorem PySem.Challenge.cw_LID_holds : PySem.Challenge.rw_LID.Holds := by
  w_on; o_law; k_head; (case hw => w_witness2)
  k_fill
  refine L2.walk_of (l := PySem.Challenge.rw_LID) (n := 63) (k := 40) (x := "script") (CX := fun w => ..) (sp := fun _ => My.sp_law) rfl (by decide) rfl ⟨rfl, by decide, by decide⟩ (fun w h Y => PySem.W.kIn_of Y) ?F ?S ?C
  case F =>
    intro w mg fa h KX G hmg
    have T : ∃ t, My.Txt (L2.KOf KX) t := by
      dsimp only [L2.KOf]                          -- K must stand as «<heap const> w.params» for k_is
      refine' My.txt_mk ?e1 ?e2 ?e3 ..
      (case e1 => PySem.W.k_is)                    -- in the order: a name -> its address -> its object -> its parts
      (case e2 => PySem.W.k_is)
      ..
    obtain ⟨t, T⟩ := T
    have e0 := hmg.symm.trans (PySem.W.mg_of KX G T.law)
    cases e0                                       -- fa is the law's own address
    exact ⟨_, fun s u => .of_eq rfl, fun base kb nb => My.law_fn T kb nb⟩     -- if «.of_eq rfl» comes too early: refine' ⟨_, ?b, fun base kb nb => My.law_fn T kb nb⟩; exact fun s u => .of_eq rfl
  case S => exact fun w H a ns hl hO hS => ..
  case C => exact ..
(the tactic k_is has no namespace: write k_is) -/

/-! SHORT WORDS over the layer: a def of the text, its body, what a loop and a test want. -/
namespace L2
open PySem PySem.Spec PyProof.Rows

/-! ### the text by places -/
/-- the j-th statement of a class's body -/
def inClass (s : Stmt) (j : Nat) : Stmt := match s with
  | .ClassDef _ _ _ body _ _ _ _ _ _ _ => body.getD j (.Pass ⟨0, 0, 0, 0⟩)
  | _ => .Pass ⟨0, 0, 0, 0⟩
def defArgs (s : Stmt) : Arguments := match s with
  | .FunctionDef _ a _ _ _ _ _ _ _ _ => a
  | _ => { posonlyargs := [], args := [], vararg := none, kwonlyargs := [], kw_defaults := [], kwarg := none, defaults := [] }
def defBody (s : Stmt) : List Stmt := match s with
  | .FunctionDef _ _ b _ _ _ _ _ _ _ => b
  | _ => []
def defScope (s : Stmt) : Scope := match s with
  | .FunctionDef _ _ _ _ _ _ sc _ _ _ => sc
  | _ => { kind := .function, names := [], isGenerator := false, isCoroutine := false }

/-! ### no exception leaves a def -/
abbrev CX0 : CXT := fun _ _ _ _ _ _ => False
abbrev E0 : XK := fun _ _ _ => False
theorem pass0 {X : Cx} : Passes CX0 X E0 := fun _ _ _ _ _ _ _ h => h.elim

/-! ### a def (or method) of the text as it stands behind the top -/
structure Fun (K : PySem.W.Frag) (x qual : Str) (st : Stmt) (f : Addr) (fd : FuncData) : Prop where
  ex : ∃ (oc : Value) (od : Option Addr) (kV doc pm : Value) (an : Option Addr) (cdv ct : Value) (osl : Array (Option Value)),
    fd = PySem.W.fnOf x qual (defArgs st) (defBody st) (defScope st) .none kV doc pm an cdv ct ∧ K.lookup f = some ⟨oc, od, .func fd, osl⟩ ∧ PySem.W.codeIn K cdv qual = true
  kp : PySem.W.keepIn K (.ref f) = true
section
variable {P : Program} {w : World} {K : PySem.W.Frag} {mg : Str → Option Value} {base : Heap}
/-- THE RULE for a def: its body as a term of rules, and the reading of that term -/
theorem Fun.ok {x qual : Str} {st : Stmt} {f : Addr} {fd : FuncData} {N ps : List Str} {k : Nat} {sp : Sp} (F : Fun K x qual st f fd) (S : FnScope N ps (defScope st)) (len : ∀ vs H Q E, sp vs H Q E → vs.length = ps.length)
    (hbody : ∀ (cdv : Value) (A : Around) (outer : List Env) (s : Shared) (H : Hp) (vs : List V) (Q : VK) (E : XK), Room k (A.deeper (envOfC qual (defScope st) s.heap.objs.size f cdv)) → sp vs H Q E →
      ∃ t, PSs (cxOf CX0 P w K mg base N qual (defScope st) f cdv A outer s H E).nox (defBody st) t ∧ t { nx := fun _ H' => Q .non H', rt := Q } (start N vs) H) : FnOk P w K mg base CX0 (k + 1) f fd ps sp := by
  obtain ⟨oc, od, kV, doc, pm, an, cdv, ct, osl, rfl, lk, hcd⟩ := F.ex
  refine fn_of lk hcd S len fun A outer s H vs Q E hr hsp => ?_
  obtain ⟨t, h, q⟩ := hbody cdv A outer s H vs Q E hr hsp
  exact ⟨t, h.nox, q⟩
/-- how its arguments bind (no defaults): h is «fun _ _ _ _ _ _ us hl => match us, hl with | [_, _], _ => rfl», one _ a parameter -/
theorem Fun.binds {x qual : Str} {st : Stmt} {f : Addr} {fd : FuncData} {ps : List Str} (F : Fun K x qual st f fd)
    (h : ∀ (kV doc pm : Value) (an : Option Addr) (cdv ct : Value) (us : List Value), us.length = ps.length → bindArgs (PySem.W.fnOf x qual (defArgs st) (defBody st) (defScope st) .none kV doc pm an cdv ct) ⟨us, []⟩ = pure (ps.zip us)) : Binds K fd ps [] := by
  obtain ⟨oc, od, kV, doc, pm, an, cdv, ct, osl, rfl, lk, hcd⟩ := F.ex
  exact .all (h kV doc pm an cdv ct)
theorem fun_mk {x qual : Str} {st : Stmt} {f : Addr} {oc : Value} {od an : Option Addr} {osl : Array (Option Value)} {kV doc pm cdv ct : Value} (l : K.lookup f = some ⟨oc, od, .func (PySem.W.fnOf x qual (defArgs st) (defBody st) (defScope st) .none kV doc pm an cdv ct), osl⟩)
    (c : PySem.W.codeIn K cdv qual = true) (k : PySem.W.keepIn K (.ref f) = true) : Fun K x qual st f (PySem.W.fnOf x qual (defArgs st) (defBody st) (defScope st) .none kV doc pm an cdv ct) := ⟨⟨oc, od, kV, doc, pm, an, cdv, ct, osl, rfl, l, c⟩, k⟩
end
theorem small1000 {n : Nat} (h : n ≤ 1000) : n < sizeLine := Nat.lt_of_le_of_lt h (by decide)

/-! ### expressions in short: the name that stands in the i-th slot -/
section
variable {X : Cx}
theorem pv (i : Nat) {x : Str} {pos : Pos} (hN : X.N[i]? = some x := by rfl) (hv : Vis X.env.scope x := by first | exact Or.inl rfl | exact Or.inr (Or.inl rfl) | exact Or.inr (Or.inr rfl)) (hd : (x == ("__debug__" : Str)) = false := by decide)
    (hcd : (x == ("__classdict__" : Str)) = false := by decide) : PE X (.Name x pos) (tVar i) := pe_var hN hv hd hcd
end

/-! ### tests -/
theorem iteF {A B : Prop} (h : B) : if false = true then A else B := by
  rw [if_neg Bool.false_ne_true]
  exact h
theorem iteT {A B : Prop} (h : A) : if true = true then A else B := by
  rw [if_pos rfl]
  exact h
theorem ite2 {c A B : Prop} [Decidable c] (h1 : c → A) (h2 : ¬ c → B) : if c then A else B := by
  by_cases h : c
  · rw [if_pos h]
    exact h1 h
  · rw [if_neg h]
    exact h2 h

/-! ### heaps -/
/-- all that was tracked is as it was -/
def Same (H H' : Hp) : Prop := ∀ b o, H b = some o → H' b = some o
theorem Same.refl (H : Hp) : Same H H := fun _ _ h => h
theorem Same.trans {H H1 H2 : Hp} (a : Same H H1) (b : Same H1 H2) : Same H H2 := fun c o h => b c o (a c o h)
theorem Same.free {H H' : Hp} (e : Same H H') {l : Addr} (h : H' l = Option.none) : H l = Option.none := by
  cases q : H l with
  | none => rfl
  | some o =>
    rw [e l o q] at h
    cases h
theorem Same.seq {K : PySem.W.Frag} {H H' : Hp} {a : Addr} {xs : List V} (e : Same H H') (h : SqL K H a xs) : SqL K H' a xs := by
  rcases h with (h | ⟨o, h⟩) | h
  · exact .inl (.inl (e _ _ h))
  · exact .inl (.inr ⟨o, e _ _ h⟩)
  · exact .inr h

end L2

namespace L2
open PySem PySem.Spec PyProof.Rows

/-! ### a comprehension: its closure -/
def clOf (cells : List (Str × Addr)) : List (Str × NameKind) → List (Str × Addr) → List (Str × Addr)
  | [], acc => acc
  | (n, k) :: r, acc => clOf cells r (if k == .free then (match cells.lookup n with | some c => (n, c) :: acc | none => acc) else acc)
theorem clo_go {env : Env} : ∀ (ns : List (Str × NameKind)) (acc : List (Str × Addr)), (∀ x ∈ ns, x.2 = .free → ∃ c, env.cells.lookup x.1 = some c) →
    (forIn ns acc fun (x : Str × NameKind) (cs : List (Str × Addr)) => (if x.2 == NameKind.free then do let a ← cellOf env x.1; pure (ForInStep.yield ((x.1, a) :: cs)) else pure (ForInStep.yield cs) : Sem (ForInStep (List (Str × Addr))))) = pure (clOf env.cells ns acc)
  | [], acc, _ => by simp [clOf]
  | (n, k) :: r, acc, h => by
    rw [List.forIn_cons]
    have ih := fun a => clo_go (env := env) r a fun x hx => h x (List.mem_cons_of_mem _ hx)
    unfold clOf
    by_cases hk : (k == NameKind.free) = true
    · obtain ⟨c, hc⟩ := h (n, k) List.mem_cons_self (by simpa using hk)
      have hc' : env.cells.lookup n = some c := hc
      have hce : cellOf env n = pure c := by simp only [cellOf, hc']
      simp only [hk, if_true, hce, pure_bind, hc']
      exact ih _
    · simp only [hk, if_false, pure_bind, ih]
      simp
theorem closure_is {scope : Scope} {env : Env} (h : ∀ x ∈ scope.names, x.2 = .free → ∃ c, env.cells.lookup x.1 = some c) : closureFor scope env = pure (clOf env.cells scope.names []) := by
  have q := clo_go (env := env) scope.names [] h
  unfold closureFor
  rw [← q]
  first
    | rfl
    | simp
theorem clOf_has {cells : List (Str × Addr)} : ∀ (ns : List (Str × NameKind)) (acc : List (Str × Addr)) {x : Str} {c : Addr}, (∀ y d, acc.lookup y = some d → cells.lookup y = some d) → (clOf cells ns acc).lookup x = some c → cells.lookup x = some c
  | [], acc, x, c, ha, h => ha x c h
  | (n, k) :: r, acc, x, c, ha, h => by
    unfold clOf at h
    refine clOf_has r _ (fun y d hy => ?_) h
    split at hy
    · split at hy
      · rename_i c' hc'
        rw [List.lookup_cons] at hy
        split at hy
        · rename_i e
          have e' : y = n := by simpa using e
          subst e'
          rw [hc']; exact hy
        · exact ha y d hy
      · exact ha y d hy
    · exact ha y d hy
theorem clOf_keep {cells : List (Str × Addr)} : ∀ (ns : List (Str × NameKind)) (acc : List (Str × Addr)) {x : Str}, (∃ c, acc.lookup x = some c) → ∃ c, (clOf cells ns acc).lookup x = some c
  | [], acc, x, h => h
  | (n, k) :: r, acc, x, h => by
    unfold clOf
    refine clOf_keep r _ ?_
    split
    · split
      · rw [List.lookup_cons]
        split
        · exact ⟨_, rfl⟩
        · exact h
      · exact h
    · exact h
theorem clOf_get {cells : List (Str × Addr)} : ∀ (ns : List (Str × NameKind)) (acc : List (Str × Addr)) {x : Str}, (x, NameKind.free) ∈ ns → (∃ c, cells.lookup x = some c) → ∃ c, (clOf cells ns acc).lookup x = some c
  | [], acc, x, h, _ => nomatch h
  | (n, k) :: r, acc, x, h, hc => by
    unfold clOf
    rcases List.mem_cons.mp h with e | h
    · cases e
      obtain ⟨c, hc⟩ := hc
      refine clOf_keep r _ ?_
      simp [hc]
    · exact clOf_get r _ h hc
end L2

namespace L2
open PySem PySem.Spec PyProof.Rows

/-- an untracked object of ours is tracked from now on -/
theorem Inv.track {X : Cx} {pins : List (Addr × Obj)} {σ : St} {H : Hp} {s : Shared} {a : Addr} {o : HO} (I : Inv X pins σ H s) (hn : H a = none) (h0 : X.s₀.heap.objs.size ≤ a) (hL : a ≠ X.env.locals)
    (hc : ∀ x c, X.env.cells.lookup x = some c → c ≠ a) (hp : ∀ p ∈ X.pn ++ pins, p.1 ≠ a) (new : ObjOk X.prog X.w (upd H a o) s.heap a o) : Inv X pins σ (upd H a o) s := by
  have ne : ∀ b u, H b = some u → b ≠ a := fun b u e => ne_of_none e hn
  have q := I.step (g' := s.gens) (d' := s.drawn) (t' := s.toks) (h' := s.heap) (H' := upd H a o) (ch := [a]) (fun b hb => ?_) (fun b ob _ _ _ e _ => e) (fun b ob _ _ _ e _ => ⟨ob.slots, e⟩) (fun b ob hb _ n => ?_)
    (fun b ob _ e => ⟨ob, e⟩) (fun b xs e => by rw [upd_ne (ne b _ e)]; exact e) (fun b ob u e => by rw [upd_ne (ne b _ e)]; exact e) (fun b ps e => ⟨#[], by rw [upd_ne (ne b _ e), e]; simp⟩) (fun m hm => hm) (fun b u e => ?_) I.bare
  · exact q
  · have e : b = a := by simpa using hb
    subst e
    exact ⟨.inr h0, hL, hc, hp⟩
  · rw [upd_ne (fun z => hb (by simp [z]))]; exact n
  · by_cases hb : b = a
    · subst hb; rw [upd_same] at e; cases e; exact new
    · rw [upd_ne hb] at e
      exact (I.hok b u e).stay (fun c v _ q => q) (fun c q => by rw [upd_ne (ne_of_none q hn)]; exact q) fun c xs q => by rw [upd_ne (ne_of_none q hn)]; exact q

/-- the context of a comprehension's block -/
def cxComp (X : Cx) (N' : List Str) (scope : Scope) (C : Addr) (s : Shared) (H : Hp) (fp : List Addr) (xe : Value → Shared → Prop) : Cx :=
  { X with N := N', s₀ := s, H₀ := H, env := compEnvC scope (clOf X.env.cells scope.names []) C X.env, outer := X.stack, ex := fp, fn := fun _ => false, xe := xe }

/-- what is asked of the block's names: ix says where a captured name stands outside -/
structure BlkOk (X : Cx) (N' : List Str) (ix : List (Option Nat)) (scope : Scope) : Prop where
  kind : scope.kind = .function
  nocell : ∀ y ∈ scope.names, y.2 ≠ .cell
  locs : ∀ y ∈ scope.names, y.2 = .local → scope.names.lookup y.1 = some .local
  free : ∀ y ∈ scope.names, y.2 = .free → X.env.kindOf y.1 = some .cell ∨ X.env.kindOf y.1 = some .free
  len : ix.length = N'.length
  cap : ∀ (i j : Nat), ix[i]? = some (some j) → ∃ x, N'[i]? = some x ∧ X.N[j]? = some x ∧ scope.names.lookup x = some .free
def capt (ix : List (Option Nat)) (σ : St) : St := ix.map fun o => o.bind fun j => (σ[j]?).join

theorem relabel_free {env : Env} {x : Str} : ∀ {names : List (Str × NameKind)}, names.lookup x = some .free → (names.map fun (n, k) => if (k == NameKind.free && env.scope.kind == .function && env.kindOf n == some .cell) then (n, NameKind.cell) else (n, k)).lookup x = some .cell ∨ (names.map fun (n, k) => if (k == NameKind.free && env.scope.kind == .function && env.kindOf n == some .cell) then (n, NameKind.cell) else (n, k)).lookup x = some .free
  | [], h => by simp at h
  | (n, k) :: r, h => by
    have ih := @relabel_free env x r
    simp only [List.map_cons]
    cases hx : x == n with
    | true =>
      simp only [List.lookup_cons, hx] at h
      cases h
      by_cases hc : (NameKind.free == NameKind.free && env.scope.kind == .function && env.kindOf n == some .cell) = true
      · rw [if_pos hc]; left; simp [List.lookup_cons, hx]
      · rw [if_neg hc]; right; simp [List.lookup_cons, hx]
    | false =>
      simp only [List.lookup_cons, hx] at h
      by_cases hc : (k == NameKind.free && env.scope.kind == .function && env.kindOf n == some .cell) = true
      · rw [if_pos hc]; simp only [List.lookup_cons, hx]; exact ih h
      · rw [if_neg hc]; simp only [List.lookup_cons, hx]; exact ih h
theorem relabel_back {env : Env} {x : Str} : ∀ {names : List (Str × NameKind)}, (∀ y ∈ names, y.2 ≠ .cell) → ((names.map fun (n, k) => if (k == NameKind.free && env.scope.kind == .function && env.kindOf n == some .cell) then (n, NameKind.cell) else (n, k)).lookup x = some .cell ∨ (names.map fun (n, k) => if (k == NameKind.free && env.scope.kind == .function && env.kindOf n == some .cell) then (n, NameKind.cell) else (n, k)).lookup x = some .free) → (x, NameKind.free) ∈ names
  | [], _, h => by simp at h
  | (n, k) :: r, hn, h => by
    have ih := @relabel_back env x r fun y hy => hn y (List.mem_cons_of_mem _ hy)
    simp only [List.map_cons] at h
    cases hx : x == n with
    | true =>
      have e : x = n := by simpa using hx
      subst e
      have hk := hn (x, k) List.mem_cons_self
      by_cases hc : (k == NameKind.free && env.scope.kind == .function && env.kindOf x == some .cell) = true
      · have hf : k = .free := by
          simp only [Bool.and_eq_true, beq_iff_eq] at hc
          exact hc.1.1
        subst hf
        exact List.mem_cons_self
      · rw [if_neg hc] at h
        simp only [List.lookup_cons, hx] at h
        rcases h with h | h
        · exact absurd (Option.some.inj h) hk
        · have hf : k = .free := Option.some.inj h
          subst hf
          exact List.mem_cons_self
    | false =>
      refine List.mem_cons_of_mem _ (ih ?_)
      by_cases hc : (k == NameKind.free && env.scope.kind == .function && env.kindOf n == some .cell) = true
      · rw [if_pos hc] at h; simpa only [List.lookup_cons, hx] using h
      · rw [if_neg hc] at h; simpa only [List.lookup_cons, hx] using h

theorem capt_cell {X : Cx} {pins : List (Addr × Obj)} {σ : St} {H : Hp} {s : Shared} {N' : List Str} {ix : List (Option Nat)} {scope : Scope} {i : Nat} {x : Str} {v : V} (B : BlkOk X N' ix scope) (I : Inv X pins σ H s)
    (h1 : N'[i]? = some x) (h2 : (capt ix σ)[i]? = some (some v)) : ∃ u c, RelV v u ∧ (clOf X.env.cells scope.names []).lookup x = some c ∧ X.env.cells.lookup x = some c ∧ s.heap.IsCell c (some u) ∧
      ((relabel scope X.env).names.lookup x = some .cell ∨ (relabel scope X.env).names.lookup x = some .free) := by
  have clB : ∀ x c, (clOf X.env.cells scope.names []).lookup x = some c → X.env.cells.lookup x = some c := fun x c h => clOf_has scope.names [] (fun _ _ z => by simp at z) h
  obtain ⟨j, hj, hv⟩ : ∃ j, ix[i]? = some (some j) ∧ σ[j]? = some (some v) := by
    unfold capt at h2
    rw [List.getElem?_map] at h2
    cases e : ix[i]? with
    | none => rw [e] at h2; cases h2
    | some o =>
      rw [e] at h2
      cases o with
      | none => cases h2
      | some j =>
        refine ⟨j, rfl, ?_⟩
        have h2' : (σ[j]?).join = some v := Option.some.inj h2
        cases e2 : σ[j]? with
        | none => rw [e2] at h2'; cases h2'
        | some o2 => rw [e2] at h2'; have : o2 = some v := h2'; rw [this]
  obtain ⟨x', hx1, hx2, hx3⟩ := B.cap i j hj
  have exx : x' = x := by
    have h1' : N'[i]? = some x := h1
    rw [hx1] at h1'; exact Option.some.inj h1'
  subst exx
  have hmem := PySem.mem_of_lookup hx3
  have hout := B.free _ hmem rfl
  obtain ⟨m0, _, hl⟩ := I.loc
  obtain ⟨u, r, l⟩ := hl j x' v hx2 hv (by
    rcases hout with e | e
    · exact .inr (.inl e)
    · exact .inr (.inr e))
  rcases l with ⟨k, _⟩ | ⟨k, c, e, z⟩
  · rcases hout with e | e
    · rw [e] at k; cases k
    · rw [e] at k; cases k
  · obtain ⟨c', hc'⟩ := clOf_get scope.names [] hmem (I.ok.has x' hout)
    have := clB x' c' hc'
    rw [e] at this; cases this
    exact ⟨u, c, r, hc', e, z, relabel_free hx3⟩

theorem inv_block {X : Cx} {pins : List (Addr × Obj)} {σ : St} {H : Hp} {s s4 : Shared} {N' : List Str} {ix : List (Option Nat)} {scope : Scope} {C : Addr} {fp : List Addr} {xe : Value → Shared → Prop} {m : Str → Option Value}
    (B : BlkOk X N' ix scope) (I : Inv X pins σ H s) (hf : ∀ b ∈ fp, FpOk X pins H b) (hC : s.heap.objs.size ≤ C) (hfs : ∀ b ∈ fp, b < s.heap.objs.size)
    (ho : s4.os = s.os) (hg : s4.gens = s.gens) (hk : ∀ b o, s.heap.get? b = some o → s4.heap.get? b = some o) (hns : s4.heap.Ns C m) :
    Inv (cxComp X N' scope C s H fp xe) pins (capt ix σ) H s4 := by
  have clB : ∀ x c, (clOf X.env.cells scope.names []).lookup x = some c → X.env.cells.lookup x = some c := fun x c h => clOf_has scope.names [] (fun _ _ z => by simp at z) h
  have hfree : H C = none := I.hok.fresh hC
  have neC : ∀ b o, s.heap.get? b = some o → b ≠ C := fun b o e => Nat.ne_of_lt (Nat.lt_of_lt_of_le (Heap.lt_size e) hC)
  refine ⟨⟨I.ok.mod, B.kind, I.ok.glob, I.ok.blt, hC, fun x y c h1 h2 => I.ok.inj x y c (clB x c h1) (clB y c h2), fun x hx => ?_, fun x c h => absurd (show false = true from h) Bool.false_ne_true, I.ok.hd, I.ok.frames, .inl rfl, fun b hb => ⟨?_, fun x c e => ?_⟩, I.bs, ?_, fun b o e hb => ?_, fun b hb z => ?_, I.stack, I.stkFree⟩,
    ho, ?_, Un.kept hk, ⟨m, hns, fun i x v h1 h2 h3 => ?_⟩, fun x c e => ?_, hfree, fun x c e => I.freeC x c (clB x c e), fun p hp => ?_, I.hok.kept hk, ?_⟩
  · have hx' := relabel_back (env := X.env) (x := x) B.nocell hx
    exact clOf_get scope.names [] hx' (I.ok.has x (B.free _ hx' rfl))
  · exact Nat.ne_of_lt (Nat.lt_of_lt_of_le (hfs b hb) hC)
  · exact (hf b hb).2.2.2.2.1 x c (clB x c e)
  · exact Nat.le_trans I.ok.bsz I.sz
  · obtain ⟨_, _, _, q, _⟩ := hf b hb
    rcases q with q | q
    · exact I.ok.noex b o e q
    · exact absurd (Nat.lt_of_lt_of_le (Heap.lt_size (I.ok.bs b o e).1) q) (Nat.lt_irrefl _)
  · obtain ⟨_, q1, q2, _⟩ := hf b hb
    rcases List.mem_cons.mp (I.stkSub b z) with e | e
    · exact q1 e
    · exact q2 e
  · rw [hg]; exact I.bare
  · obtain ⟨u, c, r, hc1, _, ⟨oc, z1, z2⟩, hk'⟩ := capt_cell B I h1 h2
    exact ⟨u, r, .inr ⟨hk', c, hc1, oc, hk _ _ z1, z2⟩⟩
  · obtain ⟨v, oc, h1, h2⟩ := I.cell x c (clB x c e)
    exact ⟨v, oc, hk _ _ h1, h2⟩
  · obtain ⟨e, n, ne, nf, d⟩ := I.pin p hp
    refine ⟨hk _ _ e, n, neC _ _ e, fun z => ?_, d⟩
    rcases List.mem_cons.mp (I.stkSub p.1 z) with e' | e'
    · exact ne e'
    · exact nf e'
  · show (ix.map _).length = N'.length
    rw [List.length_map]; exact B.len
end L2

namespace L2
open PySem PySem.Spec PyProof.Rows

theorem compLoop_go {prog : Program} {w : World} {A : Around} {R : Result → Shared → Prop} {s : Shared} {elt target iter : Expr} {ifs : List Expr} {scope : Scope} {pos : Pos} {it acc : Value} {env : Env} (Iv : Nat → Shared → Prop)
    (turn : ∀ n s, Iv n s → wpAny (model prog w) A (pyNext it) (fun r s₁ => match r with
      | none => R (.ok .next) s₁
      | some v => wpAny (model prog w) A (letOwnedTupleGo target it v) (fun _ s₁' => wpAny (model prog w) A (assign target env v) (fun _ s₂ =>
          wpAny (model prog w) A (forIn ifs true fun c r => if r = true then do let ok ← isTrue c env (eval c env); pure (ForInStep.yield ok) else pure (ForInStep.yield r)) (fun ok s₃ =>
            if ok = true then wpAny (model prog w) A (eval elt env) (fun x s₄ =>
              wpAny (model prog w) A (call (.builtin "list.append") [acc, x]) (fun _ s₅ => ∃ m, m < n ∧ Iv m s₅) (notedBy (model prog w) A env fun e s' => R (.error e) s') s₄) (notedBy (model prog w) A env fun e s' => R (.error e) s') s₃
            else ∃ m, m < n ∧ Iv m s₃) (notedBy (model prog w) A env fun e s' => R (.error e) s') s₂) (notedBy (model prog w) A env fun e s' => R (.error e) s') s₁') (notedBy (model prog w) A env fun e s' => R (.error e) s') s₁) (notedBy (model prog w) A env fun e s' => R (.error e) s') s)
    (n : Nat) (h : Iv n s) :
    codeAny (model prog w) A (.compLoop (.ListComp elt [⟨target, iter, ifs, 0⟩] scope pos) 0 it acc env) R s := by
  refine codeAny_loop rfl Iv (fun n s hI => ?_) n h
  show wpAny _ A ((compTurn (.ListComp elt [⟨target, iter, ifs, 0⟩] scope pos) 0 it acc env).onRaise (fun x => do noteFrame x env; theTreesLotGoes x)) _ _ s
  refine wpAny_noted ?_
  rw [compTurn_list]
  refine wpAny_bind (wpAny_standAt (wpAny_bind (wpAny_mono (turn n s hI) (fun r s₁ h₁ => ?_) fun _ _ h' => h')))
  cases r with
  | none => exact wpAny_pure h₁
  | some v =>
    refine wpAny_bind (wpAny_mono h₁ (fun _ s₁' h₁' => ?_) fun _ _ h' => h')
    refine wpAny_bind (wpAny_mono h₁' (fun _ s₂ h₂ => wpAny_bind (wpAny_mono h₂ (fun ok s₃ h₃ => ?_) fun _ _ h' => h')) fun _ _ h' => h')
    cases ok with
    | false => exact wpAny_pure ⟨rfl, h₃⟩
    | true =>
      exact wpAny_bind (wpAny_bind (wpAny_mono h₃ (fun x s₄ h₄ => wpAny_bind (wpAny_mono h₄ (fun _ s₅ h₅ => wpAny_pure (wpAny_pure ⟨rfl, h₅⟩)) fun _ _ h' => h')) fun _ _ h' => h'))

/-- the tests of a comprehension's clause -/
def PTs (X : Cx) (ifs : List Expr) (t : TT) : Prop :=
  ∀ (pins : List (Addr × Obj)) (s : Shared) (σ : St) (H : Hp) (Q : Bool → Hp → Prop), Inv X pins σ H s → t σ H Q →
    wpAny (model X.prog X.w) X.A (forIn ifs true fun c r => if r = true then do let ok ← isTrue c X.env (eval c X.env); pure (ForInStep.yield ok) else pure (ForInStep.yield r)) (TP X pins σ Q) X.xe s
def tTrue : TT := fun _ H Q => Q true H
theorem pts_nil {X : Cx} : PTs X [] tTrue := fun _ _ _ H _ I h => wpAny_tests_nil ⟨H, I, h⟩
theorem pts_one {X : Cx} {c : Expr} {t : TT} (h : PT X c t) : PTs X [c] t := fun pins s σ H Q I hw => wpAny_tests_one (h pins s σ H Q I hw)

/-- the turns of a comprehension's block -/
def LcGoal (ix : List (Option Nat)) (g : TG) (tt : TT) (te : TE) (σ : St) (H1 : Hp) (Q : VK) (J : It) : Prop := ∃ W : Nat → Nat → List V → Hp → Prop, (∃ m, W 0 m [] H1) ∧ ∀ i m ys H, W i m ys H →
  (J.stop i H ∧ ys.length ≤ sizeLine ∧ ∀ p, H p = none → Q (.ref p) (upd H p (.lst ys))) ∨
  (J.go i H ∧ ys.length ≤ sizeLine ∧ ∃ N : List V → Hp → Prop, (∀ ys' H', N ys' H' → ∃ m', m' < m ∧ W (i + 1) m' ys' H') ∧ ∀ x H', J.yld i H x H' → g x (capt ix σ) H' fun σ2 H2 => tt σ2 H2 fun b H3 => if b = true then te σ2 H3 fun v H4 => N (ys ++ [v]) H4 else N ys H3)
def tLC (ix : List (Option Nat)) (wi : TI) (g : TG) (tt : TT) (te : TE) : TE := fun σ H Q => wi σ H fun J H1 => LcGoal ix g tt te σ H1 Q J

section
variable {X : Cx} {elt tg iter : Expr} {ifs : List Expr} {scope : Scope} {pos : Pos} {N' : List Str} {ix : List (Option Nat)} {wi : TI} {g : TG} {tt : TT} {te : TE}

/-- the loop's end, by what is wanted -/
theorem lc_run (B : BlkOk X N' ix scope) (hc : X.calm = true)
    (hg : ∀ C s H fp xe, PG (cxComp X N' scope C s H fp xe) tg g) (ht : ∀ C s H fp xe, PTs (cxComp X N' scope C s H fp xe) ifs tt) (he : ∀ C s H fp xe, PE (cxComp X N' scope C s H fp xe) elt te)
    {pins : List (Addr × Obj)} {s2 : Shared} {σ : St} {H2 : Hp} {Q : VK} {it : Addr} {fp : List Addr} {tn : Nat → Heap → Prop} {J : It} {RR : Value → Addr → Result → Shared → Prop} {E : Value → Shared → Prop}
    (I2 : Inv X pins σ H2 s2) (T : Turn X.prog X.w X.K tg J fp it tn) (st2 : tn 0 s2.heap) (f2 : ∀ b ∈ fp, FpOk X pins H2 b)
    (q : ∃ W : Nat → Nat → List V → Hp → Prop, (∃ m, W 0 m [] H2) ∧ ∀ i m ys H, W i m ys H →
      (J.stop i H ∧ ys.length ≤ sizeLine ∧ ∀ p, H p = none → Q (.ref p) (upd H p (.lst ys))) ∨
      (J.go i H ∧ ys.length ≤ sizeLine ∧ ∃ N : List V → Hp → Prop, (∀ ys' H', N ys' H' → ∃ m', m' < m ∧ W (i + 1) m' ys' H') ∧ ∀ x H', J.yld i H x H' → g x (capt ix σ) H' fun σ2 H2 => tt σ2 H2 fun b H3 => if b = true then te σ2 H3 fun v H4 => N (ys ++ [v]) H4 else N ys H3))
    (hRR : ∀ D C s' H' ys, Inv X pins σ (upd H' D (.lst ys)) s' → H' D = none → Q (.ref D) (upd H' D (.lst ys)) → (∃ m, s'.heap.Ns C m) → upd H' D (.lst ys) C = none → C ≠ X.env.locals → X.s₀.heap.objs.size ≤ C → (∀ x c, X.env.cells.lookup x = some c → c ≠ C) → (∀ p ∈ X.pn ++ pins, p.1 ≠ C) → RR (.ref D) C (.ok .next) s') :
    wpAny (model X.prog X.w) X.A (newList []) (fun acc s₃ => wpAny (model X.prog X.w) X.A (newFunctionEnv scope X.env.globals (clOf X.env.cells scope.names []) [] X.env.qual none .none (some X.env)) (fun cenv s₄ =>
      codeAny (model X.prog X.w) X.A (.compStart (.ListComp elt [⟨tg, iter, ifs, 0⟩] scope pos) 0 (.ref it) acc { cenv with scope := relabel scope X.env }) (RR acc cenv.locals) s₄) E s₃) E s2 := by
  have hfs : ∀ b ∈ fp, b < s2.heap.objs.size := fun b hb => by
    obtain ⟨o, e, _⟩ := T.obj _ _ st2 b hb
    exact Heap.lt_size e
  refine wpAny_newObj_type (wpAny_newFunctionEnv B.nocell (by intro y hy; simp at hy) (fun h₁ hns₁ hsb₁ => ?_) B.kind)
  dsimp only at hns₁ hsb₁ ⊢
  generalize hH3 : s2.heap.push { cls := .type "list", dict := none, data := .seq ([] : List Value).toArray } = H3 at hns₁ hsb₁ ⊢
  have hC : H3.objs.size = s2.heap.objs.size + 1 := by rw [← hH3, Heap.size_push]
  have hDC : s2.heap.objs.size ≠ H3.objs.size := by rw [hC]; exact Nat.ne_of_lt (Nat.lt_succ_self _)
  have below : ∀ b, b < s2.heap.objs.size → b ≠ H3.objs.size ∧ b ≠ s2.heap.objs.size := fun b hb => ⟨by rw [hC]; exact Nat.ne_of_lt (Nat.lt_succ_of_lt hb), Nat.ne_of_lt hb⟩
  have old : ∀ b o, s2.heap.get? b = some o → h₁.get? b = some o := fun b o e => hsb₁.extBut b o (below b (Heap.lt_size e)).1 (Heap.get?_push_of_some _ (hH3 ▸ Heap.get?_push_of_some _ e))
  have hacc : h₁.get? s2.heap.objs.size = some { cls := .type "list", data := .seq ([] : List Value).toArray 0 } := hsb₁.extBut _ _ hDC (Heap.get?_push_of_some _ (hH3 ▸ Heap.get?_push_size _ rfl))
  have hCle : s2.heap.objs.size ≤ H3.objs.size := by rw [hC]; exact Nat.le_succ _
  generalize hD : s2.heap.objs.size = D at *
  generalize hCC : H3.objs.size = C at *
  obtain ⟨W, ⟨m0, w0⟩, turn⟩ := q
  let xe : Value → Shared → Prop := notedBy (model X.prog X.w) X.A (compEnvC scope (clOf X.env.cells scope.names []) C X.env) fun e s' => RR (.ref D) C (.error e) s'
  let X' : Cx := cxComp X N' scope C s2 H2 fp xe
  have DL : D ∉ frs X.stack := fun z => by
    rcases List.mem_cons.mp (I2.stkSub D z) with e | e
    · exact absurd I2.lt (by rw [← e, hD]; exact Nat.lt_irrefl _)
    · exact I2.nofs (by rw [hD]; exact Nat.le_refl _) e
  have cellLt : ∀ x c, X.env.cells.lookup x = some c → c < D := fun x c e => by
    obtain ⟨v, oc, h, _⟩ := I2.cell x c e
    rw [← hD]; exact Heap.lt_size h
  have clB : ∀ x c, (clOf X.env.cells scope.names []).lookup x = some c → X.env.cells.lookup x = some c := fun x c h => clOf_has scope.names [] (fun _ _ z => by simp at z) h
  have pinLt : ∀ p ∈ X.pn ++ pins, p.1 < D := fun p hp => by rw [← hD]; exact Heap.lt_size (I2.pin p hp).1
  have fpX : ∀ {pl : List (Addr × Obj)} {H' : Hp}, (∀ b ∈ fp, H' b = none) → (∀ p ∈ pl, p ∈ pins ∨ p.1 = D) → ∀ b ∈ fp, FpOk X' pl H' b := fun {pl H'} hn hpl b hb => by
    obtain ⟨_, q1, q2, q3, q4, q5⟩ := f2 b hb
    refine ⟨hn b hb, (below b (hfs b hb)).1, fun z => ?_, .inl hb, fun x c e => q4 x c (clB x c e), fun p hp => ?_⟩
    · rcases List.mem_cons.mp (I2.stkSub b z) with e | e
      · exact q1 e
      · exact q2 e
    · rcases List.mem_append.mp hp with hp | hp
      · exact q5 p (List.mem_append_left _ hp)
      · rcases hpl p hp with z | z
        · exact q5 p (List.mem_append_right _ z)
        · rw [z]; exact Ne.symm (below b (hfs b hb)).2
  have loop : ∀ s₃ : Shared, s₃ = { s2 with heap := h₁, toks := s2.toks + ([] : List (Str × Value)).length } →
      codeAny (model X.prog X.w) X.A (.compLoop (.ListComp elt [⟨tg, iter, ifs, 0⟩] scope pos) 0 (.ref it) (.ref D) (compEnvC scope (clOf X.env.cells scope.names []) C X.env)) (RR (.ref D) C) s₃ := by
    rintro s₃ rfl
    refine compLoop_go (fun n s' => ∃ i H' ys its k, Inv X' pins (capt ix σ) H' s' ∧ tn i s'.heap ∧ (∀ b ∈ fp, H' b = none) ∧ H' D = none ∧ s'.heap.get? D = some { cls := .type "list", data := .seq (List.toArray its) k } ∧ Vals ys its ∧ W i n ys H') ?_ m0
      ⟨0, H2, [], [], 0, inv_block B I2 f2 (by rw [hD]; exact hCle) (fun b hb => by rw [hD]; exact hfs b hb) rfl rfl old hns₁, T.keep _ _ _ st2 fun b _ o e => old b o e, fun b hb => (f2 b hb).1, I2.hok.fresh (by rw [hD]; exact Nat.le_refl _), hacc, .nil, w0⟩
    rintro n s' ⟨i, H', ys, its, k, I', st', fr', hDn, hDo, rv, w'⟩
    have hDX : ∀ v, ({ cls := .type "list", data := .seq (List.toArray its) k } : Obj).data ≠ .cell v := fun v z => by
      have z' : Data.seq (List.toArray its) k = Data.cell v := z
      cases z'
    have pinD : ∀ {σ' : St} {H'' : Hp} {s'' : Shared} {its' : List Value} {k' : Nat}, Inv X' pins σ' H'' s'' → H'' D = none → s''.heap.get? D = some { cls := .type "list", data := .seq (List.toArray its') k' } → Inv X' (pins ++ [(D, { cls := .type "list", data := .seq (List.toArray its') k' })]) σ' H'' s'' := fun {σ' H'' s'' its' k'} J hn ho =>
      J.pins_of fun p hp => (List.mem_append.mp hp).elim (fun z => J.pin p (List.mem_append_right _ z)) fun z => by
        have e : p = (D, { cls := .type "list", data := .seq (List.toArray its') k' }) := by simpa using z
        subst e
        exact ⟨ho, hn, hDC, DL, fun v z => by
          have z' : Data.seq (List.toArray its') k' = Data.cell v := z
          cases z'⟩
    have plD : ∀ {its' : List Value} {k' : Nat}, ∀ p ∈ pins ++ [(D, ({ cls := .type "list", data := .seq (List.toArray its') k' } : Obj))], p ∈ pins ∨ p.1 = D := fun {its' k'} p hp => (List.mem_append.mp hp).elim .inl fun z => by
      have e : p = (D, { cls := .type "list", data := .seq (List.toArray its') k' }) := by simpa using z
      subst e
      exact .inr rfl
    have unD : ∀ {pl : List (Addr × Obj)} {σ' : St} {H'' : Hp} {s'' : Shared}, Inv X' (pins ++ pl) σ' H'' s'' → Inv X' pins σ' H'' s'' := fun J => J.pins_of fun p hp => J.pin p (List.mem_append_right _ (List.mem_append_left _ hp))
    have I'p := pinD I' hDn hDo
    rcases turn i n ys H' w' with ⟨stop, hsz, fin⟩ | ⟨go, hsz, N, hN, step⟩
    · refine wpAny_mono (T.done X' rfl rfl rfl hc i _ s' (capt ix σ) H' X'.xe I'p (fpX fr' plD) st' stop) (fun r s5 ⟨hr, I5⟩ => ?_) fun _ _ z => z
      subst hr
      have hDo5 : s5.heap.get? D = some { cls := .type "list", data := .seq (List.toArray its) k } := (I5.pin (D, _) (List.mem_append_right _ (List.mem_append_right _ (List.mem_singleton.mpr rfl)))).1
      have sz0 : X.s₀.heap.objs.size ≤ D := by rw [← hD]; exact I2.sz
      have J : Inv X pins σ H' s5 := I2.call' (ch := fp) I5.os I5.base I5.hok I5.bare fun b hb => by
        obtain ⟨_, q1, _, q3, q4, q5⟩ := f2 b hb
        exact ⟨q3, q1, q4, q5⟩
      have nL : X.env.locals < D := by rw [← hD]; exact I2.lt
      have J2 : Inv X pins σ (upd H' D (.lst ys)) s5 := Inv.track J hDn sz0 (Nat.ne_of_gt nL) (fun x c e => Nat.ne_of_lt (cellLt x c e)) (fun p hp => Nat.ne_of_lt (pinLt p hp)) ⟨hsz, its, k, rv, hDo5⟩
      obtain ⟨mC, hnC, _⟩ := I5.loc
      have DltC : D < C := Nat.lt_of_le_of_ne hCle hDC
      refine hRR D C s5 H' ys J2 hDn (fin D hDn) ⟨mC, hnC⟩ ?_ (Nat.ne_of_gt (Nat.lt_trans nL DltC)) (Nat.le_trans sz0 hCle) (fun x c e => Nat.ne_of_lt (Nat.lt_trans (cellLt x c e) DltC)) fun p hp => Nat.ne_of_lt (Nat.lt_trans (pinLt p hp) DltC)
      rw [upd_ne (Ne.symm hDC)]
      exact I5.free
    · refine wpAny_mono (T.item X' rfl rfl rfl hc i _ s' (capt ix σ) H' X'.xe I'p (fpX fr' plD) st' go) (fun r s5 ⟨u, hr, h5⟩ => ?_) fun _ _ z => z
      subst hr
      refine wpAny_mono h5 (fun _ s6 ⟨x, H6, I6, r6, y6, st6, fr6⟩ => ?_) fun _ _ z => z
      have I6' := I6.pinned (fpX fr6 plD) (T.obj _ _ st6)
      refine wpAny_mono (hg C s2 H2 fp xe _ s6 (capt ix σ) H6 x u _ I6' r6 (step x H6 y6)) (fun _ s7 ⟨σ7, H7, I7, q7⟩ => ?_) fun _ _ z => z
      have after : ∀ {σ8 : St} {H8 : Hp} {s8 : Shared}, Inv X' ((pins ++ [(D, { cls := .type "list", data := .seq (List.toArray its) k })]) ++ pinsAt fp s6.heap) σ8 H8 s8 →
          Inv X' pins (capt ix σ) H8 s8 ∧ tn (i + 1) s8.heap ∧ (∀ b ∈ fp, H8 b = none) ∧ H8 D = none ∧ s8.heap.get? D = some { cls := .type "list", data := .seq (List.toArray its) k } := fun {σ8 H8 s8} I8 => by
        have pD := I8.pin (D, { cls := .type "list", data := .seq (List.toArray its) k }) (List.mem_append_right _ (List.mem_append_left _ (List.mem_append_right _ (List.mem_singleton.mpr rfl))))
        have fpP : ∀ b ∈ fp, ∀ o, s6.heap.get? b = some o → s8.heap.get? b = some o ∧ H8 b = none := fun b hb o e => by
          have z := I8.pin (b, o) (List.mem_append_right _ (List.mem_append_right _ (mem_pinsAt hb e)))
          exact ⟨z.1, z.2.1⟩
        refine ⟨⟨I8.ok, I8.os, I8.bare, I8.base, ?_, I8.cell, I8.free, I8.freeC, fun p hp => ?_, I8.hok, ?_⟩, T.keep _ _ _ st6 fun b hb o e => (fpP b hb o e).1, fun b hb => ?_, pD.2.1, pD.1⟩
        · obtain ⟨m8, hn8, _⟩ := I8.loc
          refine ⟨m8, hn8, fun i x v h1 h2 h3 => ?_⟩
          obtain ⟨u, c, r, hc1, hc2, ⟨oc, z1, z2⟩, hk'⟩ := capt_cell B I2 h1 h2
          obtain ⟨sl, e8⟩ := I8.base.any z1 (I2.freeC x c hc2) fun z => (f2 c z).2.2.2.2.1 x c hc2 rfl
          exact ⟨u, r, .inr ⟨hk', c, hc1, _, e8, z2⟩⟩
        · rcases List.mem_append.mp hp with hp | hp
          · exact I8.pin p (List.mem_append_left _ hp)
          · exact I8.pin p (List.mem_append_right _ (List.mem_append_left _ (List.mem_append_left _ hp)))
        · show (capt ix σ).length = N'.length
          unfold capt
          rw [List.length_map]; exact B.len
        · obtain ⟨o, e, _⟩ := T.obj _ _ st6 b hb
          exact (fpP b hb o e).2
      refine wpAny_mono (ht C s2 H2 fp xe _ s7 σ7 H7 _ I7 q7) (fun b s8 ⟨H8, I8, q8⟩ => ?_) fun _ _ z => z
      cases b with
      | false =>
        rw [if_neg Bool.false_ne_true] at q8 ⊢
        obtain ⟨m', hm, w8⟩ := hN _ _ q8
        obtain ⟨J, tn8, f8, d8, o8⟩ := after I8
        exact ⟨m', hm, i + 1, H8, ys, its, k, J, tn8, f8, d8, o8, rv, w8⟩
      | true =>
        rw [if_pos rfl] at q8 ⊢
        refine wpAny_mono (he C s2 H2 fp xe _ s8 σ7 H8 _ I8 q8) (fun v s9 ⟨y, H9, I9, r9, q9⟩ => ?_) fun _ _ z => z
        obtain ⟨J, tn9, f9, d9, o9⟩ := after I9
        obtain ⟨m', hm, w9⟩ := hN _ _ q9
        refine append_at (hsz := by rw [List.size_toArray, ← rv.length]; exact hsz) o9 fun h10 hs10 hD10 => ?_
        refine ⟨m', hm, i + 1, H9, ys ++ [y], its ++ [v], k + 1, ?_, T.keep _ _ _ tn9 fun b hb o e => hs10.extBut b o (fun z => ?_) e, f9, d9, by rw [List.push_toArray] at hD10; exact hD10, rv.append (.cons r9 .nil), w9⟩
        · refine J.turned (t' := s9.toks) (it := D) (fun b o hb e => hs10.extBut b o hb e) d9 hDC (.inr (by show s2.heap.objs.size ≤ D; rw [hD]; exact Nat.le_refl _)) (fun x c e => Nat.ne_of_lt (cellLt x c (clB x c e))) fun p hp => Nat.ne_of_lt (pinLt p hp)
        · exact (below b (hfs b hb)).2 z
  exact codeAny_compStart_list (loop _ rfl) (T.self X.A 0 _ _ _ (T.keep _ _ _ st2 fun b _ o e => old b o e) (loop _ rfl))
end
end L2

namespace L2
open PySem PySem.Spec PyProof.Rows

/-- the block's names, checked -/
def blkCheck (outer : Scope) (N N' : List Str) (ix : List (Option Nat)) (scope : Scope) : Bool :=
  (scope.kind == .function) && (scope.names.all fun y => y.2 != .cell) && (scope.names.all fun y => y.2 != .local || scope.names.lookup y.1 == some .local) &&
  (scope.names.all fun y => y.2 != .free || outer.names.lookup y.1 == some .cell || outer.names.lookup y.1 == some .free) && (ix.length == N'.length) &&
  (List.range ix.length).all fun i => match ix[i]? with
    | some (some j) => (match N'[i]? with | some x => N[j]? == some x && scope.names.lookup x == some .free | none => false)
    | _ => true
theorem blk_of {X : Cx} {N' : List Str} {ix : List (Option Nat)} {scope : Scope} (h : blkCheck X.env.scope X.N N' ix scope = true) : BlkOk X N' ix scope := by
  unfold blkCheck at h
  simp only [Bool.and_eq_true] at h
  obtain ⟨⟨⟨⟨⟨h1, h2⟩, h3⟩, h4⟩, h5⟩, h6⟩ := h
  refine ⟨?_, fun y hy => ?_, fun y hy hl => ?_, fun y hy hl => ?_, by simpa using h5, fun i j e => ?_⟩
  · simpa using h1
  · have := List.all_eq_true.mp h2 y hy
    simpa using this
  · have := List.all_eq_true.mp h3 y hy
    rw [hl] at this
    simpa using this
  · have := List.all_eq_true.mp h4 y hy
    rw [hl] at this
    simp at this
    exact this
  · have hi : i < ix.length := (List.getElem?_eq_some_iff.mp e).1
    have := List.all_eq_true.mp h6 i (List.mem_range.mpr hi)
    rw [e] at this
    simp only at this
    cases q : N'[i]? with
    | none => rw [q] at this; simp at this
    | some x =>
      rw [q] at this
      simp at this
      exact ⟨x, rfl, this.1, this.2⟩

section
variable {X : Cx} {elt tg iter : Expr} {ifs : List Expr} {scope : Scope} {pos : Pos} {N' : List Str} {ix : List (Option Nat)} {wi : TI} {g : TG} {tt : TT} {te : TE}
theorem pe_lc (N' : List Str) (ix : List (Option Nat)) (hB : blkCheck X.env.scope X.N N' ix scope = true) (hc : X.calm = true) (hi : PI X tg iter wi)
    (hg : ∀ C s H fp xe, PG (cxComp X N' scope C s H fp xe) tg g) (ht : ∀ C s H fp xe, PTs (cxComp X N' scope C s H fp xe) ifs tt) (he : ∀ C s H fp xe, PE (cxComp X N' scope C s H fp xe) elt te)
    (hs : ∀ x, foldedSetIterable iter X.env x = pure x := by intro _; rfl) : PE X (.ListComp elt [⟨tg, iter, ifs, 0⟩] scope pos) (tLC ix wi g tt te) := by
  intro pins s σ H Q I h
  have B := blk_of hB
  rw [eval_ListComp]
  refine wpAny_comprehension_free (use := none) rfl hs (closure_is fun y hy hf => I.ok.has y.1 (B.free y hy hf)) B.kind B.locs (thn (hi pins s σ H _ I h) fun v s1 h1 => thn h1 fun itv s2 h2 => ?_)
  obtain ⟨it, fp, tn, J, H2, e, I2, T, st2, f2, q⟩ := h2
  subst e
  refine lc_run B hc hg ht he I2 T st2 f2 q ?_
  intro D C s' H' ys J2 hDn hq ⟨m, hn⟩ hC1 hC2 hC3 hC4 hC5
  refine ⟨m, hn, fun h' hs' => ?_⟩
  exact ⟨.ref D, _, J2.turned (t' := s'.toks) (it := C) (fun b o hb e => hs'.extBut b o hb e) hC1 hC2 (.inr hC3) hC4 hC5, rfl, hq⟩
/-- name = [..]: the stores are exchanged -/
theorem ps_setLC {i : Nat} {x : Str} {pos' spos : Pos} (N' : List Str) (ix : List (Option Nat)) (hN : X.N.Nodup) (hi' : X.N[i]? = some x) (hx : X.env.scope.names.lookup x = some .local)
    (hB : blkCheck X.env.scope X.N N' ix scope = true) (hc : X.calm = true) (hi : PI X tg iter wi)
    (hg : ∀ C s H fp xe, PG (cxComp X N' scope C s H fp xe) tg g) (ht : ∀ C s H fp xe, PTs (cxComp X N' scope C s H fp xe) ifs tt) (he : ∀ C s H fp xe, PE (cxComp X N' scope C s H fp xe) elt te)
    (hsw : swapsWith (.ListComp elt [⟨tg, iter, ifs, 0⟩] scope pos) (some (.Name x pos')) spos.line X.env = pure true)
    (hs : ∀ x, foldedSetIterable iter X.env x = pure x := by intro _; rfl) : PS X (.Assign [.Name x pos'] (.ListComp elt [⟨tg, iter, ifs, 0⟩] scope pos) spos) (tAsg (tLC ix wi g tt te) (gName i)) := by
  intro pins s σ H D0 I h
  have B := blk_of hB
  rw [exec_Assign_Name_used _ _ _ _ hsw]
  refine wpAny_bind (wpAny_standAt (wpAny_bind ?_))
  show wpAny _ X.A (do let _ ← comprehension (.ListComp elt [⟨tg, iter, ifs, 0⟩] scope pos) scope X.env _ (newList []) false (eval iter X.env) (some (assign (.Name x pos') X.env))) _ _ s
  refine wpAny_bind (wpAny_mono (wpAny_comprehension_free (use := some (assign (.Name x pos') X.env)) (Q := fun _ s' => SP X pins D0 .next s') rfl hs (closure_is fun y hy hf => I.ok.has y.1 (B.free y hy hf)) B.kind B.locs
    (thn (hi pins s σ H _ I h) fun v s1 h1 => thn h1 fun itv s2 h2 => ?_)) (fun _ s' hq => wpAny_pure (wpAny_pure hq)) fun _ _ e => e)
  obtain ⟨it, fp, tn, J, H2, e, I2, T, st2, f2, q⟩ := h2
  subst e
  refine lc_run (Q := fun x H1 => gName i x σ H1 D0.nx) B hc hg ht he I2 T st2 f2 q ?_
  intro D C s' H' ys J2 hDn hq ⟨m, hn⟩ hC1 hC2 hC3 hC4 hC5
  show wpAny _ X.A (assign (.Name x pos') X.env (.ref D)) _ _ _
  refine wpAny_assign_Name (store_ok2 (v := .ref D) J2 hN hi' (.inl hx) rfl (fun s'' I'' hsb => ?_) (.inr hx))
  obtain ⟨a, hsb, ha⟩ := hsb
  have aC : C ≠ a := by
    rcases ha with rfl | ha
    · exact hC2
    · exact fun z => hC4 x a ha z.symm
  refine ⟨m, hn.sameBut hsb aC, fun h'' hs'' => ?_⟩
  exact ⟨_, _, I''.turned (t' := s''.toks) (it := C) (fun b o hb e => hs''.extBut b o hb e) hC1 hC2 (.inr hC3) hC4 hC5, hq⟩
end

/-! ### the forms one uses: over a list that the block leaves as it is; over a range -/
section
variable {K : PySem.W.Frag} {a : Addr} {xs : List V} {ix : List (Option Nat)} {g : TG} {tt : TT} {te : TE} {σ : St} {H1 : Hp} {Q : VK}
theorem lc_list (Pv : Nat → List V → Hp → Prop) (h0 : Pv 0 [] H1) (hl : ∀ i ys H, i ≤ xs.length → Pv i ys H → SqL K H a xs ∧ ys.length ≤ sizeLine)
    (hs : ∀ i x ys H, xs[i]? = some x → Pv i ys H → g x (capt ix σ) H fun σ2 H2 => tt σ2 H2 fun b H3 => if b = true then te σ2 H3 fun v H4 => Pv (i + 1) (ys ++ [v]) H4 else Pv (i + 1) ys H3)
    (hd : ∀ ys H, Pv xs.length ys H → ∀ p, H p = none → Q (.ref p) (upd H p (.lst ys))) : LcGoal ix g tt te σ H1 Q (Itl K a) := by
  refine ⟨fun i m ys H => m = xs.length - i ∧ i ≤ xs.length ∧ Pv i ys H, ⟨xs.length, by simp, Nat.zero_le _, h0⟩, ?_⟩
  rintro i m ys H ⟨rfl, hi, p⟩
  obtain ⟨q, z⟩ := hl i ys H hi p
  by_cases hlt : i < xs.length
  · refine .inr ⟨⟨xs, xs[i], q, by simp [hlt]⟩, z, Pv (i + 1), fun ys' H' p' => ⟨xs.length - (i + 1), by omega, rfl, hlt, p'⟩, fun x H' y => ?_⟩
    obtain ⟨e, y⟩ := y
    subst e
    exact hs i x ys _ (y xs q) p
  · have e : i = xs.length := by omega
    subst e
    exact .inl ⟨⟨xs, q, Nat.le_refl _⟩, z, hd ys H p⟩
theorem lc_range {lo : Int} {n : Nat} (Pv : Nat → List V → Hp → Prop) (h0 : Pv 0 [] H1) (hl : ∀ i ys H, i ≤ n → Pv i ys H → ys.length ≤ sizeLine)
    (hs : ∀ i ys H, i < n → Pv i ys H → g (.int (lo + i)) (capt ix σ) H fun σ2 H2 => tt σ2 H2 fun b H3 => if b = true then te σ2 H3 fun v H4 => Pv (i + 1) (ys ++ [v]) H4 else Pv (i + 1) ys H3)
    (hd : ∀ ys H, Pv n ys H → ∀ p, H p = none → Q (.ref p) (upd H p (.lst ys))) : LcGoal ix g tt te σ H1 Q (Itr lo n) := by
  refine ⟨fun i m ys H => m = n - i ∧ i ≤ n ∧ Pv i ys H, ⟨n, by simp, Nat.zero_le _, h0⟩, ?_⟩
  rintro i m ys H ⟨rfl, hi, p⟩
  have z := hl i ys H hi p
  by_cases hlt : i < n
  · refine .inr ⟨hlt, z, Pv (i + 1), fun ys' H' p' => ⟨n - (i + 1), by omega, rfl, hlt, p'⟩, fun x H' y => ?_⟩
    obtain ⟨e, y⟩ := y
    subst e y
    exact hs i ys _ hlt p
  · have e : i = n := by omega
    subst e
    exact .inl ⟨Nat.le_refl _, z, hd ys H p⟩
end
/-- by a function of the item: nothing that was tracked is changed -/
theorem lc_fm {K : PySem.W.Frag} {a : Addr} {xs : List V} {ix : List (Option Nat)} {g : TG} {tt : TT} {te : TE} {σ : St} {H1 : Hp} {Q : VK} (f : V → Option V) (hx : SqL K H1 a xs) (hz : xs.length ≤ sizeLine)
    (hs : ∀ x H (N : Option V → Hp → Prop), x ∈ xs → Same H1 H → (∀ H', Same H1 H' → N (f x) H') → g x (capt ix σ) H fun σ2 H2 => tt σ2 H2 fun b H3 => if b = true then te σ2 H3 fun v H4 => N (some v) H4 else N none H3)
    (hd : ∀ H p, Same H1 H → H p = none → Q (.ref p) (upd H p (.lst (xs.filterMap f)))) : LcGoal ix g tt te σ H1 Q (Itl K a) := by
  refine lc_list (K := K) (a := a) (xs := xs) (fun i ys H => ys = (xs.take i).filterMap f ∧ Same H1 H) ⟨rfl, Same.refl _⟩ (fun i ys H hi ⟨e, s⟩ => ⟨s.seq hx, ?_⟩) (fun i x ys H hi ⟨e, s⟩ => ?_) fun ys H ⟨e, s⟩ p hp => ?_
  · subst e
    refine Nat.le_trans (List.length_filterMap_le _ _) (Nat.le_trans ?_ hz)
    rw [List.length_take]; exact Nat.min_le_right _ _
  · have hm : x ∈ xs := List.mem_of_getElem? hi
    obtain ⟨hil, hix⟩ := List.getElem?_eq_some_iff.mp hi
    have et : xs.take (i + 1) = xs.take i ++ [x] := by rw [List.take_succ_eq_append_getElem hil, hix]
    refine hs x H (fun o H' => match o with | some v => (ys ++ [v] = (xs.take (i + 1)).filterMap f ∧ Same H1 H') | none => (ys = (xs.take (i + 1)).filterMap f ∧ Same H1 H')) hm s fun H' s' => ?_
    cases ef : f x with
    | some v =>
      refine ⟨?_, s'⟩
      rw [e, et, List.filterMap_append]
      simp [ef]
    | none =>
      refine ⟨?_, s'⟩
      rw [e, et, List.filterMap_append]
      simp [ef]
  · subst e
    rw [List.take_length]
    exact hd H p s hp
theorem lc_fmR {lo : Int} {n : Nat} {ix : List (Option Nat)} {g : TG} {tt : TT} {te : TE} {σ : St} {H1 : Hp} {Q : VK} (f : Nat → Option V) (hz : n ≤ sizeLine)
    (hs : ∀ i H (N : Option V → Hp → Prop), i < n → Same H1 H → (∀ H', Same H1 H' → N (f i) H') → g (.int (lo + i)) (capt ix σ) H fun σ2 H2 => tt σ2 H2 fun b H3 => if b = true then te σ2 H3 fun v H4 => N (some v) H4 else N none H3)
    (hd : ∀ H p, Same H1 H → H p = none → Q (.ref p) (upd H p (.lst ((List.range n).filterMap f)))) : LcGoal ix g tt te σ H1 Q (Itr lo n) := by
  refine lc_range (fun i ys H => ys = (List.range i).filterMap f ∧ Same H1 H) ⟨rfl, Same.refl _⟩ (fun i ys H hi ⟨e, s⟩ => ?_) (fun i ys H hi ⟨e, s⟩ => ?_) fun ys H ⟨e, s⟩ p hp => ?_
  · subst e
    refine Nat.le_trans (List.length_filterMap_le _ _) (Nat.le_trans ?_ hz)
    rw [List.length_range]; exact hi
  · refine hs i H (fun o H' => match o with | some v => (ys ++ [v] = (List.range (i + 1)).filterMap f ∧ Same H1 H') | none => (ys = (List.range (i + 1)).filterMap f ∧ Same H1 H')) hi s fun H' s' => ?_
    cases ef : f i with
    | some v =>
      refine ⟨?_, s'⟩
      rw [e, List.range_succ, List.filterMap_append]
      simp [ef]
    | none =>
      refine ⟨?_, s'⟩
      rw [e, List.range_succ, List.filterMap_append]
      simp [ef]
  · subst e
    exact hd H p s hp
end L2

namespace L2
open PySem PySem.Spec PyProof.Rows

/-! ### data, by the abstract heap -/
mutual
inductive IsD (K : PySem.W.Frag) (H : Hp) : V → PyData → Prop
  | non : IsD K H .non .none
  | bl (b : Bool) : IsD K H (.bl b) (.bool b)
  | int (i : Int) : IsD K H (.int i) (.int i)
  | str (x : Str) : IsD K H (.str x) (.str x)
  | lst {a : Addr} {xs : List V} {ds : List PyData} : SqL K H a xs → IsDs K H xs ds → IsD K H (.ref a) (.list ds)
  | tup {a : Addr} {xs : List V} {ds : List PyData} : SqT K H a xs → IsDs K H xs ds → IsD K H (.ref a) (.tuple ds)
inductive IsDs (K : PySem.W.Frag) (H : Hp) : List V → List PyData → Prop
  | nil : IsDs K H [] []
  | cons {x : V} {xs : List V} {d : PyData} {ds : List PyData} : IsD K H x d → IsDs K H xs ds → IsDs K H (x :: xs) (d :: ds)
end
theorem Same.tupq {K : PySem.W.Frag} {H H' : Hp} {a : Addr} {xs : List V} (e : Same H H') (h : SqT K H a xs) : SqT K H' a xs := by
  rcases h with (h | ⟨o, h⟩) | h
  · exact .inl (.inl (e _ _ h))
  · exact .inl (.inr ⟨o, e _ _ h⟩)
  · exact .inr h
mutual
theorem IsD.reads {X : Cx} {pins : List (Addr × Obj)} {σ : St} {H : Hp} {s : Shared} (I : Inv X pins σ H s) : ∀ {v : V} {d : PyData} {u : Value}, IsD X.K H v d → RelV v u → ∃ as, Reads s.heap u d as
  | _, _, _, .non, r => by cases r; exact ⟨_, .none⟩
  | _, _, _, .bl b, r => by cases r; exact ⟨_, .bool b⟩
  | _, _, _, .int i, r => by obtain ⟨t, rfl⟩ := r; exact ⟨_, .int i t⟩
  | _, _, _, .str x, r => by obtain ⟨t, rfl⟩ := r; exact ⟨_, .str x t⟩
  | _, _, _, .lst h q, r => by
    cases r
    obtain ⟨its, rv, ⟨o, n, e, c, _, d⟩, _⟩ := I.list h
    obtain ⟨as, ra⟩ := IsDs.reads I q rv
    exact ⟨_, .list e c d (by simpa using ra)⟩
  | _, _, _, .tup h q, r => by
    cases r
    obtain ⟨its, rv, ⟨o, e, c, n, d⟩, _⟩ := I.tuple h
    obtain ⟨as, ra⟩ := IsDs.reads I q rv
    exact ⟨_, .tuple e c d (by simpa using ra)⟩
theorem IsDs.reads {X : Cx} {pins : List (Addr × Obj)} {σ : St} {H : Hp} {s : Shared} (I : Inv X pins σ H s) : ∀ {xs : List V} {ds : List PyData} {us : List Value}, IsDs X.K H xs ds → Vals xs us → ∃ as, ReadsAll s.heap us ds as
  | _, _, _, .nil, .nil => ⟨_, .nil⟩
  | _, _, _, .cons h q, .cons r t => by
    obtain ⟨as, ra⟩ := IsD.reads I h r
    obtain ⟨bs, rb⟩ := IsDs.reads I q t
    exact ⟨_, .cons ra rb⟩
end
theorem IsDs.ints {K : PySem.W.Frag} {H : Hp} : ∀ ns : List Int, IsDs K H (ns.map V.int) (ns.map PyData.int)
  | [] => .nil
  | n :: ns => .cons (.int n) (IsDs.ints ns)

section
variable {X : Cx}
def rEqD (K : PySem.W.Frag) (neg : Bool) : R2 := fun x y H Q => ∃ d d', IsD K H x d ∧ IsD K H y d' ∧ SeqAt.shaped d = true ∧ SeqAt.shaped d' = true ∧ Q (.bl (if neg then !PyData.eqv d d' else PyData.eqv d d')) H
theorem op_eqD (hu : X.A.units + 64 < cLine) : OpR X (compareOp .Eq) (rEqD X.K false) := by
  intro pins s σ H x y v u Q I rx ry h
  obtain ⟨d, d', h1, h2, s1, s2, q⟩ := h
  obtain ⟨as, ra⟩ := h1.reads I rx
  obtain ⟨bs, rb⟩ := h2.reads I ry
  exact eq_dataH ra rb s1 s2 hu ⟨.bl _, H, I, rfl, q⟩
theorem op_neD (hu : X.A.units + 64 < cLine) : OpR X (compareOp .NotEq) (rEqD X.K true) := by
  intro pins s σ H x y v u Q I rx ry h
  obtain ⟨d, d', h1, h2, s1, s2, q⟩ := h
  obtain ⟨as, ra⟩ := h1.reads I rx
  obtain ⟨bs, rb⟩ := h2.reads I ry
  exact ne_dataH ra rb s1 s2 hu ⟨.bl _, H, I, rfl, q⟩
def rInD (K : PySem.W.Frag) (neg : Bool) : R2 := fun x y H Q => ∃ d ds, IsD K H x d ∧ IsD K H y (.list ds) ∧ SeqAt.shaped d = true ∧ SeqAt.shaped (.list ds) = true ∧ Q (.bl (if neg then !ds.any (fun e => PyData.eqv e d) else ds.any (fun e => PyData.eqv e d))) H
theorem op_inD (hu : X.A.units + 65 < cLine) : OpR X (compareOp .In) (rInD X.K false) := by
  intro pins s σ H x y v u Q I rx ry h
  obtain ⟨d, ds, h1, h2, s1, s2, q⟩ := h
  obtain ⟨as, ra⟩ := h1.reads I rx
  obtain ⟨bs, rb⟩ := h2.reads I ry
  exact SeqAt.in_list_reads rb ra (SeqAt.canLay_of_shaped s2) (SeqAt.canLay_of_shaped s1) (room_in_shaped s1 hu) ⟨.bl _, H, I, rfl, q⟩
theorem op_notInD (hu : X.A.units + 65 < cLine) : OpR X (compareOp .NotIn) (rInD X.K true) := by
  intro pins s σ H x y v u Q I rx ry h
  obtain ⟨d, ds, h1, h2, s1, s2, q⟩ := h
  obtain ⟨as, ra⟩ := h1.reads I rx
  obtain ⟨bs, rb⟩ := h2.reads I ry
  exact SeqAt.notIn_list_reads rb ra (SeqAt.canLay_of_shaped s2) (SeqAt.canLay_of_shaped s1) (room_in_shaped s1 hu) ⟨.bl _, H, I, rfl, q⟩

/-! ### isinstance -/
def clsV : V → Option Value
  | .ty n => some (.type n)
  | .ref a => some (.ref a)
  | _ => none
theorem clsV_rel {c : V} {cv u : Value} (h : clsV c = some cv) (r : RelV c u) : u = cv := by
  cases c with
  | ty n => cases h; exact r
  | ref a => cases h; exact r
  | _ => cases h
theorem call_isinst : CallR X (.builtin "isinstance") (fun xs H Q => ∃ x c cv t b, xs = [x, c] ∧ clsV c = some cv ∧ TyOf X.K H x t ∧ PySem.W.kitOne X.K t cv = some b ∧ Q (.bl b) H) := by
  intro pins s σ H xs us Q I r h
  obtain ⟨x, c, cv, t, b, rfl, hc, ty, hk, q⟩ := h
  obtain ⟨u1, u2, rfl, r1, r2⟩ := vals2 r
  obtain rfl := clsV_rel hc r2
  exact isinst_ok I r1 ty hk fun tk => ⟨.bl b, H, I.tok tk, rfl, q⟩

/-! ### all, any by the items' truth -/
abbrev Cx.in1 (X : Cx) : Cx := { X with A := X.A.in1 }
theorem Inv.in1 {pins : List (Addr × Obj)} {σ : St} {H : Hp} {s : Shared} (I : Inv X pins σ H s) : Inv X.in1 pins σ H s :=
  ⟨⟨I.ok.mod, I.ok.kind, I.ok.glob, I.ok.blt, I.ok.above, I.ok.inj, I.ok.has, I.ok.cab, I.ok.hd, I.ok.frames, I.ok.stk, I.ok.exf, I.ok.bs, I.ok.bsz, I.ok.noex, I.ok.exfs, I.ok.funs, I.ok.frf⟩, I.os, I.bare, I.base, I.loc, I.cell, I.free, I.freeC, I.pin, I.hok, I.len⟩
theorem Inv.of_in1 {pins : List (Addr × Obj)} {σ : St} {H : Hp} {s : Shared} (I : Inv X.in1 pins σ H s) : Inv X pins σ H s :=
  ⟨⟨I.ok.mod, I.ok.kind, I.ok.glob, I.ok.blt, I.ok.above, I.ok.inj, I.ok.has, I.ok.cab, I.ok.hd, I.ok.frames, I.ok.stk, I.ok.exf, I.ok.bs, I.ok.bsz, I.ok.noex, I.ok.exfs, I.ok.funs, I.ok.frf⟩, I.os, I.bare, I.base, I.loc, I.cell, I.free, I.freeC, I.pin, I.hok, I.len⟩
def Truths (K : PySem.W.Frag) (H : Hp) (xs : List V) (bs : List Bool) : Prop := Paired (fun x b => TruV K x H b) xs bs
theorem Truths.get {K : PySem.W.Frag} {H : Hp} : ∀ {xs : List V} {bs : List Bool} {i : Nat} {x : V}, Truths K H xs bs → xs[i]? = some x → ∃ b, bs[i]? = some b ∧ TruV K x H b
  | _, _, _, _, .nil, h => by simp at h
  | _, _, 0, _, .cons h r, e => by
    simp at e; subst e
    exact ⟨_, rfl, h⟩
  | _, _, i + 1, _, .cons h r, e => by
    obtain ⟨d, e1, q⟩ := Truths.get (i := i) r (by simpa using e)
    exact ⟨d, by simpa using e1, q⟩
theorem Truths.bls {K : PySem.W.Frag} {H : Hp} : ∀ bs : List Bool, Truths K H (bs.map V.bl) bs
  | [] => .nil
  | b :: bs => .cons rfl (Truths.bls bs)
theorem all_loop {pins : List (Addr × Obj)} {σ : St} {H : Hp} {p it : Addr} {ys : List V} {bs : List Bool} {R : Result → Shared → Prop} (hc : X.calm = true) (hq : SqL X.K H p ys) (ht : Truths X.K H ys bs) (f : FpOk X pins H it) :
    ∀ (k i : Nat) (s : Shared), ys.length - i = k → Inv X pins σ H s → s.heap.IsListIter it p i → (∀ s', Inv X pins σ H s' → R (.ok (.ret (.bool ((bs.drop i).all id)))) s') →
    codeAny (model X.prog X.w) X.A (.builtin "all.loop" ⟨[.ref it], []⟩) R s := by
  obtain ⟨f0, f1, f2, f3, f4, f5⟩ := f
  intro k
  induction k with
  | zero =>
    intro i s hk I st hR
    obtain ⟨its, rv, pl, hz⟩ := I.list hq
    have hl := rv.length
    refine codeAny_builtin F.entry_all_loop ?_
    rw [Around.under_plainId F.plain_all_loop _]
    show wpAny _ X.A.in1 (pyNext (.ref it) >>= _) _ _ s
    refine wpAny_bind (wpAny_pyNext_list_end (I.ok.hd hc) st pl.isList (by simp; omega) fun h' eb => ?_)
    refine wpAny_bind (wpAny_rule (wpAny_pure ?_))
    have q := hR _ (I.turned (t' := s.toks) (fun b o hb e => eb b o hb e) f0 f1 f3 f4 f5)
    have hlb : bs.length = ys.length := (Paired.length ht).symm
    rw [List.drop_of_length_le (by omega)] at q
    exact q
  | succ k ih =>
    intro i s hk I st hR
    obtain ⟨its, rv, pl, hz⟩ := I.list hq
    have hl := rv.length
    have hlt : i < ys.length := by omega
    have hx : ys[i]? = some ys[i] := by simp [hlt]
    obtain ⟨u, hu, ru⟩ := rv.get hx
    obtain ⟨b, hb, tb⟩ := ht.get hx
    refine codeAny_builtin F.entry_all_loop ?_
    rw [Around.under_plainId F.plain_all_loop _]
    show wpAny _ X.A.in1 (pyNext (.ref it) >>= _) _ _ s
    refine wpAny_bind (wpAny_pyNext_list_item st pl.isList (x := u) (by simpa using hu) fun h' st' sb => ?_)
    have I1 : Inv X pins σ H { s with heap := h' } := I.turned (t' := s.toks) (fun b o hb e => (sb.2 b hb).trans e) f0 f1 f3 f4 f5
    have hdb : bs.drop i = b :: bs.drop (i + 1) := by
      obtain ⟨hlb, eb⟩ := List.getElem?_eq_some_iff.mp hb
      rw [List.drop_eq_getElem_cons hlb, eb]
    rw [hdb] at hR
    have I1p : Inv X (pins ++ pinsAt [it] h') σ H { s with heap := h' } := I1.pinned (fp := [it]) (fun c hcc => by rw [List.mem_singleton.mp hcc]; exact ⟨f0, f1, f2, f3, f4, f5⟩) fun c hcc => by
      rw [List.mem_singleton.mp hcc]
      obtain ⟨o, e, c', d⟩ := st'
      exact ⟨o, e, fun v z => by rw [d] at z; cases z⟩
    refine wpAny_bind (wpAny_holding (wpAny_mono (tru_ok (X := X.in1.nox) _ _ σ H ys[i] u (fun c H' => c = b ∧ H' = H) ((Inv.in1 I1p).wish _) ru ⟨b, tb, rfl, rfl⟩) (fun c s2 ⟨H', I2, e1, e2⟩ => ?_) fun _ _ z => False.elim z))
    rw [e2] at I2
    subst e1
    have I2' : Inv X (pins ++ pinsAt [it] h') σ H s2 := Inv.of_in1 I2.unwish
    have I2'' : Inv X pins σ H s2 := I2'.unpinned
    have st2 : s2.heap.IsListIter it p (i + 1) := st'.at fun o e => (I2'.pin (it, o) (List.mem_append_right _ (List.mem_append_right _ (mem_pinsAt (List.mem_singleton.mpr rfl) e)))).1
    refine wpAny_bind (wpAny_letGo ?_)
    cases c with
    | true =>
      simp only [if_true]
      exact wpAny_pure ⟨plainId_quiet F.plain_all_loop _, ih (i + 1) s2 (by omega) I2'' st2 fun s' I' => by simpa using hR s' I'⟩
    | false =>
      simp only [Bool.false_eq_true, if_false]
      refine wpAny_bind (wpAny_rule (wpAny_pure ?_))
      simpa using hR s2 I2''
theorem call_allT (hc : X.calm = true) : CallR X (.builtin "all") (fun xs H Q => ∃ p ys bs, xs = [.ref p] ∧ SqL X.K H p ys ∧ Truths X.K H ys bs ∧ Q (.bl (bs.all id)) H) := by
  intro pins s σ H xs us Q I r h
  obtain ⟨p, ys, bs, rfl, hq, ht, q⟩ := h
  obtain ⟨u, rfl, rx⟩ := vals1 r
  cases rx
  refine call_function_tree F.kind_all F.plain_all F.entry_all (F.args_all1 _) ?_
  unfold Builtin.«all»
  refine wpAny_bind (m := oneArg "all" _) (wpAny_pure ?_)
  obtain ⟨its, rv, pl, hz⟩ := I.list hq
  refine wpAny_bind (wpAny_pyIter_list pl.isList ?_)
  have I1 : Inv X pins σ H { s with heap := s.heap.push { cls := .type "list_iterator", data := .fields #[.ref p, .int 0 0] } } := I.kept (t' := s.toks) fun b o e => Heap.get?_push_of_some _ e
  refine wpAny_pure ⟨plainId_quiet F.plain_all_loop _, all_loop hc hq ht (I.fpOk (Nat.le_refl _) (I.hok.fresh (Nat.le_refl _))) ys.length 0 _ (Nat.sub_zero _) I1 ⟨_, Heap.get?_push_size _ rfl, rfl, rfl⟩ fun s' I' => ?_⟩
  exact ⟨.bl _, H, I', rfl, by simpa using q⟩
theorem any_loop {pins : List (Addr × Obj)} {σ : St} {H : Hp} {p it : Addr} {ys : List V} {bs : List Bool} {R : Result → Shared → Prop} (hc : X.calm = true) (hq : SqL X.K H p ys) (ht : Truths X.K H ys bs) (f : FpOk X pins H it) :
    ∀ (k i : Nat) (s : Shared), ys.length - i = k → Inv X pins σ H s → s.heap.IsListIter it p i → (∀ s', Inv X pins σ H s' → R (.ok (.ret (.bool ((bs.drop i).any id)))) s') →
    codeAny (model X.prog X.w) X.A (.builtin "any.loop" ⟨[.ref it], []⟩) R s := by
  obtain ⟨f0, f1, f2, f3, f4, f5⟩ := f
  intro k
  induction k with
  | zero =>
    intro i s hk I st hR
    obtain ⟨its, rv, pl, hz⟩ := I.list hq
    have hl := rv.length
    refine codeAny_builtin F.entry_any_loop ?_
    rw [Around.under_plainId F.plain_any_loop _]
    show wpAny _ X.A.in1 (pyNext (.ref it) >>= _) _ _ s
    refine wpAny_bind (wpAny_pyNext_list_end (I.ok.hd hc) st pl.isList (by simp; omega) fun h' eb => ?_)
    refine wpAny_bind (wpAny_rule (wpAny_pure ?_))
    have q := hR _ (I.turned (t' := s.toks) (fun b o hb e => eb b o hb e) f0 f1 f3 f4 f5)
    have hlb : bs.length = ys.length := (Paired.length ht).symm
    rw [List.drop_of_length_le (by omega)] at q
    exact q
  | succ k ih =>
    intro i s hk I st hR
    obtain ⟨its, rv, pl, hz⟩ := I.list hq
    have hl := rv.length
    have hlt : i < ys.length := by omega
    have hx : ys[i]? = some ys[i] := by simp [hlt]
    obtain ⟨u, hu, ru⟩ := rv.get hx
    obtain ⟨b, hb, tb⟩ := ht.get hx
    refine codeAny_builtin F.entry_any_loop ?_
    rw [Around.under_plainId F.plain_any_loop _]
    show wpAny _ X.A.in1 (pyNext (.ref it) >>= _) _ _ s
    refine wpAny_bind (wpAny_pyNext_list_item st pl.isList (x := u) (by simpa using hu) fun h' st' sb => ?_)
    have I1 : Inv X pins σ H { s with heap := h' } := I.turned (t' := s.toks) (fun b o hb e => (sb.2 b hb).trans e) f0 f1 f3 f4 f5
    have hdb : bs.drop i = b :: bs.drop (i + 1) := by
      obtain ⟨hlb, eb⟩ := List.getElem?_eq_some_iff.mp hb
      rw [List.drop_eq_getElem_cons hlb, eb]
    rw [hdb] at hR
    have I1p : Inv X (pins ++ pinsAt [it] h') σ H { s with heap := h' } := I1.pinned (fp := [it]) (fun c hcc => by rw [List.mem_singleton.mp hcc]; exact ⟨f0, f1, f2, f3, f4, f5⟩) fun c hcc => by
      rw [List.mem_singleton.mp hcc]
      obtain ⟨o, e, c', d⟩ := st'
      exact ⟨o, e, fun v z => by rw [d] at z; cases z⟩
    refine wpAny_bind (wpAny_holding (wpAny_mono (tru_ok (X := X.in1.nox) _ _ σ H ys[i] u (fun c H' => c = b ∧ H' = H) ((Inv.in1 I1p).wish _) ru ⟨b, tb, rfl, rfl⟩) (fun c s2 ⟨H', I2, e1, e2⟩ => ?_) fun _ _ z => False.elim z))
    rw [e2] at I2
    subst e1
    have I2' : Inv X (pins ++ pinsAt [it] h') σ H s2 := Inv.of_in1 I2.unwish
    have I2'' : Inv X pins σ H s2 := I2'.unpinned
    have st2 : s2.heap.IsListIter it p (i + 1) := st'.at fun o e => (I2'.pin (it, o) (List.mem_append_right _ (List.mem_append_right _ (mem_pinsAt (List.mem_singleton.mpr rfl) e)))).1
    refine wpAny_bind (wpAny_letGo ?_)
    cases c with
    | false =>
      simp only [Bool.false_eq_true, if_false]
      exact wpAny_pure ⟨plainId_quiet F.plain_any_loop _, ih (i + 1) s2 (by omega) I2'' st2 fun s' I' => by simpa using hR s' I'⟩
    | true =>
      simp only [if_true]
      refine wpAny_bind (wpAny_rule (wpAny_pure ?_))
      simpa using hR s2 I2''
theorem call_anyT (hc : X.calm = true) : CallR X (.builtin "any") (fun xs H Q => ∃ p ys bs, xs = [.ref p] ∧ SqL X.K H p ys ∧ Truths X.K H ys bs ∧ Q (.bl (bs.any id)) H) := by
  intro pins s σ H xs us Q I r h
  obtain ⟨p, ys, bs, rfl, hq, ht, q⟩ := h
  obtain ⟨u, rfl, rx⟩ := vals1 r
  cases rx
  refine call_function_tree F.kind_any F.plain_any F.entry_any (F.args_any1 _) ?_
  unfold Builtin.«any»
  refine wpAny_bind (m := oneArg "any" _) (wpAny_pure ?_)
  obtain ⟨its, rv, pl, hz⟩ := I.list hq
  refine wpAny_bind (wpAny_pyIter_list pl.isList ?_)
  have I1 : Inv X pins σ H { s with heap := s.heap.push { cls := .type "list_iterator", data := .fields #[.ref p, .int 0 0] } } := I.kept (t' := s.toks) fun b o e => Heap.get?_push_of_some _ e
  refine wpAny_pure ⟨plainId_quiet F.plain_any_loop _, any_loop hc hq ht (I.fpOk (Nat.le_refl _) (I.hok.fresh (Nat.le_refl _))) ys.length 0 _ (Nat.sub_zero _) I1 ⟨_, Heap.get?_push_size _ rfl, rfl, rfl⟩ fun s' I' => ?_⟩
  exact ⟨.bl _, H, I', rfl, by simpa using q⟩
end
end L2

namespace L2
open PySem PySem.Spec PyProof.Rows

/-- a def of the text as it stands behind the top -/
structure Dn (K : PySem.W.Frag) (mg : Str → Option Value) (x : Str) (st : Stmt) (ps : List Str) where
  f : Addr
  fd : FuncData
  F : Fun K x x st f fd
  b : Binds K fd ps []
  m : mg x = some (.ref f)
  bd : ∀ (s : Shared) (us : List Value), us.length = ps.length → BindsTo s fd ⟨us, []⟩ (ps.zip us)
/-- the built-ins' names are the built-ins' -/
structure Bl (mg : Str → Option Value) : Prop where
  get : ∀ x : Str, x ∈ (["len", "range", "list", "isinstance", "int", "bool", "str", "all", "any", "sorted", "set", "min", "max", "tuple", "enumerate", "dict", "ValueError"] : List Str) → mg x = none
theorem Bl.len {mg : Str → Option Value} (B : Bl mg) : mg "len" = none := B.get _ (by decide +kernel)
theorem Bl.range {mg : Str → Option Value} (B : Bl mg) : mg "range" = none := B.get _ (by decide +kernel)
theorem Bl.list {mg : Str → Option Value} (B : Bl mg) : mg "list" = none := B.get _ (by decide +kernel)
theorem Bl.isinstance {mg : Str → Option Value} (B : Bl mg) : mg "isinstance" = none := B.get _ (by decide +kernel)
theorem Bl.int {mg : Str → Option Value} (B : Bl mg) : mg "int" = none := B.get _ (by decide +kernel)
theorem Bl.bool {mg : Str → Option Value} (B : Bl mg) : mg "bool" = none := B.get _ (by decide +kernel)
theorem Bl.all {mg : Str → Option Value} (B : Bl mg) : mg "all" = none := B.get _ (by decide +kernel)
theorem Bl.any {mg : Str → Option Value} (B : Bl mg) : mg "any" = none := B.get _ (by decide +kernel)
theorem Bl.sorted {mg : Str → Option Value} (B : Bl mg) : mg "sorted" = none := B.get _ (by decide +kernel)
theorem Bl.set {mg : Str → Option Value} (B : Bl mg) : mg "set" = none := B.get _ (by decide +kernel)
theorem Bl.enumerate {mg : Str → Option Value} (B : Bl mg) : mg "enumerate" = none := B.get _ (by decide +kernel)
theorem Bl.dict {mg : Str → Option Value} (B : Bl mg) : mg "dict" = none := B.get _ (by decide +kernel)
theorem Bl.ValueError {mg : Str → Option Value} (B : Bl mg) : mg "ValueError" = none := B.get _ (by decide +kernel)

/-! ### the kinds of plain values -/
theorem kit_int_int {K : PySem.W.Frag} : PySem.W.kitOne K (.type "int") (.type "int") = some true := by rfl
theorem kit_int_bool {K : PySem.W.Frag} : PySem.W.kitOne K (.type "int") (.type "bool") = some false := by rfl
theorem kit_non_int {K : PySem.W.Frag} : PySem.W.kitOne K (.type "NoneType") (.type "int") = some false := by rfl
theorem kit_non_bool {K : PySem.W.Frag} : PySem.W.kitOne K (.type "NoneType") (.type "bool") = some false := by rfl
end L2

namespace L2
open PySem PySem.Spec PyProof.Rows
/-! the rules with the written part named (a block's own context does not show it) -/
section
variable {X : Cx} {K : PySem.W.Frag}
theorem ix_listK (e : X.K = K) : IxR X (rIxL K) := by subst e; exact ix_list
theorem ix_tupK (e : X.K = K) : IxR X (rIxT K) := by subst e; exact ix_tup
theorem op_eqDK (e : X.K = K) (hu : X.A.units + 64 < cLine) : OpR X (compareOp .Eq) (rEqD K false) := by subst e; exact op_eqD hu
theorem op_neDK (e : X.K = K) (hu : X.A.units + 64 < cLine) : OpR X (compareOp .NotEq) (rEqD K true) := by subst e; exact op_neD hu
theorem op_inDK (e : X.K = K) (hu : X.A.units + 65 < cLine) : OpR X (compareOp .In) (rInD K false) := by subst e; exact op_inD hu
theorem op_notInDK (e : X.K = K) (hu : X.A.units + 65 < cLine) : OpR X (compareOp .NotIn) (rInD K true) := by subst e; exact op_notInD hu
theorem op_notInSK (e : X.K = K) : OpR X (compareOp .NotIn) (rIn K true) := by subst e; exact op_notIn_seq
def rLen (K : PySem.W.Frag) : List V → Hp → VK → Prop := fun xs H Q => ∃ p ys, xs = [.ref p] ∧ (SqL K H p ys ∨ SqT K H p ys) ∧ Q (.int ys.length) H
theorem call_lenK (e : X.K = K) : CallR X (.builtin "len") (rLen K) := by subst e; exact call_len_seq
def rListOf (K : PySem.W.Frag) : List V → Hp → VK → Prop := fun xs H Q => ∃ p ys, xs = [.ref p] ∧ (SqL K H p ys ∨ SqT K H p ys) ∧ ∀ l, H l = none → Q (.ref l) (upd H l (.lst ys))
theorem call_listK (e : X.K = K) : CallR X (.type "list") (rListOf K) := by subst e; exact call_list_of
def rIsin (K : PySem.W.Frag) : List V → Hp → VK → Prop := fun xs H Q => ∃ x c cv t b, xs = [x, c] ∧ clsV c = some cv ∧ TyOf K H x t ∧ PySem.W.kitOne K t cv = some b ∧ Q (.bl b) H
theorem call_isinstK (e : X.K = K) : CallR X (.builtin "isinstance") (rIsin K) := by subst e; exact call_isinst
def rAll (K : PySem.W.Frag) : List V → Hp → VK → Prop := fun xs H Q => ∃ p ys bs, xs = [.ref p] ∧ SqL K H p ys ∧ Truths K H ys bs ∧ Q (.bl (bs.all id)) H
def rAny (K : PySem.W.Frag) : List V → Hp → VK → Prop := fun xs H Q => ∃ p ys bs, xs = [.ref p] ∧ SqL K H p ys ∧ Truths K H ys bs ∧ Q (.bl (bs.any id)) H
theorem call_allK (e : X.K = K) (hc : X.calm = true) : CallR X (.builtin "all") (rAll K) := by subst e; exact call_allT hc
theorem call_anyK (e : X.K = K) (hc : X.calm = true) : CallR X (.builtin "any") (rAny K) := by subst e; exact call_anyT hc
theorem pi_listK {tg l : Expr} {tl : TE} (e : X.K = K) (hl : PE X l tl) : PI X tg l (iList K tl) := by subst e; exact pi_list hl
theorem pi_tupK {tg l : Expr} {tl : TE} (e : X.K = K) (hl : PE X l tl) : PI X tg l (iTup K tl) := by subst e; exact pi_tup hl
def tTru (K : PySem.W.Frag) (ta : TE) : TT := fun σ H Q => ta σ H fun x H' => ∃ k, TruV K x H' k ∧ Q k H'
theorem pt_truthK {a : Expr} {ta : TE} (e : X.K = K) (ha : PE X a ta) (he : ∀ whole, isTrue a X.env whole = (do let v ← whole; standAt a.pos; holding [v] (truthy v))) : PT X a (tTru K ta) := by subst e; exact pt_truth ha he
theorem pg_tupK {es : List Expr} {k : Nat} {t : TGs} {n : Nat} {pos : Pos} (e : X.K = K) (hc : X.calm = true) (h : PGs X es t)
    (hn : (assignEach es X.env).length = n := by rfl) (hst : (assignEach es X.env).findIdx? (·.1) = none := by rfl) : PG X (.Tuple es k pos) (gTup K n t) := by subst e; exact pg_tup hc h hn hst
theorem pe_bmK {o e : Expr} {es : List Expr} {to : TE} {t : TA} {name : Str} {apos cpos : Pos} {T id : String} {r : V → List V → Hp → VK → Prop} (e0 : X.K = K) (pa : PlainAttrs T) (slot : Slot T name id) (hty : typeOf (.builtin id) = pure (.type "method_descriptor")) (hm : MtR X id r) (ho : PE X o to) (ha : PA X (e :: es) t)
    (hbase : attributeBase o name X.env (eval o X.env) = eval o X.env := by rfl)
    (hfew : ((backTo cpos (starEach (e :: es) X.env)).all (fun x => !x.1) && (backToKw cpos (keywordEach [] X.env)).all (fun x => x.1.isSome)
      && decide ((e :: es).length + ([] : List Keyword).length + (if ([] : List Keyword).isEmpty then 0 else 1) < 30)) = true := by rfl)
    (hline : (apos.endLine == cpos.line) = true := by rfl) (hs : starEach (e :: es) X.env = (false, eval e X.env) :: starEach es X.env := by rfl) (hplain : (backTo cpos (starEach es X.env)).any (·.1) = false := by rfl) :
    PE X (.Call (.Attribute o name apos) (e :: es) [] cpos) (tBM K T r to t) := by subst e0; exact pe_bm pa slot hty hm ho ha hbase hfew hline hs hplain

/-! ### xs.insert(i, v) -/
def rInsert : V → List V → Hp → VK → Prop := fun x vs H Q => ∃ l xs i y, x = .ref l ∧ vs = [.int i, y] ∧ H l = some (.lst xs) ∧ xs.length < 1000 ∧ 0 ≤ i ∧ i ≤ (xs.length : Int) ∧ Q .non (upd H l (.lst (xs.take i.toNat ++ y :: xs.drop i.toNat)))
theorem mt_insert : MtM X "list.insert" rInsert := by
  intro pins s σ H x vs v us Q I rx rv h
  obtain ⟨l, xs, i, y, rfl, rfl, hH, hz, h0, h1, q⟩ := h
  cases rx
  obtain ⟨u1, u2, rfl, ru1, ru2⟩ := rv.two
  obtain ⟨t, rfl⟩ := ru1
  obtain ⟨z, its, n, r, hl, e⟩ := I.lstM hH
  have hlen := r.length
  have hs : sizeLine = 16777216 := sizeLine_eq
  have hfit : ¬(!Builtin.List.listFitsIndex i) = true := by
    unfold Builtin.List.listFitsIndex
    simp
    omega
  refine call_meets F.slot_list_insert ⟨_, e, rfl⟩ F.entry_list_insert (F.args_list_insert_3 _ _ _) (AutoSeq1.list_insert_list_int_val_1 l its.toArray n i t u2 hfit (by rw [List.size_toArray]; omega)) ⟨e, ?_⟩
  refine ⟨.non, _, I.lset (its' := its.take i.toNat ++ u2 :: its.drop i.toNat) hH e ?_ ((r.take i.toNat).append (.cons ru2 (r.drop i.toNat))) ?_, rfl, q⟩
  · have hk : min i.toNat its.length = i.toNat := by omega
    simp [show ¬ i < 0 by omega, hk]
    exact List.take_of_length_le (by simp)
  · rw [List.length_append, List.length_cons, List.length_take, List.length_drop]
    omega
end
end L2

namespace L2
open PySem PySem.Spec PyProof.Rows
/-- a statement whose ways meet: J is what holds behind it -/
def tCut (t u : TS) : TS := fun D σ H => ∃ J : St → Hp → Prop, t { D with nx := J } σ H ∧ ∀ σ' H', J σ' H' → u D σ' H'
theorem pss_cut {X : Cx} {st : Stmt} {rest : List Stmt} {t u : TS} (h1 : PS X st t) (h2 : PSs X rest u) : PSs X (st :: rest) (tCut t u) := by
  intro pins s σ H D I h
  obtain ⟨J, q1, q2⟩ := h
  refine wpAny_execs_cons (thn (h1 pins s σ H { D with nx := J } I q1) fun f s1 q => ?_)
  cases f with
  | next =>
    obtain ⟨σ', H', I', q⟩ := q
    exact h2 pins s1 σ' H' D I' (q2 σ' H' q)
  | ret v => exact q
  | brk => exact q
  | cont => exact q
end L2

namespace L2
open PySem PySem.Spec PyProof.Rows
/-- o has been laid at p -/
structure New (H : Hp) (p : Addr) (o : HO) (H' : Hp) : Prop where
  fresh : H p = none
  here : H' p = some o
  rest : ∀ b, b ≠ p → H' b = H b
theorem New.mk0 {H : Hp} {p : Addr} {o : HO} (h : H p = none) : New H p o (upd H p o) := ⟨h, upd_same, fun _ hb => upd_ne hb⟩
theorem New.same {H H' : Hp} {p : Addr} {o : HO} (n : New H p o H') : Same H H' := fun b u e => (n.rest b (ne_of_none e n.fresh)).trans e
theorem New.ne {H H' : Hp} {p b : Addr} {o u : HO} (n : New H p o H') (h : H b = some u) : b ≠ p := ne_of_none h n.fresh
/-- the object at l has been changed into o -/
structure Chg (H : Hp) (l : Addr) (o : HO) (H' : Hp) : Prop where
  here : H' l = some o
  rest : ∀ b, b ≠ l → H' b = H b
theorem Chg.mk0 {H : Hp} {l : Addr} {o : HO} : Chg H l o (upd H l o) := ⟨upd_same, fun _ hb => upd_ne hb⟩
section
variable {X : Cx} {K : PySem.W.Frag} {es : List Expr} {t : TA} {pos : Pos}
def tTupN (t : TA) : TE := fun σ H Q => t σ H fun xs H1 => xs.length ≤ 1000 ∧ ∀ p H', New H1 p (.tup xs) H' → Q (.ref p) H'
def tLstN (t : TA) : TE := fun σ H Q => t σ H fun xs H1 => xs.length ≤ 1000 ∧ ∀ p H', New H1 p (.lst xs) H' → Q (.ref p) H'
theorem pe_tupN {x1} (h : PA X es t) : PE X (.Tuple es x1 pos) (tTupN t) := by
  intro pins s σ H Q I hq
  refine wpAny_Tuple_spliced (thn (h pos pins s σ H _ I hq) fun us s1 ⟨xs, H1, I1, r, z, q⟩ => ?_)
  have z' : xs.length ≤ sizeLine := Nat.le_of_lt (small1000 z)
  refine ⟨by rw [← r.length]; exact z', ?_⟩
  have hf : H1 s1.heap.objs.size = none := I1.hok.fresh (Nat.le_refl _)
  refine ⟨.ref s1.heap.objs.size, upd H1 s1.heap.objs.size (.tup xs), I1.laid (t' := s1.toks) (fun b u e => Heap.get?_push_of_some _ e) (Nat.le_refl _) ?_, rfl, q _ _ (New.mk0 hf)⟩
  exact ⟨z', us, r, ⟨_, Heap.get?_push_size _ rfl, rfl, _, rfl⟩⟩
theorem pe_lstN (h : PA X es t) : PE X (.List es pos) (tLstN t) := by
  intro pins s σ H Q I hq
  refine wpAny_List_spliced (thn (h pos pins s σ H _ I hq) fun us s1 ⟨xs, H1, I1, r, z, q⟩ => ?_)
  have z' : xs.length ≤ sizeLine := Nat.le_of_lt (small1000 z)
  refine ⟨by rw [← r.length]; exact z', ?_⟩
  have hf : H1 s1.heap.objs.size = none := I1.hok.fresh (Nat.le_refl _)
  refine ⟨.ref s1.heap.objs.size, upd H1 s1.heap.objs.size (.lst xs), I1.laid (t' := s1.toks) (fun b u e => Heap.get?_push_of_some _ e) (Nat.le_refl _) ?_, rfl, q _ _ (New.mk0 hf)⟩
  exact ⟨z', us, 0, r, Heap.get?_push_size _ rfl⟩
theorem OpR.weak {f : Value → Value → Sem Value} {r r' : R2} (h : OpR X f r) (m : ∀ x y H Q, r' x y H Q → r x y H Q) : OpR X f r' := fun pins s σ H x y v u Q I rx ry q => h pins s σ H x y v u Q I rx ry (m x y H Q q)
theorem CallR.weak {f : Value} {r r' : List V → Hp → VK → Prop} (h : CallR X f r) (m : ∀ xs H Q, r' xs H Q → r xs H Q) : CallR X f r' := fun pins s σ H xs us Q I rs q => h pins s σ H xs us Q I rs (m xs H Q q)
def rCatN : R2 := fun x y H Q => ∃ l b xs zs, x = .ref l ∧ y = .ref b ∧ H l = some (.lst xs) ∧ H b = some (.lst zs) ∧ xs.length + zs.length ≤ 1000 ∧ ∀ p H', New H p (.lst (xs ++ zs)) H' → Q (.ref p) H'
theorem op_catN : OpR X (binaryOp .Add) rCatN := op_cat.weak fun x y H Q ⟨l, b, xs, zs, e1, e2, h1, h2, z, q⟩ => ⟨l, b, xs, zs, e1, e2, h1, h2, Nat.le_of_lt (small1000 z), fun p hp => q p _ (New.mk0 hp)⟩
def rSlN (K : PySem.W.Frag) : V → Option Int → Option Int → Hp → VK → Prop := fun x lo hi H Q => ∃ a xs, x = .ref a ∧ SqL K H a xs ∧ ∀ p H', New H p (.lst (cutV xs lo hi)) H' → Q (.ref p) H'
theorem sl_listN (e : X.K = K) : SlR X (rSlN K) := by
  subst e
  exact fun pins s σ H x v vl vu lo hi sl Q I rx hs pl pu ⟨a, xs, e, h, q⟩ => sl_list pins s σ H x v vl vu lo hi sl Q I rx hs pl pu ⟨a, xs, e, h, fun p hp => q p _ (New.mk0 hp)⟩
def rListN (K : PySem.W.Frag) : List V → Hp → VK → Prop := fun xs H Q => ∃ p ys, xs = [.ref p] ∧ (SqL K H p ys ∨ SqT K H p ys) ∧ ∀ l H', New H l (.lst ys) H' → Q (.ref l) H'
theorem call_listN (e : X.K = K) : CallR X (.type "list") (rListN K) := (call_listK e).weak fun xs H Q ⟨p, ys, e, h, q⟩ => ⟨p, ys, e, h, fun l hl => q l _ (New.mk0 hl)⟩
theorem MtM.weak {id : String} {r r' : V → List V → Hp → VK → Prop} (h : MtM X id r) (m : ∀ x xs H Q, r' x xs H Q → r x xs H Q) : MtM X id r' := fun pins s σ H x xs v us Q I rx rs q => h pins s σ H x xs v us Q I rx rs (m x xs H Q q)
def rAppN : V → List V → Hp → VK → Prop := fun x vs H Q => ∃ l xs y, x = .ref l ∧ vs = [y] ∧ H l = some (.lst xs) ∧ xs.length < 1000 ∧ ∀ H', Chg H l (.lst (xs ++ [y])) H' → Q .non H'
theorem mt_appendN : MtM X "list.append" rAppN := mt_append.weak fun x vs H Q ⟨l, xs, y, e1, e2, h, z, q⟩ => ⟨l, xs, y, e1, e2, h, small1000 (Nat.le_of_lt z), q _ Chg.mk0⟩
def rInsN : V → List V → Hp → VK → Prop := fun x vs H Q => ∃ l xs i y, x = .ref l ∧ vs = [.int i, y] ∧ H l = some (.lst xs) ∧ xs.length < 1000 ∧ 0 ≤ i ∧ i ≤ (xs.length : Int) ∧ ∀ H', Chg H l (.lst (xs.take i.toNat ++ y :: xs.drop i.toNat)) H' → Q .non H'
theorem mt_insertN : MtM X "list.insert" rInsN := mt_insert.weak fun x vs H Q ⟨l, xs, i, y, e1, e2, h, z, h0, h1, q⟩ => ⟨l, xs, i, y, e1, e2, h, z, h0, h1, q _ Chg.mk0⟩
end
theorem lc_fmN {K : PySem.W.Frag} {a : Addr} {xs : List V} {ix : List (Option Nat)} {g : TG} {tt : TT} {te : TE} {σ : St} {H1 : Hp} {Q : VK} (f : V → Option V) (hx : SqL K H1 a xs) (hz : xs.length ≤ 1000)
    (hs : ∀ x H (N : Option V → Hp → Prop), x ∈ xs → Same H1 H → (∀ H', Same H1 H' → N (f x) H') → g x (capt ix σ) H fun σ2 H2 => tt σ2 H2 fun b H3 => if b = true then te σ2 H3 fun v H4 => N (some v) H4 else N none H3)
    (hd : ∀ H p H', Same H1 H → New H p (.lst (xs.filterMap f)) H' → Q (.ref p) H') : LcGoal ix g tt te σ H1 Q (Itl K a) :=
  lc_fm f hx (Nat.le_of_lt (small1000 hz)) hs fun H p s hp => hd H p _ s (New.mk0 hp)
theorem lc_fmRN {lo : Int} {n : Nat} {ix : List (Option Nat)} {g : TG} {tt : TT} {te : TE} {σ : St} {H1 : Hp} {Q : VK} (f : Nat → Option V) (hz : n ≤ 1000)
    (hs : ∀ i H (N : Option V → Hp → Prop), i < n → Same H1 H → (∀ H', Same H1 H' → N (f i) H') → g (.int (lo + i)) (capt ix σ) H fun σ2 H2 => tt σ2 H2 fun b H3 => if b = true then te σ2 H3 fun v H4 => N (some v) H4 else N none H3)
    (hd : ∀ H p H', Same H1 H → New H p (.lst ((List.range n).filterMap f)) H' → Q (.ref p) H') : LcGoal ix g tt te σ H1 Q (Itr lo n) :=
  lc_fmR f (Nat.le_of_lt (small1000 hz)) hs fun H p s hp => hd H p _ s (New.mk0 hp)
end L2

/-! the law's own draws, as functions -/
namespace Lw
open PySem L2
theorem same_new {H : Hp} {p : Addr} (h : H p = none) (o : HO) : Same H (upd H p o) := fun b u q => by rw [upd_ne (ne_of_none q h)]; exact q
theorem fm_some {α β : Type} {f : α → Option β} {g : α → β} : ∀ {l : List α}, (∀ x ∈ l, f x = some (g x)) → l.filterMap f = l.map g
  | [], _ => rfl
  | x :: r, h => by
    rw [List.filterMap_cons_some (h x List.mem_cons_self), List.map_cons, fm_some fun y hy => h y (List.mem_cons_of_mem _ hy)]
theorem fm_ints {f : V → Option V} {g : Int → V} {ns : List Int} (h : ∀ v ∈ ns, f (.int v) = some (g v)) : (ns.map V.int).filterMap f = ns.map g := by
  rw [List.filterMap_map]
  exact fm_some h
theorem fm_filter {f : V → Option V} {p : Int → Bool} : ∀ {ns : List Int}, (∀ v ∈ ns, f (.int v) = if p v = true then some (.int v) else none) → (ns.map V.int).filterMap f = (ns.filter p).map V.int
  | [], _ => rfl
  | v :: r, h => by
    have ih := fm_filter (f := f) (p := p) (ns := r) fun y hy => h y (List.mem_cons_of_mem _ hy)
    have hv := h v List.mem_cons_self
    rw [List.map_cons, List.filter_cons]
    by_cases c : p v = true
    · rw [if_pos c] at hv ⊢
      rw [List.filterMap_cons_some hv, ih]; rfl
    · rw [if_neg c] at hv ⊢
      rw [List.filterMap_cons_none hv, ih]
/-- the cell k of the script -/
def cellF (ns : List Int) (k : Int) : Int :=
  if k < (ns.length : Int) then ns.getD k.toNat 0
  else
    let z : Int := if (ns.length : Int) > 0 then (ns.getD (k * 7 % (ns.length : Int)).toNat 0) % 2147483647 * 48271 + k * 7919 else k * 7919 + 5
    z * z % 2147483629
def mixF (c m : Int) : Int := c % 2 ^ 64 * 11400714819323198485 % 2 ^ 64 / 2 ^ 11 % m
theorem mixF_lo {c m : Int} (h : 0 < m) : 0 ≤ mixF c m := Int.emod_nonneg _ (by omega)
theorem mixF_hi {c m : Int} (h : 0 < m) : mixF c m < m := Int.emod_lt_of_pos _ h
theorem at_ints {ns : List Int} {k : Int} (h0 : 0 ≤ k) (h : k < (ns.length : Int)) : atI (ns.map V.int) k = some (.int (ns.getD k.toNat 0)) := by
  have hk : k.toNat < ns.length := by omega
  have ek : k = ((k.toNat : Nat) : Int) := by omega
  have q : atI (ns.map V.int) ((k.toNat : Nat) : Int) = some (.int (ns.getD k.toNat 0)) := atI_nat (by
    rw [List.getElem?_map, List.getElem?_eq_getElem hk, List.getD_eq_getElem?_getD, List.getElem?_eq_getElem hk]; rfl)
  rw [← ek] at q
  exact q
/-- the script: frozen, or the module's own -/
def Scr (K : PySem.W.Frag) (H : Hp) (a : Addr) (ns : List Int) : Prop := (∃ o, H a = some (.frz o (.lst (ns.map V.int)))) ∨
  ∃ (o : Obj) (its : Array Value) (n : Nat), K.lookup a = some o ∧ o.cls = .type "list" ∧ o.dict = none ∧ o.data = .seq its n ∧ its.size ≤ sizeLine ∧ Vals (ns.map V.int) its.toList
theorem Scr.seq {K : PySem.W.Frag} {H : Hp} {a : Addr} {ns : List Int} (h : Scr K H a ns) : SqL K H a (ns.map V.int) := by
  rcases h with ⟨o, h⟩ | h
  · exact .inl (.inr ⟨o, h⟩)
  · exact .inr h
theorem Scr.of {K : PySem.W.Frag} {H : Hp} {a : Addr} {ns : List Int} (hO : Only H) (h : SqL K H a (ns.map V.int)) : Scr K H a ns := by
  rcases h with (h | ⟨o, h⟩) | h
  · rcases hO a with z | ⟨ob, xs, z⟩
    · rw [z] at h; cases h
    · rw [z] at h; cases h
  · exact .inl ⟨o, h⟩
  · exact .inr h
/-- the promise of the cell -/
def spCell (K : PySem.W.Frag) : Sp := fun vs H Q _ => ∃ (a : Addr) (ns : List Int) (k : Int), vs = [.ref a, .int k] ∧ SqL K H a (ns.map V.int) ∧ ns.length ≤ 63 ∧ 0 ≤ k ∧ k ≤ 1000 ∧ Q (.int (cellF ns k)) H
def spMix : Sp := fun vs H Q _ => ∃ (c m : Int), vs = [.int c, .int m] ∧ 0 < m ∧ Q (.int (mixF c m)) H
/-- the script, and law's promise -/
def spLaw (K : PySem.W.Frag) : Sp := fun vs H Q _ => ∃ (a : Addr) (ns : List Int), vs = [.ref a] ∧ Scr K H a ns ∧ ns.length ≤ 63 ∧ ∀ H', Q (.bl true) H'
theorem cell_bound (c k : Int) (h0 : 0 ≤ k) (h1 : k ≤ 1000) : -(2 ^ 64) < c % 2147483647 * 48271 + k * 7919 ∧ c % 2147483647 * 48271 + k * 7919 < 2 ^ 64 := by
  have a1 := Int.emod_nonneg c (show (2147483647 : Int) ≠ 0 by decide)
  have a2 := Int.emod_lt_of_pos c (show (0 : Int) < 2147483647 by decide)
  omega
end Lw

namespace L2
open PySem PySem.Spec PyProof.Rows
theorem dn_mk {K : PySem.W.Frag} {h : Heap} {mg : Str → Option Value} {x : Str} {st : Stmt} {ps : List Str} {f : Addr} {oc : Value} {od an : Option Addr} {osl : Array (Option Value)} {kV doc pm cdv ct : Value} (X : K.In h) (G : h.Ns mainGlobals mg)
    (a : PySem.W.nsIn K mainGlobals x = some (some (.ref f))) (l : K.lookup f = some ⟨oc, od, .func (PySem.W.fnOf x x (defArgs st) (defBody st) (defScope st) .none kV doc pm an cdv ct), osl⟩) (c : PySem.W.codeIn K cdv x = true) (k : PySem.W.keepIn K (.ref f) = true)
    (hb : ∀ (kV doc pm : Value) (an : Option Addr) (cdv ct : Value) (us : List Value), us.length = ps.length → bindArgs (PySem.W.fnOf x x (defArgs st) (defBody st) (defScope st) .none kV doc pm an cdv ct) ⟨us, []⟩ = pure (ps.zip us)) :
    Nonempty (Dn K mg x st ps) :=
  have F := fun_mk (st := st) l c k
  ⟨⟨f, _, F, F.binds hb, PySem.W.mg_of X G a, fun s us hl => .of_eq (hb _ _ _ _ _ _ us hl)⟩⟩
theorem bl_mk {K : PySem.W.Frag} {h : Heap} {mg : Str → Option Value} (X : K.In h) (G : h.Ns mainGlobals mg)
    (z1 : PySem.W.nsIn K mainGlobals "len" = some none) (z2 : PySem.W.nsIn K mainGlobals "range" = some none) (z3 : PySem.W.nsIn K mainGlobals "list" = some none) (z4 : PySem.W.nsIn K mainGlobals "isinstance" = some none) (z5 : PySem.W.nsIn K mainGlobals "int" = some none)
    (z6 : PySem.W.nsIn K mainGlobals "bool" = some none) (z7 : PySem.W.nsIn K mainGlobals "str" = some none) (z8 : PySem.W.nsIn K mainGlobals "all" = some none) (z9 : PySem.W.nsIn K mainGlobals "any" = some none) (z10 : PySem.W.nsIn K mainGlobals "sorted" = some none)
    (z11 : PySem.W.nsIn K mainGlobals "set" = some none) (z12 : PySem.W.nsIn K mainGlobals "min" = some none) (z13 : PySem.W.nsIn K mainGlobals "max" = some none) (z14 : PySem.W.nsIn K mainGlobals "tuple" = some none) (z15 : PySem.W.nsIn K mainGlobals "enumerate" = some none)
    (z16 : PySem.W.nsIn K mainGlobals "dict" = some none) (z17 : PySem.W.nsIn K mainGlobals "ValueError" = some none) : Bl mg := by
  refine ⟨fun x hx => ?_⟩
  simp only [List.mem_cons, List.not_mem_nil, or_false] at hx
  rcases hx with rfl | rfl | rfl | rfl | rfl | rfl | rfl | rfl | rfl | rfl | rfl | rfl | rfl | rfl | rfl | rfl | rfl
  · exact PySem.W.mg_none_of X G z1
  · exact PySem.W.mg_none_of X G z2
  · exact PySem.W.mg_none_of X G z3
  · exact PySem.W.mg_none_of X G z4
  · exact PySem.W.mg_none_of X G z5
  · exact PySem.W.mg_none_of X G z6
  · exact PySem.W.mg_none_of X G z7
  · exact PySem.W.mg_none_of X G z8
  · exact PySem.W.mg_none_of X G z9
  · exact PySem.W.mg_none_of X G z10
  · exact PySem.W.mg_none_of X G z11
  · exact PySem.W.mg_none_of X G z12
  · exact PySem.W.mg_none_of X G z13
  · exact PySem.W.mg_none_of X G z14
  · exact PySem.W.mg_none_of X G z15
  · exact PySem.W.mg_none_of X G z16
  · exact PySem.W.mg_none_of X G z17
/-- law's own call: the promise of a def d is the promise at its address -/
theorem law_at {P : Program} {w : World} {K : PySem.W.Frag} {mg : Str → Option Value} {fa : Addr} {st : Stmt} {k : Nat} {sp : Sp} {x : Str} (hfa : mg "law" = some (.ref fa)) (d : Dn K mg "law" st [x]) (F : ∀ base : Heap, FnOk P w K mg base CX0 k d.f d.fd [x] sp) :
    ∃ fd : FuncData, (∀ (s : Shared) (u : Value), BindsTo s fd ⟨[u], []⟩ [(x, u)]) ∧ ∀ base : Heap, K.In base → base.Ns mainGlobals mg → FnOk P w K mg base CX0 k fa fd [x] sp := by
  have e : fa = d.f := by
    have := hfa.symm.trans d.m
    have := Option.some.inj this
    cases this
    rfl
  subst e
  exact ⟨d.fd, fun s u => d.bd s [u] rfl, fun base _ _ => F base⟩
end L2

namespace L2
open PySem PySem.Spec PyProof.Rows
/-! ### for k, x in enumerate(xs) -/
def Ite (K : PySem.W.Frag) (a : Addr) : It :=
  ⟨fun i H => ∃ xs x, SqL K H a xs ∧ xs[i]? = some x, fun i H x H' => ∃ p y, x = .ref p ∧ New H p (.tup [.int i, y]) H' ∧ ∀ xs, SqL K H a xs → xs[i]? = some y, fun i H => ∃ xs, SqL K H a xs ∧ xs.length ≤ i⟩
theorem turn_enum {P : Program} {w : World} {K : PySem.W.Frag} {elts : List Expr} {k : Nat} {pos : Pos} (a it e : Addr) (hei : e ≠ it) : Turn P w K (.Tuple elts k pos) (Ite K a) [e, it] e (fun i h => (∃ old, IsEnum h e it i old) ∧ h.IsListIter it a i) where
  mem := by simp
  obj := fun i h st b hb => by
    obtain ⟨⟨old, he⟩, hit⟩ := st
    rcases List.mem_cons.mp hb with rfl | hb
    · exact ⟨_, he, fun v z => by
        have z' : Data.fields _ = Data.cell v := z
        cases z'⟩
    · rw [List.mem_singleton.mp hb]
      obtain ⟨o, e1, c, d⟩ := hit
      exact ⟨o, e1, fun v z => by rw [d] at z; cases z⟩
  keep := fun i h h' st kk => by
    obtain ⟨⟨old, he⟩, hit⟩ := st
    exact ⟨⟨old, kk e (by simp) _ he⟩, hit.at fun o q => kk it (by simp) o q⟩
  item := by
    intro X hP hw hK hc i pins s σ H E I hf st hg
    subst hP hw hK
    obtain ⟨xs, x, hq, hx⟩ := hg
    obtain ⟨its, rv, pl, hz⟩ := I.list hq
    obtain ⟨u, hu, ru⟩ := rv.get hx
    obtain ⟨⟨old, he⟩, hit⟩ := st
    obtain ⟨f0, f1, f2, f3, f4, f5⟩ := hf e (by simp)
    obtain ⟨g0, g1, g2, g3, g4, g5⟩ := hf it (by simp)
    refine wpAny_pyNext_enum_item he hit pl.isList (x := u) (by simpa using hu) hei fun h' ho hit' hT hsz hk => ?_
    refine ⟨_, rfl, wpAny_letOwnedTupleGo_enum ho fun h2 he2 hs2 => ?_⟩
    have eT : s.heap.objs.size ≠ e := Nat.ne_of_gt (Heap.lt_size he)
    have iT : s.heap.objs.size ≠ it := by
      obtain ⟨o, e1, _⟩ := hit
      exact Nat.ne_of_gt (Heap.lt_size e1)
    have hT2 : h2.get? s.heap.objs.size = some { cls := .type "tuple", data := .seq #[.int i s.toks, u] } := (hs2.2 _ eT).trans hT
    have kp : ∀ b o, b ≠ e → b ≠ it → s.heap.get? b = some o → h2.get? b = some o := fun b o h1 h2' q => (hs2.2 b h1).trans (hk b o h1 h2' q)
    have I1 : Inv X pins σ H { s with heap := h2, toks := s.toks + 1 } := by
      refine I.step (g' := s.gens) (d' := s.drawn) (H' := H) (ch := [e, it]) (fun b hb => ?_) (fun b o _ _ hc q _ => kp b o (fun z => hc (by simp [z])) (fun z => hc (by simp [z])) q) (fun b o _ _ hc q _ => ⟨o.slots, kp b o (fun z => hc (by simp [z])) (fun z => hc (by simp [z])) q⟩) (fun _ _ _ _ n => n)
        (fun b o hc q => ⟨o, kp b o (fun z => hc (by simp [z])) (fun z => hc (by simp [z])) q⟩) (fun _ _ q => q) (fun _ _ _ q => q) (fun b ps q => ⟨#[], by rw [q]; simp⟩) (fun m hm => ?_) (fun b o q => ?_) I.bare
      · rcases List.mem_cons.mp hb with rfl | hb
        · exact ⟨f3, f1, f4, f5⟩
        · rw [List.mem_singleton.mp hb]; exact ⟨g3, g1, g4, g5⟩
      · obtain ⟨o, es, ep, q, r⟩ := hm
        exact ⟨o, es, ep, kp _ o (Ne.symm f1) (Ne.symm g1) q, r⟩
      · have nb : ∀ c v, H c = some v → c ≠ e ∧ c ≠ it := fun c v q => ⟨ne_of_none q f0, ne_of_none q g0⟩
        refine (I.hok b o q).stay (fun c v hcc r => kp c v ?_ ?_ r) (fun _ q => q) fun _ _ q => q
        · rcases hcc with z | z
          · rw [z]; exact (nb b o q).1
          · exact (nb c _ z).1
        · rcases hcc with z | z
          · rw [z]; exact (nb b o q).2
          · exact (nb c _ z).2
    have hfree : H s.heap.objs.size = none := I.hok.fresh (Nat.le_refl _)
    have I2 : Inv X pins σ (upd H s.heap.objs.size (.tup [.int i, x])) { s with heap := h2, toks := s.toks + 1 } := by
      refine Inv.track I1 hfree I.sz (Nat.ne_of_gt I.lt) (fun y c q => ?_) (fun p hp => Nat.ne_of_lt (Heap.lt_size (I.pin p hp).1)) ?_
      · obtain ⟨v, oc, q1, _⟩ := I.cell y c q
        exact Nat.ne_of_lt (Heap.lt_size q1)
      · exact ⟨(by show 2 ≤ sizeLine; decide), [.int i s.toks, u], .cons ⟨_, rfl⟩ (.cons ru .nil), ⟨_, hT2, rfl, _, rfl⟩⟩
    refine ⟨.ref s.heap.objs.size, _, I2, rfl, ⟨_, x, rfl, New.mk0 hfree, fun ys hy => by rw [I.list_inj hy hq]; exact hx⟩, ⟨⟨u, ?_⟩, hit'.at fun o q => (hs2.2 it (Ne.symm hei)).trans q⟩, fun b hb => ?_⟩
    · have e1 : ((i + 1 : Nat) : Int) = (i : Int) + 1 := by omega
      show IsEnum h2 e it ((i + 1 : Nat) : Int) u
      rw [e1]; exact he2
    · rcases List.mem_cons.mp hb with rfl | hb
      · rw [upd_ne (Ne.symm eT)]; exact f0
      · rw [List.mem_singleton.mp hb, upd_ne (Ne.symm iT)]; exact g0
  done := by
    intro X hP hw hK hc i pins s σ H E I hf st hg
    subst hP hw hK
    obtain ⟨xs, hq, hx⟩ := hg
    obtain ⟨its, rv, pl, hz⟩ := I.list hq
    obtain ⟨⟨old, he⟩, hit⟩ := st
    obtain ⟨g0, g1, g2, g3, g4, g5⟩ := hf it (by simp)
    have hl := rv.length
    exact wpAny_pyNext_enum_end (I.ok.hd hc) he hit pl.isList (by simp; omega) fun h' eb => ⟨rfl, I.turned (t' := s.toks) (fun b o hb q => eb b o hb q) g0 g1 g3 g4 g5⟩
  self := fun _ _ _ _ _ st h => by
    obtain ⟨⟨old, he⟩, _⟩ := st
    exact wpAny_pyIter_enum he h
section
variable {X : Cx} {K : PySem.W.Frag}
def iEnum (K : PySem.W.Frag) (ta : TA) : TI := fun σ H R => ta σ H fun vs H1 => ∃ a, vs = [.ref a] ∧ (∃ xs, SqL K H1 a xs) ∧ R (Ite K a) H1
theorem pi_enum {elts : List Expr} {k : Nat} {tpos : Pos} {l : Expr} {ta : TA} {p pos : Pos} (e0 : X.K = K) (hg : Gl X "enumerate") (hm : X.mg "enumerate" = none) (ha : PA X [l] ta) (hs : starEach [l] X.env = [(false, eval l X.env)] := by rfl) :
    PI X (.Tuple elts k tpos) (.Call (.Name "enumerate" p) [l] [] pos) (iEnum K ta) := by
  subst e0
  intro pins s σ H R I h
  refine wpAny_Call_Name_kw (ld_blt I hg hm boot_enumerate ?_)
  refine PyProof.Rows.callWith_type1 (thn (ha pos pins s σ H _ I h) fun us s1 ⟨vs, H1, I1, r1, q1⟩ => ?_) hs (by rfl)
  obtain ⟨a, e, ⟨xs, hq⟩, q⟩ := q1
  subst e
  obtain ⟨u, rfl, ru⟩ := vals1 r1
  cases ru
  obtain ⟨its, rv, pl, hz⟩ := I1.list hq
  refine call_enumerate_list pl.isList fun h' he hit hsz hk => ?_
  refine wpAny_pyIter_enum he ?_
  have I2 : Inv X pins σ H1 { s1 with heap := h' } := I1.kept (t' := s1.toks) hk
  refine ⟨s1.heap.objs.size + 1, [s1.heap.objs.size + 1, s1.heap.objs.size], _, _, H1, rfl, I2, turn_enum a s1.heap.objs.size (s1.heap.objs.size + 1) (Nat.ne_of_gt (Nat.lt_succ_self _)), ⟨⟨_, he⟩, hit⟩, fun b hb => ?_, q⟩
  have hb' : s1.heap.objs.size ≤ b := by
    rcases List.mem_cons.mp hb with rfl | hb
    · exact Nat.le_succ _
    · rw [List.mem_singleton.mp hb]; exact Nat.le_refl _
  exact I1.fpOk hb' (I1.hok.fresh hb')
end
/-- over a list that the body leaves as it is -/
theorem for_enum {K : PySem.W.Frag} {a : Addr} {xs : List V} {g : TG} {tb : TS} {D : Ends} {σ : St} {H : Hp} (Pv : Nat → St → Hp → Prop) (h0 : Pv 0 σ H) (hl : ∀ i σ H, i ≤ xs.length → Pv i σ H → SqL K H a xs)
    (hs : ∀ (i : Nat) x σ H p H', xs[i]? = some x → Pv i σ H → New H p (.tup [.int i, x]) H' → g (.ref p) σ H' fun σ2 H2 => tb { D with nx := Pv (i + 1), ct := Pv (i + 1), bk := D.nx } σ2 H2) (hd : ∀ σ H, Pv xs.length σ H → D.nx σ H) :
    ∃ W : Nat → Nat → St → Hp → Prop, (∃ m, W 0 m σ H) ∧ ∀ i m σ H, W i m σ H →
      ((Ite K a).stop i H ∧ D.nx σ H) ∨ ((Ite K a).go i H ∧ ∃ N : St → Hp → Prop, (∀ σ' H', N σ' H' → ∃ m', m' < m ∧ W (i + 1) m' σ' H') ∧ ∀ x H', (Ite K a).yld i H x H' → g x σ H' fun σ2 H2 => tb { D with nx := N, ct := N, bk := D.nx } σ2 H2) := by
  refine ⟨fun i m σ H => m = xs.length - i ∧ i ≤ xs.length ∧ Pv i σ H, ⟨xs.length, by simp, Nat.zero_le _, h0⟩, ?_⟩
  rintro i m σ H ⟨rfl, hi, p⟩
  have q := hl i σ H hi p
  by_cases hlt : i < xs.length
  · refine .inr ⟨⟨xs, xs[i], q, by simp [hlt]⟩, Pv (i + 1), fun σ' H' p' => ⟨xs.length - (i + 1), by omega, rfl, hlt, p'⟩, fun x H' y => ?_⟩
    obtain ⟨pp, y0, rfl, nw, ex⟩ := y
    exact hs i y0 σ H pp H' (ex xs q) p nw
  · have e : i = xs.length := by omega
    subst e
    exact .inl ⟨⟨xs, q, Nat.le_refl _⟩, hd σ H p⟩
/-- a comprehension over enumerate, by a function of the place and the item -/
theorem lc_enum {K : PySem.W.Frag} {a : Addr} {xs : List V} {ix : List (Option Nat)} {g : TG} {tt : TT} {te : TE} {σ : St} {H1 : Hp} {Q : VK} (f : Nat → V → Option V) (hx : SqL K H1 a xs) (hz : xs.length ≤ 1000)
    (hs : ∀ (i : Nat) x H p H0 (N : Option V → Hp → Prop), xs[i]? = some x → Same H1 H → New H p (.tup [.int i, x]) H0 → (∀ H', Same H1 H' → N (f i x) H') → g (.ref p) (capt ix σ) H0 fun σ2 H2 => tt σ2 H2 fun b H3 => if b = true then te σ2 H3 fun v H4 => N (some v) H4 else N none H3)
    (hd : ∀ H p H', Same H1 H → New H p (.lst ((List.range xs.length).filterMap fun i => (xs[i]?).bind (f i))) H' → Q (.ref p) H') : LcGoal ix g tt te σ H1 Q (Ite K a) := by
  refine ⟨fun i m ys H => m = xs.length - i ∧ i ≤ xs.length ∧ ys = (List.range i).filterMap (fun i => (xs[i]?).bind (f i)) ∧ Same H1 H, ⟨xs.length, by simp, Nat.zero_le _, rfl, Same.refl _⟩, ?_⟩
  rintro i m ys H ⟨rfl, hi, e, s⟩
  have zy : ys.length ≤ sizeLine := by
    rw [e]
    refine Nat.le_trans (List.length_filterMap_le _ _) ?_
    rw [List.length_range]; exact Nat.le_trans hi (Nat.le_of_lt (small1000 hz))
  have q := s.seq hx
  by_cases hlt : i < xs.length
  · refine .inr ⟨⟨xs, xs[i], q, by simp [hlt]⟩, zy, fun ys' H' => ys' = (List.range (i + 1)).filterMap (fun i => (xs[i]?).bind (f i)) ∧ Same H1 H', fun ys' H' ⟨e', s'⟩ => ⟨xs.length - (i + 1), by omega, rfl, hlt, e', s'⟩, fun x H' y => ?_⟩
    obtain ⟨pp, y0, rfl, nw, ex⟩ := y
    have ey := ex xs q
    refine hs i y0 H pp H' (fun o H' => match o with | some v => (ys ++ [v] = (List.range (i + 1)).filterMap (fun i => (xs[i]?).bind (f i)) ∧ Same H1 H') | none => (ys = (List.range (i + 1)).filterMap (fun i => (xs[i]?).bind (f i)) ∧ Same H1 H')) ey s nw fun H' s' => ?_
    cases ef : f i y0 with
    | some v =>
      refine ⟨?_, s'⟩
      rw [e, List.range_succ, List.filterMap_append]
      simp [ey, ef]
    | none =>
      refine ⟨?_, s'⟩
      rw [e, List.range_succ, List.filterMap_append]
      simp [ey, ef]
  · have e' : i = xs.length := by omega
    subst e'
    refine .inl ⟨⟨xs, q, Nat.le_refl _⟩, zy, fun p hp => ?_⟩
    subst e
    exact hd H p _ s (New.mk0 hp)
/-- a comprehension over a list, by a function of the place -/
theorem lc_ixN {K : PySem.W.Frag} {a : Addr} {xs : List V} {ix : List (Option Nat)} {g : TG} {tt : TT} {te : TE} {σ : St} {H1 : Hp} {Q : VK} (f : Nat → Option V) (hx : SqL K H1 a xs) (hz : xs.length ≤ 1000)
    (hs : ∀ (i : Nat) x H (N : Option V → Hp → Prop), xs[i]? = some x → Same H1 H → (∀ H', Same H1 H' → N (f i) H') → g x (capt ix σ) H fun σ2 H2 => tt σ2 H2 fun b H3 => if b = true then te σ2 H3 fun v H4 => N (some v) H4 else N none H3)
    (hd : ∀ H p H', Same H1 H → New H p (.lst ((List.range xs.length).filterMap f)) H' → Q (.ref p) H') : LcGoal ix g tt te σ H1 Q (Itl K a) := by
  refine lc_list (K := K) (a := a) (xs := xs) (fun i ys H => ys = (List.range i).filterMap f ∧ Same H1 H) ⟨rfl, Same.refl _⟩ (fun i ys H hi ⟨e, s⟩ => ⟨s.seq hx, ?_⟩) (fun i x ys H hi ⟨e, s⟩ => ?_) fun ys H ⟨e, s⟩ p hp => ?_
  · subst e
    refine Nat.le_trans (List.length_filterMap_le _ _) ?_
    rw [List.length_range]; exact Nat.le_trans hi (Nat.le_of_lt (small1000 hz))
  · refine hs i x H (fun o H' => match o with | some v => (ys ++ [v] = (List.range (i + 1)).filterMap f ∧ Same H1 H') | none => (ys = (List.range (i + 1)).filterMap f ∧ Same H1 H')) hi s fun H' s' => ?_
    cases ef : f i with
    | some v =>
      refine ⟨?_, s'⟩
      rw [e, List.range_succ, List.filterMap_append]
      simp [ef]
    | none =>
      refine ⟨?_, s'⟩
      rw [e, List.range_succ, List.filterMap_append]
      simp [ef]
  · subst e
    exact hd H p _ s (New.mk0 hp)
end L2

/-! the program's answers as functions, and how rows and graphs lie in the heap -/
namespace Bg
open PySem L2 Lw
abbrev Row := Option Int × List Int
def riseF (ns : List Int) : Bool := (List.range (ns.length - 1)).all fun i => decide (ns.getD i 0 < ns.getD (i + 1) 0)
def setF (n : Int) (ns : List Int) : Bool := (ns.all fun v => decide (0 ≤ v ∧ v < n)) && riseF ns
def belowF (n : Int) : Option Int → Bool
  | none => false
  | some i => decide (0 ≤ i ∧ i < n)
def upOk (k : Nat) (u : Option Int) : Bool := if k = 0 then u.isNone else belowF k u
def rowAt (rs : List Row) (k : Nat) : Row := rs.getD k (none, [])
def rowOk (n : Int) (rs : List Row) (k : Nat) : Bool := upOk k (rowAt rs k).1 && setF n (rowAt rs k).2
def rowFaultF (n : Int) (rs : List Row) : Option Nat := if rs.isEmpty then some 0 else (List.range rs.length).find? fun k => !rowOk n rs k
def has (v : Int) (r : Row) : Bool := decide (v ∈ r.2)
def placeFaultF (n : Nat) (rs : List Row) : Option Nat := (List.range n).find? fun v => !(rs.any (has v))
def tieFaultF (ts : List (Int × Int)) (rs : List Row) : Option (Int × Int) := ts.find? fun t => !(rs.any fun r => has t.1 r && has t.2 r)
def heldF (rs : List Row) (u : Option Int) (v : Int) : Bool := match u with
  | none => false
  | some i => has v (rowAt rs i.toNat)
def isTop (rs : List Row) (v : Int) (k : Nat) : Bool := has v (rowAt rs k) && !heldF rs (rowAt rs k).1 v
def topsF (rs : List Row) (v : Int) : List Nat := (List.range rs.length).filter (isTop rs v)
def apartAt (rs : List Row) (v : Int) : Option (Nat × Nat) := match topsF rs v with
  | j :: k :: _ => some (j, k)
  | _ => none
def apartFaultF (n : Nat) (rs : List Row) : Option (Nat × Nat × Nat) := (List.range n).findSome? fun (v : Nat) => (apartAt rs (v : Int)).map fun p => (v, p.1, p.2)
inductive Flt where
  | ok | row (k : Nat) | place (v : Nat) | tie (a b : Int) | apart (v j k : Nat)
  deriving DecidableEq
def faultF (n : Nat) (ts : List (Int × Int)) (rs : List Row) : Flt := match rowFaultF n rs with
  | some k => .row k
  | none => match placeFaultF n rs with
    | some v => .place v
    | none => match tieFaultF ts rs with
      | some t => .tie t.1 t.2
      | none => match apartFaultF n rs with
        | some p => .apart p.1 p.2.1 p.2.2
        | none => .ok
/-! ### in the heap -/
def upV : Option Int → V
  | none => .non
  | some i => .int i
def RowV (K : PySem.W.Frag) (H : Hp) (v : V) (r : Row) : Prop := ∃ p b, v = .ref p ∧ SqT K H p [upV r.1, .ref b] ∧ SqL K H b (r.2.map V.int) ∧ r.2.length ≤ 1000
def RowsAt (K : PySem.W.Frag) (H : Hp) (a : Addr) (rs : List Row) : Prop := ∃ xs, SqL K H a xs ∧ Paired (RowV K H) xs rs ∧ rs.length ≤ 1000
def TieV (K : PySem.W.Frag) (H : Hp) (v : V) (t : Int × Int) : Prop := ∃ p, v = .ref p ∧ SqT K H p [.int t.1, .int t.2]
def TiesAt (K : PySem.W.Frag) (H : Hp) (a : Addr) (ts : List (Int × Int)) : Prop := ∃ xs, SqL K H a xs ∧ Paired (TieV K H) xs ts ∧ ts.length ≤ 1000
def GraphV (K : PySem.W.Frag) (H : Hp) (v : V) (n : Int) (ts : List (Int × Int)) : Prop := ∃ p a, v = .ref p ∧ SqT K H p [.int n, .ref a] ∧ TiesAt K H a ts
def FltV (H : Hp) (v : V) : Flt → Prop
  | .ok => v = .non
  | .row k => ∃ p, v = .ref p ∧ H p = some (.tup [.str "row", .int k])
  | .place x => ∃ p, v = .ref p ∧ H p = some (.tup [.str "place", .int x])
  | .tie a b => ∃ p, v = .ref p ∧ H p = some (.tup [.str "tie", .int a, .int b])
  | .apart x j k => ∃ p, v = .ref p ∧ H p = some (.tup [.str "apart", .int x, .int j, .int k])
theorem RowV.same {K : PySem.W.Frag} {H H' : Hp} {v : V} {r : Row} (e : Same H H') (h : RowV K H v r) : RowV K H' v r := by
  obtain ⟨p, b, h1, h2, h3, h4⟩ := h
  exact ⟨p, b, h1, e.tupq h2, e.seq h3, h4⟩
theorem RowsAt.same {K : PySem.W.Frag} {H H' : Hp} {a : Addr} {rs : List Row} (e : Same H H') (h : RowsAt K H a rs) : RowsAt K H' a rs := by
  obtain ⟨xs, h1, h2, h3⟩ := h
  exact ⟨xs, e.seq h1, Paired.mapP h2 fun _ _ q => q.same e, h3⟩
theorem TiesAt.same {K : PySem.W.Frag} {H H' : Hp} {a : Addr} {ts : List (Int × Int)} (e : Same H H') (h : TiesAt K H a ts) : TiesAt K H' a ts := by
  obtain ⟨xs, h1, h2, h3⟩ := h
  exact ⟨xs, e.seq h1, Paired.mapP h2 fun _ _ ⟨p, q1, q2⟩ => ⟨p, q1, e.tupq q2⟩, h3⟩
theorem GraphV.same {K : PySem.W.Frag} {H H' : Hp} {v : V} {n : Int} {ts : List (Int × Int)} (e : Same H H') (h : GraphV K H v n ts) : GraphV K H' v n ts := by
  obtain ⟨p, a, h1, h2, h3⟩ := h
  exact ⟨p, a, h1, e.tupq h2, h3.same e⟩
theorem paired_get {α β : Type} {F : α → β → Prop} : ∀ {xs : List α} {ys : List β} {i : Nat} {x : α}, Paired F xs ys → xs[i]? = some x → ∃ y, ys[i]? = some y ∧ F x y
  | _, _, _, _, .nil, h => by simp at h
  | _, _, 0, _, .cons h r, e => by
    simp at e; subst e
    exact ⟨_, rfl, h⟩
  | _, _, i + 1, _, .cons h r, e => by
    obtain ⟨d, e1, q⟩ := paired_get (i := i) r (by simpa using e)
    exact ⟨d, by simpa using e1, q⟩
theorem paired_getr {α β : Type} {F : α → β → Prop} : ∀ {xs : List α} {ys : List β} {i : Nat} {y : β}, Paired F xs ys → ys[i]? = some y → ∃ x, xs[i]? = some x ∧ F x y
  | _, _, _, _, .nil, h => by simp at h
  | _, _, 0, _, .cons h r, e => by
    simp at e; subst e
    exact ⟨_, rfl, h⟩
  | _, _, i + 1, _, .cons h r, e => by
    obtain ⟨d, e1, q⟩ := paired_getr (i := i) r (by simpa using e)
    exact ⟨d, by simpa using e1, q⟩
theorem rowAt_get {rs : List Row} {i : Nat} {r : Row} (h : rs[i]? = some r) : rowAt rs i = r := by
  unfold rowAt; rw [List.getD_eq_getElem?_getD, h]; rfl
theorem rowAt_lt {rs : List Row} {i : Nat} (h : i < rs.length) : rs[i]? = some (rowAt rs i) := by
  unfold rowAt; rw [List.getD_eq_getElem?_getD, List.getElem?_eq_getElem h]; rfl
theorem any_range (rs : List Row) (p : Row → Bool) : ((List.range rs.length).map fun i => p (rowAt rs i)).any id = rs.any p := by
  rw [List.any_map, Bool.eq_iff_iff]
  simp only [List.any_eq_true, List.mem_range, Function.comp, id]
  constructor
  · rintro ⟨i, hi, h⟩
    exact ⟨rowAt rs i, List.mem_of_getElem? (rowAt_lt hi), h⟩
  · rintro ⟨r, hr, h⟩
    obtain ⟨i, hi, rfl⟩ := List.getElem_of_mem hr
    exact ⟨i, hi, by rw [rowAt_get (List.getElem?_eq_getElem hi)]; exact h⟩
theorem find_at {α : Type} {p : α → Bool} : ∀ {l : List α} {i : Nat} {x : α}, l[i]? = some x → p x = true → (∀ j z, j < i → l[j]? = some z → p z = false) → l.find? p = some x
  | [], _, _, h, _, _ => by simp at h
  | y :: r, 0, x, h, hp, _ => by
    simp at h; subst h
    rw [List.find?_cons, hp]
  | y :: r, i + 1, x, h, hp, hn => by
    have h0 := hn 0 y (Nat.succ_pos _) rfl
    rw [List.find?_cons, h0]
    exact find_at (i := i) (by simpa using h) hp fun j z hj hz => hn (j + 1) z (Nat.succ_lt_succ hj) (by simpa using hz)
theorem fm_congr {α β : Type} {f g : α → Option β} : ∀ {l : List α}, (∀ x ∈ l, f x = g x) → l.filterMap f = l.filterMap g
  | [], _ => rfl
  | x :: r, h => by
    have ih := fm_congr (f := f) (g := g) (l := r) fun y hy => h y (List.mem_cons_of_mem _ hy)
    rw [List.filterMap_cons, List.filterMap_cons, h x List.mem_cons_self, ih]
theorem findSome_none {α β : Type} {f : α → Option β} : ∀ {l : List α}, (∀ x ∈ l, f x = none) → l.findSome? f = none
  | [], _ => rfl
  | x :: r, h => by
    rw [List.findSome?_cons, h x List.mem_cons_self]
    exact findSome_none fun y hy => h y (List.mem_cons_of_mem _ hy)
theorem findSome_append {α β : Type} {f : α → Option β} : ∀ {l m : List α}, (∀ x ∈ l, f x = none) → (l ++ m).findSome? f = m.findSome? f
  | [], _, _ => rfl
  | x :: r, m, h => by
    rw [List.cons_append, List.findSome?_cons, h x List.mem_cons_self]
    exact findSome_append fun y hy => h y (List.mem_cons_of_mem _ hy)
theorem findSome_range {β : Type} {f : Nat → Option β} {n i : Nat} {b : β} (hi : i < n) (h : f i = some b) (hn : ∀ j < i, f j = none) : (List.range n).findSome? f = some b := by
  have e : n = i + (n - i) := by omega
  rw [e, List.range_add]
  rw [findSome_append fun x hx => hn x (List.mem_range.mp hx)]
  obtain ⟨k, hk⟩ : ∃ k, n - i = k + 1 := ⟨n - i - 1, by omega⟩
  rw [hk, List.range_succ_eq_map, List.map_cons, List.findSome?_cons, Nat.add_zero, h]
theorem findSome_range_none {β : Type} {f : Nat → Option β} {n : Nat} (hn : ∀ j < n, f j = none) : (List.range n).findSome? f = none := findSome_none fun x hx => hn x (List.mem_range.mp hx)
/-! ### data -/
theorem any_int (ns : List Int) (v : Int) : (ns.map PyData.int).any (fun e => PyData.eqv e (.int v)) = decide (v ∈ ns) := by
  induction ns with
  | nil => rfl
  | cons a r ih =>
    rw [List.map_cons, List.any_cons, ih, PyData.eqv]
    by_cases h : a = v
    · subst h; simp
    · have h' : ¬ v = a := fun z => h z.symm
      simp [h, h']
theorem depth_ints (ns : List Int) : PyData.depthAll (ns.map PyData.int) = 0 := by
  induction ns with
  | nil => rfl
  | cons a r ih => rw [List.map_cons, PyData.depthAll, ih]; rfl
theorem can_ints (ns : List Int) : PyData.canLayAll0 (ns.map PyData.int) = true := by
  induction ns with
  | nil => rfl
  | cons a r ih => rw [List.map_cons, PyData.canLayAll0, ih]; rfl
theorem shaped_ints (ns : List Int) : SeqAt.shaped (.list (ns.map PyData.int)) = true := by
  unfold SeqAt.shaped
  rw [PyData.canLay0, can_ints, PyData.depth, depth_ints]
  decide
theorem eqv_ints (ns ms : List Int) : PyData.eqv (.list (ns.map PyData.int)) (.list (ms.map PyData.int)) = decide (ns = ms) := by
  rw [PyData.eqv]
  exact PySem.W.ked_eqvAll ns ms
/-- v in a list of ints -/
theorem inInts {K : PySem.W.Frag} {H : Hp} {b : Addr} {ns : List Int} {v : Int} {Q : VK} (hS : SqL K H b (ns.map V.int)) (q : Q (.bl (decide (v ∈ ns))) H) : rInD K false (.int v) (.ref b) H Q :=
  ⟨_, _, .int v, .lst hS (IsDs.ints ns), rfl, shaped_ints ns, by rw [any_int]; exact q⟩
theorem notInInts {K : PySem.W.Frag} {H : Hp} {b : Addr} {ns : List Int} {v : Int} {Q : VK} (hS : SqL K H b (ns.map V.int)) (q : Q (.bl (!decide (v ∈ ns))) H) : rInD K true (.int v) (.ref b) H Q :=
  ⟨_, _, .int v, .lst hS (IsDs.ints ns), rfl, shaped_ints ns, by rw [any_int]; exact q⟩
end Bg

namespace L2
open PySem PySem.Spec PyProof.Rows
def rSetN : V → V → V → Hp → (Hp → Prop) → Prop := fun o i v H Q => ∃ p xs k j, o = .ref p ∧ i = .int k ∧ H p = some (.lst xs) ∧ ixN xs.length k = some j ∧ ∀ H', Chg H p (.lst (xs.set j v)) H' → Q H'
theorem set_listN {X : Cx} : PSet X rSetN := fun pins s σ H o i v ov iv u Q I ro ri rv ⟨p, xs, k, j, e1, e2, h1, h2, q⟩ => set_list pins s σ H o i v ov iv u Q I ro ri rv ⟨p, xs, k, j, e1, e2, h1, h2, q _ Chg.mk0⟩
theorem ixN_nat {n j : Nat} (h : j < n) : ixN n (j : Int) = some j := by
  unfold ixN
  rw [if_pos (by omega), if_pos (by omega)]; simp
theorem Same.chg {H H' : Hp} {l : Addr} {o : HO} {H0 : Hp} (s : Same H0 H) (h0 : H0 l = none) (c : Chg H l o H') : Same H0 H' := fun b u e => (c.rest b (ne_of_none e h0)).trans (s b u e)
end L2
namespace Bg
open PySem L2 Lw
/-! ### sets of places -/
/-! ### rows and ties as they are made -/
def TieL (H : Hp) (v : V) (t : Int × Int) : Prop := ∃ p, v = .ref p ∧ H p = some (.tup [.int t.1, .int t.2])
theorem TieL.same {H H' : Hp} {v : V} {t : Int × Int} (s : Same H H') (h : TieL H v t) : TieL H' v t := by
  obtain ⟨p, e, q⟩ := h
  exact ⟨p, e, s _ _ q⟩
theorem TieL.chg {H H' : Hp} {l : Addr} {xs ys : List V} {v : V} {t : Int × Int} (hl : H l = some (.lst xs)) (c : Chg H l (.lst ys) H') (h : TieL H v t) : TieL H' v t := by
  obtain ⟨p, e, q⟩ := h
  exact ⟨p, e, (c.rest p (ne_of q hl (by intro z; cases z))).trans q⟩
theorem paired_snoc {α β : Type} {F : α → β → Prop} : ∀ {xs : List α} {ys : List β} {x : α} {y : β}, Paired F xs ys → F x y → Paired F (xs ++ [x]) (ys ++ [y])
  | _, _, _, _, .nil, h => .cons h .nil
  | _, _, _, _, .cons h r, q => .cons h (paired_snoc r q)
/-! ### data -/
def tieD (t : Int × Int) : PyData := .tuple [.int t.1, .int t.2]
theorem TieV.isD {K : PySem.W.Frag} {H : Hp} {v : V} {t : Int × Int} (h : TieV K H v t) : IsD K H v (tieD t) := by
  obtain ⟨p, rfl, q1⟩ := h
  exact .tup q1 (.cons (.int _) (.cons (.int _) .nil))
theorem isDs_of {K : PySem.W.Frag} {H : Hp} {α : Type} {F : V → α → Prop} {f : α → PyData} (hf : ∀ v x, F v x → IsD K H v (f x)) : ∀ {xs : List V} {ys : List α}, Paired F xs ys → IsDs K H xs (ys.map f)
  | _, _, .nil => .nil
  | _, _, .cons h r => .cons (hf _ _ h) (isDs_of hf r)
def tiesD (ts : List (Int × Int)) : PyData := .list (ts.map tieD)
theorem TiesAt.isD {K : PySem.W.Frag} {H : Hp} {a : Addr} {ts : List (Int × Int)} (h : TiesAt K H a ts) : IsD K H (.ref a) (tiesD ts) := by
  obtain ⟨xs, h1, h2, _⟩ := h
  exact .lst h1 (isDs_of (fun v x q => q.isD) h2)
def webD (n : Int) (ts : List (Int × Int)) : PyData := .tuple [.int n, tiesD ts]
theorem GraphV.isD {K : PySem.W.Frag} {H : Hp} {v : V} {n : Int} {ts : List (Int × Int)} (h : GraphV K H v n ts) : IsD K H v (webD n ts) := by
  obtain ⟨p, a, rfl, q1, q2⟩ := h
  exact .tup q1 (.cons (.int _) (.cons q2.isD .nil))
theorem can_all {α : Type} {f : α → PyData} (h : ∀ x, (f x).canLay0 = true) : ∀ l : List α, PyData.canLayAll0 (l.map f) = true
  | [] => rfl
  | x :: r => by rw [List.map_cons, PyData.canLayAll0, h x, can_all h r]; rfl
theorem depth_all {α : Type} {f : α → PyData} {k : Nat} (h : ∀ x, (f x).depth ≤ k) : ∀ l : List α, PyData.depthAll (l.map f) ≤ k
  | [] => Nat.zero_le _
  | x :: r => by
    rw [List.map_cons, PyData.depthAll]
    exact Nat.max_le.mpr ⟨h x, depth_all h r⟩
theorem can_tie (t : Int × Int) : (tieD t).canLay0 = true := rfl
theorem depth_tie (t : Int × Int) : (tieD t).depth ≤ 1 := by
  unfold tieD
  simp [PyData.depth, PyData.depthAll]
theorem shaped_ties (ts : List (Int × Int)) : SeqAt.shaped (tiesD ts) = true := by
  unfold SeqAt.shaped tiesD
  rw [PyData.canLay0, can_all can_tie, PyData.depth, Bool.true_and]
  exact decide_eq_true (by have := depth_all depth_tie ts; omega)
theorem shaped_web (n : Int) (ts : List (Int × Int)) : SeqAt.shaped (webD n ts) = true := by
  have h := shaped_ties ts
  unfold SeqAt.shaped at h ⊢
  rw [Bool.and_eq_true] at h
  have h2 : (tiesD ts).depth ≤ 2 := by
    unfold tiesD
    rw [PyData.depth]
    have := depth_all depth_tie ts; omega
  unfold webD
  rw [PyData.canLay0, PyData.canLayAll0, PyData.canLayAll0, h.1, PyData.depth, PyData.depthAll, PyData.depthAll, PyData.depthAll, PyData.depth]
  simp only [PyData.canLay0, PyData.canLayAll0, Bool.and_true, Bool.true_and]
  refine decide_eq_true ?_
  omega
theorem eqv_self {d : PyData} (h : SeqAt.shaped d = true) : PyData.eqv d d = true := SeqAt.eqv_refl d (SeqAt.canLay_of_shaped h)
end Bg

namespace Srt
open PySem PySem.W PyProof.Rows
section
variable {n : Nat} {key : Nat → Int} {α β : Type}
end
end Srt

set_option maxHeartbeats 4100000
namespace Srt
open PySem PyProof.Rows PySem.Calls PySem.W
section
variable {prog : Program} {wo : World} {A : Around} {E : Value → Shared → Prop} {s : Shared}
end
end Srt

set_option maxHeartbeats 4100000
namespace Srt
open PySem PyProof.Rows PySem.Calls PySem.W
/-! ### lists of ints by their order: a rank -/
/-! ### tuples of ints -/
section
variable {prog : Program} {w : World} {A : Around} {E : Value → Shared → Prop} {s : Shared} {Q : Bool → Shared → Prop}
end
end Srt

set_option maxHeartbeats 4100000
namespace L2
open PySem PySem.Spec PyProof.Rows Bg Srt
theorem ints_of : ∀ {ns : List Int} {us : List Value}, Vals (ns.map V.int) us → IntsAre us ns
  | [], _, .nil => .nil
  | n :: ns, _, .cons r t => by
    obtain ⟨k, rfl⟩ := r
    exact .cons n k (ints_of t)
section
variable {X : Cx} {K : PySem.W.Frag}
end
end L2

set_option maxHeartbeats 1000000
namespace Sm
open PySem

def BelowOk (xs : Array Nat) (j k : Nat) : Prop := k ≤ xs.size ∧ ∀ i (h : i < xs.size), xs[i] < j ↔ i < k

theorem up_lt {xs : Array Nat} (h : xs.toList.Pairwise (· < ·)) {i k : Nat} (hi : i < xs.size) (hk : k < xs.size) (ik : i < k) : xs[i] < xs[k] := by
  have := List.pairwise_iff_getElem.mp h i k (by simpa using hi) (by simpa using hk) ik
  simpa using this

theorem go_ok {xs : Array Nat} {j : Nat} (h : xs.toList.Pairwise (· < ·)) : ∀ (fuel lo hi : Nat), hi - lo ≤ fuel → lo ≤ hi → hi ≤ xs.size →
    (∀ i (z : i < xs.size), i < lo → xs[i] < j) → (∀ i (z : i < xs.size), hi ≤ i → j ≤ xs[i]) → BelowOk xs j (SetTable.below.go xs j fuel lo hi) := by
  intro fuel
  induction fuel with
  | zero =>
    intro lo hi a b c d e
    unfold SetTable.below.go
    have : lo = hi := by omega
    subst this
    exact ⟨c, fun i z => ⟨fun q => by
      rcases Nat.lt_or_ge i lo with g | g
      · exact g
      · have := e i z g
        omega, fun q => d i z q⟩⟩
  | succ f ih =>
    intro lo hi a b c d e
    unfold SetTable.below.go
    by_cases q : lo < hi
    · rw [if_pos q]
      dsimp only
      have m1 : lo ≤ (lo + hi) / 2 := by omega
      have m2 : (lo + hi) / 2 < hi := by omega
      have m3 : (lo + hi) / 2 < xs.size := by omega
      have ge : xs.getD ((lo + hi) / 2) j = xs[(lo + hi) / 2] := by simp [Array.getD, m3]
      rw [ge]
      by_cases r : xs[(lo + hi) / 2] < j
      · rw [if_pos r]
        refine ih _ _ (by omega) (by omega) c (fun i z hi' => ?_) e
        rcases Nat.lt_or_ge i ((lo + hi) / 2) with g | g
        · have := up_lt h z m3 g
          omega
        · have : i = (lo + hi) / 2 := by omega
          subst this
          exact r
      · rw [if_neg r]
        refine ih _ _ (by omega) (by omega) (by omega) d (fun i z hi' => ?_)
        rcases Nat.lt_or_ge ((lo + hi) / 2) i with g | g
        · have := up_lt h m3 z g
          omega
        · have : i = (lo + hi) / 2 := by omega
          subst this
          omega
    · rw [if_neg q]
      have : lo = hi := by omega
      subst this
      exact ⟨c, fun i z => ⟨fun q => by
        rcases Nat.lt_or_ge i lo with g | g
        · exact g
        · have := e i z g
          omega, fun q => d i z q⟩⟩

theorem below_ok {xs : Array Nat} (h : xs.toList.Pairwise (· < ·)) (j : Nat) : BelowOk xs j (SetTable.below xs j) :=
  go_ok h _ _ _ (by omega) (Nat.zero_le _) (Nat.le_refl _) (fun i z q => absurd q (Nat.not_lt_zero _)) (fun i z q => absurd z (by omega))

theorem below_at {xs : Array Nat} (h : xs.toList.Pairwise (· < ·)) {k : Nat} (hk : k < xs.size) : SetTable.below xs (xs[k]) = k := by
  obtain ⟨a, b⟩ := below_ok h xs[k]
  rcases Nat.lt_trichotomy (SetTable.below xs xs[k]) k with g | g | g
  · have c := (b (SetTable.below xs xs[k]) (by omega)).mp (up_lt h (by omega) hk g)
    omega
  · exact g
  · have c := (b k hk).mpr g
    omega

theorem below_zero {xs : Array Nat} (h : xs.toList.Pairwise (· < ·)) : SetTable.below xs 0 = 0 := by
  obtain ⟨a, b⟩ := below_ok h 0
  rcases Nat.eq_zero_or_pos (SetTable.below xs 0) with g | g
  · exact g
  · have := (b 0 (by omega)).mpr g
    omega

theorem below_next {xs : Array Nat} (h : xs.toList.Pairwise (· < ·)) {k : Nat} (hk : k < xs.size) : SetTable.below xs (xs[k] + 1) = k + 1 := by
  obtain ⟨a, b⟩ := below_ok h (xs[k] + 1)
  have c := (b k hk).mp (by omega)
  rcases Nat.lt_or_ge (k + 1) (SetTable.below xs (xs[k] + 1)) with g | g
  · have e := (b (k + 1) (by omega)).mpr g
    have := up_lt h hk (show k + 1 < xs.size by omega) (Nat.lt_succ_self _)
    omega
  · omega

theorem has_nil (j : Nat) : SetTable.has #[] j = false := by
  unfold SetTable.has
  simp

theorem slot_empty {t : SetTable} (dm : t.dummies = #[]) {j : Nat} (h : j ∉ t.place.toList) : t.slot j = .empty := by
  unfold SetTable.slot
  have e : (t.place[SetTable.below t.place j]? == some j) = false := by
    rw [beq_eq_false_iff_ne]
    intro c
    exact h (by simpa using Array.mem_of_getElem? c)
  dsimp only
  rw [e, dm, has_nil]
  rfl
theorem slot_live {t : SetTable} (up : t.place.toList.Pairwise (· < ·)) {j : Nat} (h : j ∈ t.place.toList) : ∃ i, t.slot j = .live i := by
  obtain ⟨k, hk, e⟩ := List.getElem_of_mem h
  have hk' : k < t.place.size := by simpa using hk
  have e' : t.place[k] = j := by simpa using e
  unfold SetTable.slot
  have q : SetTable.below t.place j = k := by rw [← e']; exact below_at up hk'
  dsimp only
  rw [q]
  have : (t.place[k]? == some j) = true := by simp [hk', e']
  rw [this]
  exact ⟨k, rfl⟩

/-- the going on of a search, by the mask alone -/
def adv (mask : Nat) (p : SetTable.Probe) : SetTable.Probe :=
  if 0 < p.more then { p with more := p.more - 1, j := p.j + 1 } else
  { p with j := (SetTable.leap mask p.i p.perturb).1, more := SetTable.runEnd mask (SetTable.leap mask p.i p.perturb).1 - (SetTable.leap mask p.i p.perturb).1, i := (SetTable.leap mask p.i p.perturb).1, perturb := (SetTable.leap mask p.i p.perturb).2 }
theorem adv_eq (t : SetTable) (p : SetTable.Probe) : t.advance p = adv t.mask p := by
  unfold SetTable.advance adv
  rfl
def nth (mask : Nat) (p : SetTable.Probe) : Nat → SetTable.Probe
  | 0 => p
  | k + 1 => nth mask (adv mask p) k
theorem adv_dummy (m : Nat) (p : SetTable.Probe) : (adv m p).dummy = p.dummy := by
  unfold adv
  split <;> rfl
theorem go_finds {t : SetTable} (dm : t.dummies = #[]) (up : t.place.toList.Pairwise (· < ·)) (h : Int) : ∀ (k fuel : Nat) (p : SetTable.Probe), k < fuel → p.dummy = none → (nth t.mask p k).j ∉ t.place.toList →
    ∃ j, j ∉ t.place.toList ∧ SetTable.probe.go t (fun _ => h + 1) h fuel p = some (.empty j none) := by
  intro k
  induction k with
  | zero =>
    intro fuel p hf hd hn
    obtain ⟨f, rfl⟩ : ∃ f, fuel = f + 1 := ⟨fuel - 1, by omega⟩
    unfold SetTable.probe.go
    have hn' : p.j ∉ t.place.toList := hn
    refine ⟨p.j, hn', ?_⟩
    rw [slot_empty dm hn', hd]
  | succ k ih =>
    intro fuel p hf hd hn
    obtain ⟨f, rfl⟩ : ∃ f, fuel = f + 1 := ⟨fuel - 1, by omega⟩
    unfold SetTable.probe.go
    by_cases c : p.j ∈ t.place.toList
    · obtain ⟨i, e⟩ := slot_live up c
      rw [e]
      dsimp only
      have : (h + 1 == h) = false := by rw [beq_eq_false_iff_ne]; omega
      rw [this]
      rw [adv_eq]
      exact ih f (adv t.mask p) (by omega) (by rw [adv_dummy]; exact hd) hn
    · rw [slot_empty dm c, hd]
      exact ⟨p.j, c, rfl⟩
def start7 (v : Nat) : SetTable.Probe := { j := v % 8, more := 0, i := v % 8, perturb := v, dummy := none }
theorem seven : ∀ v, v < 16 → ∀ j, j < 8 → ∃ k, k < 16 ∧ (nth 7 (start7 v) k).j = j := by decide +kernel
theorem bits_of {v : Nat} (h : v < 16) : SetTable.bits (v : Int) = v := by
  unfold SetTable.bits
  omega
theorem free_of {t : SetTable} (dm : t.dummies = #[]) (up : t.place.toList.Pairwise (· < ·)) {v k : Nat} (hk : k < 10 * SetTable.turns t.mask) (hn : (nth t.mask (t.probeStart (v : Int)) k).j ∉ t.place.toList) :
    ∃ j, j ∉ t.place.toList ∧ t.freeSlot (v : Int) = some (j, false) := by
  obtain ⟨j, hj, e⟩ := go_finds dm up (v : Int) k (10 * SetTable.turns t.mask) (t.probeStart (v : Int)) hk rfl hn
  refine ⟨j, hj, ?_⟩
  unfold SetTable.freeSlot SetTable.probe
  rw [e]
  rfl
theorem len_le : ∀ (l m : List Nat), l.Nodup → (∀ x ∈ l, x ∈ m) → l.length ≤ m.length
  | [], _, _, _ => Nat.zero_le _
  | a :: r, m, nd, h => by
    have am : a ∈ m := h a List.mem_cons_self
    obtain ⟨n1, n2⟩ := List.nodup_cons.mp nd
    have q := len_le r (m.erase a) n2 fun x hx => (List.mem_erase_of_ne (fun e => n1 (by rw [← e]; exact hx))).mpr (h x (List.mem_cons_of_mem _ hx))
    rw [List.length_erase_of_mem am] at q
    have := List.length_pos_of_mem am
    rw [List.length_cons]
    omega
theorem pigeon {l : List Nat} (h : l.length ≤ 4) : ∃ j, j < 8 ∧ j ∉ l := by
  apply Classical.byContradiction
  intro c
  have q : ∀ j, j < 8 → j ∈ l := fun j hj => Classical.byContradiction fun d => c ⟨j, hj, d⟩
  have := len_le (List.range 8) l List.nodup_range (fun j hj => q j (List.mem_range.mp hj))
  rw [List.length_range] at this
  omega
theorem own_free {t : SetTable} (dm : t.dummies = #[]) {v : Nat} (hv : v < 16) (hm : 15 ≤ t.mask) (hn : v ∉ t.place.toList) : t.freeSlot (v : Int) = some (v, false) := by
  unfold SetTable.freeSlot SetTable.probe
  have e : (t.probeStart (v : Int)).j = v := by
    unfold SetTable.probeStart
    dsimp only
    rw [bits_of hv]
    exact Nat.mod_eq_of_lt (by omega)
  obtain ⟨f, hf⟩ : ∃ f, 10 * SetTable.turns t.mask = f + 1 := ⟨10 * SetTable.turns t.mask - 1, by unfold SetTable.turns; omega⟩
  rw [hf]
  unfold SetTable.probe.go
  rw [e, slot_empty dm hn]
  rfl

def Es (es : Array (Int × Value)) (L : List Nat) : Prop := Paired (fun e v => e.1 = ((v : Nat) : Int) ∧ ∃ tk, e.2 = Value.int ((v : Nat) : Int) tk) es.toList L
structure Tb (B : Bool) (t : SetTable) (L : List Nat) : Prop where
  dm : t.dummies = #[]
  pl : t.plain = true
  led : t.led = !B
  up : t.place.toList.Pairwise (· < ·)
  sz : t.place.size = L.length
  nd : L.Nodup
  lt : ∀ v ∈ L, v < 16
  sh : (t.mask = 7 ∧ L.length ≤ 4) ∨ (15 ≤ t.mask ∧ t.place.toList = L ∧ L.length * 5 < t.mask * 3)

theorem ins_up {xs : Array Nat} (up : xs.toList.Pairwise (· < ·)) {j : Nat} (h : j ∉ xs.toList) : (SetTable.insertAt xs (SetTable.below xs j) j).toList.Pairwise (· < ·) := by
  obtain ⟨a, b⟩ := below_ok up j
  rw [SetTable.toList_insertAt]
  have z : ∀ i (hi : i < xs.toList.length), xs.toList[i] < j ↔ i < SetTable.below xs j := fun i hi => by
    have := b i (by simpa using hi)
    simpa using this
  rw [List.pairwise_append]
  refine ⟨up.sublist (List.take_sublist _ _), ?_, ?_⟩
  · rw [List.pairwise_cons]
    refine ⟨fun y hy => ?_, up.sublist (List.drop_sublist _ _)⟩
    obtain ⟨i, hi, e⟩ := List.getElem_of_mem hy
    rw [List.getElem_drop] at e
    have hl : SetTable.below xs j + i < xs.toList.length := by rw [List.length_drop] at hi; omega
    have q := z _ hl
    rw [e] at q
    have ne : y ≠ j := fun c => h (by rw [← c, ← e]; exact List.getElem_mem hl)
    rcases Nat.lt_or_ge y j with g | g
    · have := q.mp g
      omega
    · omega
  · intro x hx y hy
    obtain ⟨i, hi, e⟩ := List.getElem_of_mem hx
    rw [List.getElem_take] at e
    have hl : i < xs.toList.length := by rw [List.length_take] at hi; omega
    have hb : i < SetTable.below xs j := by rw [List.length_take] at hi; omega
    have x1 : x < j := by rw [← e]; exact (z i hl).mpr hb
    rcases List.mem_cons.mp hy with rfl | hy
    · exact x1
    · obtain ⟨k, hk, e2⟩ := List.getElem_of_mem hy
      rw [List.getElem_drop] at e2
      have hl2 : SetTable.below xs j + k < xs.toList.length := by rw [List.length_drop] at hk; omega
      have q := z _ hl2
      rw [e2] at q
      rcases Nat.lt_or_ge y j with g | g
      · have := q.mp g
        omega
      · omega

theorem Es.len {es : Array (Int × Value)} {L : List Nat} (h : Es es L) : es.size = L.length := by
  have := Paired.length h
  simpa using this
theorem paired_take {α β : Type} {R : α → β → Prop} : ∀ {xs : List α} {ys : List β} (n : Nat), Paired R xs ys → Paired R (xs.take n) (ys.take n)
  | _, _, 0, _ => .nil
  | _, _, _ + 1, .nil => .nil
  | _, _, n + 1, .cons r t => .cons r (paired_take n t)
theorem paired_drop {α β : Type} {R : α → β → Prop} : ∀ {xs : List α} {ys : List β} (n : Nat), Paired R xs ys → Paired R (xs.drop n) (ys.drop n)
  | _, _, 0, r => r
  | _, _, _ + 1, .nil => .nil
  | _, _, n + 1, .cons _ t => paired_drop n t
theorem paired_app {α β : Type} {R : α → β → Prop} : ∀ {xs xs' : List α} {ys ys' : List β}, Paired R xs ys → Paired R xs' ys' → Paired R (xs ++ xs') (ys ++ ys')
  | _, _, _, _, .nil, s => s
  | _, _, _, _, .cons r t, s => .cons r (paired_app t s)
theorem paired_get {α β : Type} {R : α → β → Prop} : ∀ {xs : List α} {ys : List β}, Paired R xs ys → ∀ (i : Nat) (h : i < ys.length), ∃ x, xs[i]? = some x ∧ R x ys[i]
  | _, _, .nil, i, h => by simp at h
  | _, _, .cons r t, 0, h => ⟨_, rfl, r⟩
  | _, _, .cons r t, i + 1, h => by
    obtain ⟨x, e, q⟩ := paired_get t i (by simpa using h)
    exact ⟨x, by simpa using e, by simpa using q⟩

/-- one more laid -/
theorem lay_ok {B : Bool} {t : SetTable} {L : List Nat} {es : Array (Int × Value)} {v : Nat} {x : Value} (T : Tb B t L) (hE : Es es L) (hv : v < 16) (hn : v ∉ L) (hx : ∃ tk, x = Value.int ((v : Nat) : Int) tk) :
    ∃ t1 es1 p, layNew t es ((v : Nat) : Int) x = (es1, t1, false, false) ∧ Es es1 (L.take p ++ v :: L.drop p) ∧ t1.dummies = #[] ∧ t1.plain = true ∧ (t1.led = !B) ∧ t1.mask = t.mask ∧ t1.finger = t.finger ∧ t1.moves = t.moves ∧
      t1.place.toList.Pairwise (· < ·) ∧ t1.place.size = L.length + 1 ∧ (15 ≤ t.mask → t1.place.toList = L.take p ++ v :: L.drop p) := by
  have main : ∃ j, j ∉ t.place.toList ∧ t.freeSlot ((v : Nat) : Int) = some (j, false) ∧ (15 ≤ t.mask → j = v) := by
    rcases T.sh with ⟨m7, l4⟩ | ⟨m15, pe, fl⟩
    · have lp : t.place.toList.length ≤ 4 := by rw [Array.length_toList, T.sz]; exact l4
      obtain ⟨j, hj, nj⟩ := pigeon lp
      obtain ⟨k, hk, e⟩ := seven v hv j hj
      have st : t.probeStart ((v : Nat) : Int) = start7 v := by
        unfold SetTable.probeStart start7
        rw [bits_of hv, m7]
        unfold SetTable.runEnd
        have : ¬ v % (7 + 1) + 9 ≤ 7 := by omega
        simp only [if_neg this]
        simp
      obtain ⟨j', hj', e'⟩ := free_of (v := v) (k := k) T.dm T.up (by unfold SetTable.turns; omega) (by rw [st, m7, e]; exact nj)
      exact ⟨j', hj', e', fun c => by omega⟩
    · have nv : v ∉ t.place.toList := by rw [pe]; exact hn
      exact ⟨v, nv, own_free T.dm hv m15 nv, fun _ => rfl⟩
  obtain ⟨j, nj, ef, ej⟩ := main
  have sz1 : (SetTable.insertAt t.place (SetTable.below t.place j) j).size = L.length + 1 := by
    have := congrArg List.length (SetTable.toList_insertAt t.place (SetTable.below t.place j) j)
    rw [Array.length_toList] at this
    rw [this, List.length_append, List.length_cons, List.length_take, List.length_drop, Array.length_toList, T.sz]
    omega
  have es1 : (SetTable.insertAt es (SetTable.below t.place j) (((v : Nat) : Int), x)).size = L.length + 1 := by
    have := congrArg List.length (SetTable.toList_insertAt es (SetTable.below t.place j) (((v : Nat) : Int), x))
    rw [Array.length_toList] at this
    rw [this, List.length_append, List.length_cons, List.length_take, List.length_drop, Array.length_toList, hE.len]
    omega
  have mk : L.length + 1 ≤ t.mask := by
    rcases T.sh with ⟨m7, l4⟩ | ⟨m15, pe, fl⟩ <;> omega
  refine ⟨{ t with place := SetTable.insertAt t.place (SetTable.below t.place j) j }, SetTable.insertAt es (SetTable.below t.place j) (((v : Nat) : Int), x), SetTable.below t.place j, ?_, ?_, T.dm, T.pl, T.led, rfl, rfl, rfl, ins_up T.up nj, sz1, ?_⟩
  · unfold layNew
    rw [ef]
    dsimp only
    unfold SetTable.put
    have hd : SetTable.has t.dummies j = false := by rw [T.dm]; exact has_nil j
    dsimp only
    rw [hd]
    have ft : SetTable.fits { t with place := SetTable.insertAt t.place (SetTable.below t.place j) j } (SetTable.insertAt es (SetTable.below t.place j) (((v : Nat) : Int), x)).size = true := by
      unfold SetTable.fits SetTable.fill
      dsimp only
      rw [sz1, es1, T.dm]
      simp
      omega
    unfold SetTable.orStandIn
    simp only [if_false, Bool.false_eq_true]
    rw [if_pos ft, ft]
    rfl
  · unfold Es
    rw [SetTable.toList_insertAt]
    exact paired_app (paired_take _ hE) (.cons ⟨rfl, hx⟩ (paired_drop _ hE))
  · intro hm
    dsimp only
    have := ej hm
    subst this
    rcases T.sh with ⟨m7, l4⟩ | ⟨m15, pe, fl⟩
    · omega
    · rw [SetTable.toList_insertAt, pe]
end Sm

set_option maxHeartbeats 1000000
namespace Sm
open PySem

/-- who stands where: as told by the list so far -/
def Owns (m : Nat) (owner : Array (Option Nat)) (L : List Nat) : Prop := owner.size = m + 1 ∧ ∀ j, j ≤ m → owner.getD j none = if j ∈ L then some (L.idxOf j) else none

theorem free_own {m : Nat} {owner : Array (Option Nat)} {L : List Nat} (O : Owns m owner L) {v f : Nat} (hv : v ≤ m) (hn : v ∉ L) : SetTable.layClean.free m owner (f + 1) v v = some v := by
  unfold SetTable.layClean.free
  obtain ⟨k, hk⟩ : ∃ k, SetTable.runEnd m v + 1 - v = k + 1 := ⟨SetTable.runEnd m v - v, by unfold SetTable.runEnd; split <;> omega⟩
  rw [hk, List.range_succ_eq_map]
  have g : owner.getD (v + 0) (some 0) = none := by
    have a := O.2 v hv
    rw [if_neg hn] at a
    have hs : v < owner.size := by rw [O.1]; omega
    simp [Array.getD, hs] at a ⊢
    exact a
  rw [List.find?_cons_of_pos (by rw [g]; rfl)]
  rfl

theorem clean_go {m : Nat} (hm : 15 ≤ m) : ∀ (R L : List Nat) (owner : Array (Option Nat)), Owns m owner L → (L ++ R).Nodup → (∀ v ∈ R, v < 16) →
    ∃ owner', Owns m owner' (L ++ R) ∧ (R.map fun v => ((v : Nat) : Int)).foldl (fun (acc : Option (Array (Option Nat) × Nat)) h => do
      let (owner, k) ← acc
      let j ← SetTable.layClean.free m owner (SetTable.turns m) (SetTable.bits h % (m + 1)) (SetTable.bits h)
      pure (owner.setIfInBounds j (some k), k + 1)) (some (owner, L.length)) = some (owner', (L ++ R).length) := by
  intro R
  induction R with
  | nil => intro L owner O _ _; exact ⟨owner, by simpa using O, by simp⟩
  | cons v R ih =>
    intro L owner O nd hlt
    have hv : v < 16 := hlt v List.mem_cons_self
    have hn : v ∉ L := fun c => by
      have := List.nodup_append.mp nd
      exact this.2.2 v c v List.mem_cons_self rfl
    have O' : Owns m (owner.setIfInBounds v (some L.length)) (L ++ [v]) := by
      refine ⟨by rw [Array.size_setIfInBounds]; exact O.1, fun j hj => ?_⟩
      have hs : v < owner.size := by rw [O.1]; omega
      have hs' : j < owner.size := by rw [O.1]; omega
      have a := O.2 j hj
      by_cases e : j = v
      · subst e
        rw [if_pos (List.mem_append_right _ (List.mem_singleton.mpr rfl)), List.idxOf_append, if_neg hn]
        simp [Array.getD, hs]
      · have e1 : (owner.setIfInBounds v (some L.length)).getD j none = owner.getD j none := by
          simp only [Array.getD, Array.size_setIfInBounds, hs']
          simp [Array.getElem_setIfInBounds, hs', Ne.symm e]
        rw [e1, a]
        by_cases c : j ∈ L
        · rw [if_pos c, if_pos (List.mem_append_left _ c), List.idxOf_append, if_pos c]
        · rw [if_neg c, if_neg]
          intro d
          rcases List.mem_append.mp d with d | d
          · exact c d
          · exact e (List.mem_singleton.mp d)
    obtain ⟨o2, O2, e2⟩ := ih (L ++ [v]) _ O' (by simpa using nd) (fun u hu => hlt u (List.mem_cons_of_mem _ hu))
    refine ⟨o2, by simpa using O2, ?_⟩
    rw [List.map_cons, List.foldl_cons]
    have st : (do
      let (owner, k) ← some (owner, L.length)
      let j ← SetTable.layClean.free m owner (SetTable.turns m) (SetTable.bits ((v : Nat) : Int) % (m + 1)) (SetTable.bits ((v : Nat) : Int))
      pure (owner.setIfInBounds j (some k), k + 1) : Option (Array (Option Nat) × Nat)) = some (owner.setIfInBounds v (some L.length), (L ++ [v]).length) := by
      rw [bits_of hv, Nat.mod_eq_of_lt (by omega)]
      have : SetTable.turns m = (m + 14) + 1 := rfl
      rw [this]
      show (SetTable.layClean.free m owner (m + 14 + 1) v v).bind _ = _
      rw [free_own O (by omega) hn]
      simp
    rw [st]
    have e3 : (L ++ v :: R) = L ++ [v] ++ R := by simp
    rw [e3]
    exact e2

def upTo (m : Nat) (L : List Nat) : List Nat := (List.range (m + 1)).filter fun j => decide (j ∈ L)
theorem upTo_up (m : Nat) (L : List Nat) : (upTo m L).Pairwise (· < ·) := List.Pairwise.filter _ List.pairwise_lt_range
theorem mem_upTo {m : Nat} {L : List Nat} (h : ∀ v ∈ L, v ≤ m) {j : Nat} : j ∈ upTo m L ↔ j ∈ L := by
  unfold upTo
  rw [List.mem_filter, List.mem_range]
  constructor
  · rintro ⟨_, b⟩; exact of_decide_eq_true b
  · intro b; exact ⟨Nat.lt_succ_of_le (h j b), decide_eq_true b⟩
theorem nodup_of_up {L : List Nat} (h : L.Pairwise (· < ·)) : L.Nodup := h.imp fun h => Nat.ne_of_lt h
theorem upTo_perm {m : Nat} {L : List Nat} (h : ∀ v ∈ L, v ≤ m) (nd : L.Nodup) : (upTo m L).Perm L :=
  (List.perm_ext_iff_of_nodup (nodup_of_up (upTo_up m L)) nd).mpr fun j => mem_upTo h
theorem map_idx {L : List Nat} (nd : L.Nodup) : L.map (fun v => L.idxOf v) = List.range L.length := by
  apply List.ext_getElem
  · simp
  · intro i h1 h2
    rw [List.getElem_map, List.getElem_range]
    exact List.Nodup.idxOf_getElem nd i _
theorem fm_if {α β : Type} (p : α → Bool) (f : α → β) : ∀ l : List α, l.filterMap (fun a => if p a = true then some (f a) else none) = (l.filter p).map f
  | [] => rfl
  | a :: r => by
    rw [List.filter_cons]
    cases e : p a with
    | true => rw [List.filterMap_cons_some (b := f a) (by rw [e]; rfl), fm_if p f r]; simp
    | false => rw [List.filterMap_cons_none (by rw [e]; rfl), fm_if p f r]; simp

theorem fm_congr {α β : Type} {f g : α → Option β} : ∀ {l : List α}, (∀ a ∈ l, f a = g a) → l.filterMap f = l.filterMap g
  | [], _ => rfl
  | a :: r, h => by
    have e := h a List.mem_cons_self
    have q := fm_congr (l := r) fun b hb => h b (List.mem_cons_of_mem _ hb)
    cases c : f a with
    | none => rw [List.filterMap_cons_none c, List.filterMap_cons_none (by rw [← e]; exact c), q]
    | some b => rw [List.filterMap_cons_some c, List.filterMap_cons_some (by rw [← e]; exact c), q]
theorem Es.hashes {es : Array (Int × Value)} {L : List Nat} (h : Es es L) : (es.map (·.1)).toList = L.map fun v => ((v : Nat) : Int) := by
  rw [Array.toList_map]
  unfold Es at h
  generalize es.toList = l at h
  induction h with
  | nil => rfl
  | cons r _ ih => rw [List.map_cons, List.map_cons, ih, r.1]
theorem Es.at {es : Array (Int × Value)} {L : List Nat} (h : Es es L) {v : Nat} (hv : v ∈ L) : ∃ e, es[L.idxOf v]? = some e ∧ e.1 = ((v : Nat) : Int) ∧ ∃ tk, e.2 = Value.int ((v : Nat) : Int) tk := by
  have hi := List.idxOf_lt_length_of_mem hv
  obtain ⟨x, e, q⟩ := paired_get h (L.idxOf v) hi
  rw [List.getElem_idxOf hi] at q
  exact ⟨x, by simpa using e, q⟩
theorem es_re {es : Array (Int × Value)} {L : List Nat} (h : Es es L) : ∀ S : List Nat, (∀ v ∈ S, v ∈ L) → Paired (fun e v => e.1 = ((v : Nat) : Int) ∧ ∃ tk, e.2 = Value.int ((v : Nat) : Int) tk) ((S.map fun v => L.idxOf v).filterMap fun i => es[i]?) S
  | [], _ => .nil
  | v :: S, hs => by
    obtain ⟨e, a, b⟩ := h.at (hs v List.mem_cons_self)
    rw [List.map_cons, List.filterMap_cons_some a]
    exact .cons b (es_re h S fun u hu => hs u (List.mem_cons_of_mem _ hu))

theorem laid_ok {es : Array (Int × Value)} {L : List Nat} {m f mv : Nat} {led plain : Bool} (hm : 15 ≤ m) (hE : Es es L) (nd : L.Nodup) (hlt : ∀ v ∈ L, v < 16) :
    ∃ order : Array Nat, SetTable.laid m f mv led plain (es.map (·.1)) = some ({ mask := m, place := (upTo m L).toArray, dummies := #[], finger := f, led := led, moves := mv, plain := plain }, order) ∧
      Es (order.filterMap (es[·]?)) (upTo m L) ∧ coversAll order es.size = true := by
  have hle : ∀ v ∈ L, v ≤ m := fun v hv => by have := hlt v hv; omega
  have O0 : Owns m (Array.replicate (m + 1) none) [] := ⟨by simp, fun j hj => by simp [Array.getD]⟩
  obtain ⟨ow, O, e⟩ := clean_go hm L [] _ O0 (by simpa using nd) hlt
  rw [List.nil_append] at O e
  have ec : SetTable.layClean m (es.map (·.1)) = some ow := by
    unfold SetTable.layClean
    rw [← Array.foldl_toList, hE.hashes]
    have e' := e
    rw [List.length_nil] at e'
    show Option.map _ (List.foldl _ _ _) = _
    refine Eq.trans (congrArg (Option.map (·.1)) (Eq.trans ?_ e')) rfl
    rfl
  have lv : (List.range (m + 1)).filterMap (fun j => (ow.getD j none).map (fun k => (j, k))) = (upTo m L).map fun j => (j, L.idxOf j) := by
    unfold upTo
    rw [← fm_if]
    apply fm_congr
    intro j hj
    rw [O.2 j (by have := List.mem_range.mp hj; omega)]
    by_cases c : j ∈ L
    · simp [c]
    · simp [c]
  refine ⟨((upTo m L).map fun j => L.idxOf j).toArray, ?_, ?_, ?_⟩
  · unfold SetTable.laid
    rw [ec]
    show some _ = some _
    have : (List.range (m + 1)).filterMap (fun j => (ow.getD j none).map (j, ·)) = (upTo m L).map fun j => (j, L.idxOf j) := lv
    rw [this, List.map_map, List.map_map]
    have i1 : ((fun (x : Nat × Nat) => x.1) ∘ fun j => (j, L.idxOf j)) = fun j => j := rfl
    have i2 : ((fun (x : Nat × Nat) => x.2) ∘ fun j => (j, L.idxOf j)) = fun j => L.idxOf j := rfl
    rw [i1, i2, List.map_id']
  · unfold Es
    rw [Array.toList_filterMap]
    exact es_re hE (upTo m L) fun v hv => (mem_upTo hle).mp hv
  · unfold coversAll
    rw [List.isPerm_iff, hE.len]
    have p := (upTo_perm hle nd).map fun v => L.idxOf v
    rw [map_idx nd] at p
    exact p
theorem up_len {m : Nat} {L : List Nat} (h : ∀ v ∈ L, v < 16) (hm : 15 ≤ m) (nd : L.Nodup) : (upTo m L).length = L.length := (upTo_perm (fun v hv => by have := h v hv; omega) nd).length_eq

theorem sizeAbove_gt {n : Nat} (h : n < 2 ^ 40) : n < SetTable.sizeAbove n := by
  have go : ∀ fuel size, n < size * 2 ^ fuel → n < SetTable.sizeAbove.go n fuel size := by
    intro fuel
    induction fuel with
    | zero => intro size h; unfold SetTable.sizeAbove.go; simpa using h
    | succ f ih =>
      intro size h
      unfold SetTable.sizeAbove.go
      split
      · exact ih _ (by rw [Nat.pow_succ] at h; rw [Nat.mul_assoc, Nat.mul_comm 2]; exact h)
      · omega
  exact go 64 8 (by omega)
theorem sizeAbove_16 {n : Nat} (h : 8 ≤ n) : 16 ≤ SetTable.sizeAbove n := by
  have go : ∀ fuel size, 16 ≤ size → 16 ≤ SetTable.sizeAbove.go n fuel size := by
    intro fuel
    induction fuel with
    | zero => intro size h; unfold SetTable.sizeAbove.go; exact h
    | succ f ih =>
      intro size h
      unfold SetTable.sizeAbove.go
      split
      · exact ih _ (by omega)
      · exact h
  unfold SetTable.sizeAbove
  unfold SetTable.sizeAbove.go
  rw [if_pos h]
  exact go 63 _ (by omega)
theorem Tb.fits {B : Bool} {t : SetTable} {L : List Nat} (T : Tb B t L) : t.fits L.length = true := by
  unfold SetTable.fits SetTable.fill
  have := T.sz
  rw [T.dm]
  rcases T.sh with ⟨a, b⟩ | ⟨a, b, c⟩ <;> simp [this] <;> omega
theorem tb_laid {B : Bool} {L : List Nat} {m f mv : Nat} (hm : 15 ≤ m) (nd : L.Nodup) (hlt : ∀ v ∈ L, v < 16) (hr : L.length * 5 < m * 3) :
    Tb B { mask := m, place := (upTo m L).toArray, dummies := #[], finger := f, led := !B, moves := mv, plain := true } (upTo m L) where
  dm := rfl
  pl := rfl
  led := rfl
  up := by simpa using upTo_up m L
  sz := by simp
  nd := nodup_of_up (upTo_up m L)
  lt := fun v hv => hlt v ((mem_upTo (fun v hv => by have := hlt v hv; omega)).mp hv)
  sh := .inr ⟨hm, by simp, by rw [up_len hlt hm nd]; exact hr⟩
/-- laid anew by a grown table -/
theorem relay_ok {B : Bool} {t : SetTable} {es : Array (Int × Value)} {L : List Nat} {n : Nat} (hp : t.plain = true) (hl : t.led = !B) (hE : Es es L) (nd : L.Nodup) (hlt : ∀ v ∈ L, v < 16) (hn : 8 ≤ n) (h2 : 2 * L.length ≤ n) (hb : n < 2 ^ 40) :
    ∃ es' t' L', relayAll t es n = (es', t', false) ∧ Es es' L' ∧ Tb B t' L' ∧ L'.Perm L := by
  have a1 := sizeAbove_gt hb
  have a2 := sizeAbove_16 hn
  have hm : 15 ≤ SetTable.sizeAbove n - 1 := by omega
  obtain ⟨order, e, hE', hc⟩ := laid_ok (f := t.finger) (mv := t.movedTo (SetTable.sizeAbove n - 1)) (led := !B) (plain := true) hm hE nd hlt
  have T := tb_laid (B := B) (f := t.finger) (mv := t.movedTo (SetTable.sizeAbove n - 1)) hm nd hlt (by omega)
  refine ⟨_, _, _, ?_, hE', T, upTo_perm (fun v hv => by have := hlt v hv; omega) nd⟩
  unfold relayAll SetTable.relaid
  rw [hp, hl, e]
  dsimp only
  have z := hE'.len
  rw [hc, z, T.fits]
  rfl
end Sm

set_option maxHeartbeats 1000000
namespace Sm
open PySem

abbrev setO (es : Array (Int × Value)) (ep : Nat) (t : SetTable) : Obj := { cls := .type "set", dict := none, data := .set es ep t, slots := #[] }
/-- a set of small numbers stands there, in the order of L -/
def SetAt (B : Bool) (h : Heap) (a : Addr) (L : List Nat) : Prop := ∃ es ep t, h.get? a = some (setO es ep t) ∧ Es es L ∧ Tb B t L
/-- the table is no greater than it grows by itself -/
def Dense (h : Heap) (a : Addr) : Prop := ∃ es ep t, h.get? a = some (setO es ep t) ∧ (t.mask = 7 ∨ 5 ≤ es.size)
theorem Dense.keep {h h' : Heap} {a : Addr} (S : Dense h a) (k : ∀ o, h.get? a = some o → h'.get? a = some o) : Dense h' a :=
  let ⟨es, ep, t, ho, r⟩ := S; ⟨es, ep, t, k _ ho, r⟩
theorem SetAt.keep {B : Bool} {h h' : Heap} {a : Addr} {L : List Nat} (S : SetAt B h a L) (k : ∀ o, h.get? a = some o → h'.get? a = some o) : SetAt B h' a L :=
  let ⟨es, ep, t, ho, r⟩ := S; ⟨es, ep, t, k _ ho, r⟩
theorem Tb.len {B : Bool} {t : SetTable} {L : List Nat} (T : Tb B t L) : L.length ≤ 16 := by
  have := len_le L (List.range 16) T.nd fun x hx => List.mem_range.mpr (T.lt x hx)
  simpa using this
theorem hash16 : ∀ v : Nat, v < 16 → hashInt ((v : Nat) : Int) = ((v : Nat) : Int) := by decide +kernel
theorem Es.elems {prog : Program} {w : World} {es : Array (Int × Value)} {L : List Nat} (h : Es es L) (lt : ∀ v ∈ L, v < 16) : ElemsOf (intKind prog w) es.toList := by
  unfold Es at h
  generalize es.toList = l at h
  induction h with
  | nil => intro e he; simp at he
  | @cons x y xs ys r _ ih =>
    intro e he
    rcases List.mem_cons.mp he with rfl | he
    · obtain ⟨tk, e2⟩ := r.2
      refine ⟨⟨((y : Nat) : Int), ?_, ?_⟩, ?_⟩
      · show Value.isInt _ _ = true
        rw [e2]; simp [Value.isInt]
      · rw [r.1]; exact (hash16 y (lt y List.mem_cons_self)).symm
      · rw [e2]; rfl
    · exact ih (fun v hv => lt v (List.mem_cons_of_mem _ hv)) e he
theorem Es.find {es : Array (Int × Value)} {L : List Nat} (h : Es es L) (v : Nat) : (es.toList.findIdx? fun e => Value.isInt ((v : Nat) : Int) e.2).isSome = decide (v ∈ L) := by
  unfold Es at h
  generalize es.toList = l at h
  induction h with
  | nil => simp
  | @cons x y xs ys r _ ih =>
    obtain ⟨tk, e2⟩ := r.2
    rw [List.findIdx?_cons, e2]
    by_cases c : v = y
    · subst c; simp [Value.isInt]
    · have : Value.isInt ((v : Nat) : Int) (.int ((y : Nat) : Int) tk) = false := by simp [Value.isInt]; omega
      rw [this]
      simp only [Bool.false_eq_true, if_false, Option.isSome_map]
      rw [ih]
      simp [c]
section
variable {prog : Program} {w : World} {A : Around} {E : Value → Shared → Prop} {s : Shared} {B : Bool} {a : Addr} {L : List Nat}
theorem scan_at {es : Array (Int × Value)} {ep : Nat} {t : SetTable} {v tk : Nat} {ad : Bool} {Q : ScanMet → Shared → Prop} (ho : s.heap.get? a = some (setO es ep t)) (hE : Es es L) (T : Tb B t L) (hv : v < 16)
    (h1 : v ∈ L → ∀ j, Q (.found j) s) (h2 : v ∉ L → Q .absent s) : wpAny (model prog w) A (setScan a (.int ((v : Nat) : Int) tk) ((v : Nat) : Int) ad es) Q E s := by
  have hf : t.fits es.size = true := by rw [hE.len]; exact T.fits
  have sc := wpAny_setScan_of (prog := prog) (w := w) (A := A) (E := E) (s := s) (knd := intKind prog w) (k := ((v : Nat) : Int)) (x := .int ((v : Nat) : Int) tk) (adding := ad) (Q := Q) (by simp [intKind, Value.isInt]) ho rfl hf (hE.elems T.lt) (by
    have q := hE.find v
    have e : (fun e : Int × Value => (intKind prog w).is ((v : Nat) : Int) e.2) = fun e => Value.isInt ((v : Nat) : Int) e.2 := rfl
    rw [e]
    cases c : es.toList.findIdx? (fun e => Value.isInt ((v : Nat) : Int) e.2) with
    | none => rw [c] at q; exact h2 (of_decide_eq_false q.symm)
    | some j => rw [c] at q; exact h1 (of_decide_eq_true q.symm) _)
  have e : (intKind prog w).hash ((v : Nat) : Int) = ((v : Nat) : Int) := hash16 v hv
  rw [e] at sc
  exact sc
theorem put_get {h : Heap} {es es' : Array (Int × Value)} {ep : Nat} {t t' : SetTable} (ho : h.get? a = some (setO es ep t)) : (h.update a (Obj.putSet es' t')).get? a = some (setO es' (ep + 1) t') := by
  have := Heap.get?_update_self (Obj.putSet es' t') ho (by rw [putSet_of es' t' rfl]; rfl)
  rw [putSet_of es' t' rfl] at this
  exact this
theorem scan_ok (prog : Program) (w : World) {es : Array (Int × Value)} {t : SetTable} {v tk : Nat} (hE : Es es L) (T : Tb B t L) : byScan (.int ((v : Nat) : Int) tk) es = true :=
  byScan_of (knd := intKind prog w) rfl (by rw [hE.len]; have := T.len; unfold scanBound; omega) (hE.elems T.lt)
/-- a small number put to a set -/
theorem add_at {v tk : Nat} {Q : Bool → Shared → Prop} (S : SetAt B s.heap a L) (hv : v < 16)
    (h : ∀ b h' L', Heap.SameBut a s.heap h' → SetAt B h' a L' → (∀ u, u ∈ L' ↔ u = v ∨ u ∈ L) → (Dense s.heap a → Dense h' a) → Q b { s with heap := h' }) :
    wpAny (model prog w) A (setAddHashed a (.int ((v : Nat) : Int) tk) ((v : Nat) : Int)) Q E s := by
  obtain ⟨es, ep, t, ho, hE, T⟩ := S
  have hf : t.fits es.size = true := by rw [hE.len]; exact T.fits
  unfold setAddHashed setAddHashedIn
  refine wpAny_holding (wpAny_bind (wpAny_setState_of ho rfl hf ?_))
  dsimp only
  rw [scan_ok prog w hE T]
  simp only [↓reduceIte]
  unfold setAddByScan
  refine wpAny_bind ?_
  refine wpAny_bind (wpAny_rule ?_)
  refine wpAny_bind (scan_at ho hE T hv (fun hm j => ?_) fun hm => ?_)
  · dsimp only
    refine wpAny_pure (wpAny_pure ?_)
    have q := h false s.heap L (Heap.SameBut.refl a s.heap) ⟨es, ep, t, ho, hE, T⟩ (fun u => ⟨.inr, fun c => c.elim (fun e => e ▸ hm) id⟩) id
    exact q
  · dsimp only
    obtain ⟨t1, es1, p, e1, hE1, dm, pl, ld, mk, _, _, up, sz, own⟩ := lay_ok (x := .int ((v : Nat) : Int) tk) T hE hv hm ⟨tk, rfl⟩
    rw [e1]
    dsimp only
    refine wpAny_bind (wpAny_pure ?_)
    rw [pl]
    refine wpAny_bind (wpAny_pure ?_)
    simp only [↓reduceIte]
    have mem : ∀ u, u ∈ L.take p ++ v :: L.drop p ↔ u = v ∨ u ∈ L := fun u => by
      rw [List.mem_append, List.mem_cons]
      have e : u ∈ L ↔ u ∈ L.take p ∨ u ∈ L.drop p := by rw [← List.mem_append, List.take_append_drop]
      rw [e]
      constructor
      · rintro (c | c | c)
        · exact .inr (.inl c)
        · exact .inl c
        · exact .inr (.inr c)
      · rintro (c | c | c)
        · exact .inr (.inl c)
        · exact .inl c
        · exact .inr (.inr c)
    have nd1 : (L.take p ++ v :: L.drop p).Nodup := by
      have pm : (L.take p ++ v :: L.drop p).Perm (v :: L) := by
        have : L.take p ++ L.drop p = L := List.take_append_drop p L
        exact List.perm_middle.trans (by rw [this])
      exact pm.nodup_iff.mpr (List.nodup_cons.mpr ⟨hm, T.nd⟩)
    have lt1 : ∀ u ∈ L.take p ++ v :: L.drop p, u < 16 := fun u hu => ((mem u).mp hu).elim (fun e => e ▸ hv) (T.lt u)
    have ln1 : (L.take p ++ v :: L.drop p).length = L.length + 1 := by
      rw [List.length_append, List.length_cons, List.length_take, List.length_drop]; omega
    have fl : t1.fill = L.length + 1 := by unfold SetTable.fill; rw [dm, sz]; rfl
    have l16 := T.len
    have z1 : es1.size = L.length + 1 := by rw [hE1.len, ln1]
    refine wpAny_bind (wpAny_storeSet_of ho rfl ?_ (by rw [z1, sizeLine_eq]; omega))
    have ho1 := put_get (es' := es1) (t' := t1) ho
    cases tf : t1.tooFull with
    | false =>
      simp only [Bool.not_false, Bool.and_false, Bool.false_eq_true, if_false]
      refine wpAny_pure (wpAny_pure ?_)
      refine h true _ _ (Heap.SameBut.update ..) ⟨es1, ep + 1, t1, ho1, hE1, ⟨dm, pl, ld, up, by rw [ln1, sz], nd1, lt1, ?_⟩⟩ mem (fun ⟨es0, ep0, t0, ho0, d⟩ => ⟨es1, ep + 1, t1, ho1, by
        rw [ho] at ho0; cases ho0
        rw [mk, z1]; have := hE.len; omega⟩)
      unfold SetTable.tooFull at tf
      have tf' := of_decide_eq_false tf
      rw [fl, mk] at tf'
      rw [ln1, mk]
      rcases T.sh with ⟨m7, l4⟩ | ⟨m15, pe, _⟩
      · refine .inl ⟨m7, by omega⟩
      · exact .inr ⟨m15, own m15, by omega⟩
    | true =>
      simp only [Bool.not_false, Bool.and_self, if_true]
      unfold SetTable.tooFull at tf
      have tf' := of_decide_eq_true tf
      rw [fl, mk] at tf'
      have five : 5 ≤ L.length + 1 := by
        rcases T.sh with ⟨m7, l4⟩ | ⟨m15, pe, _⟩ <;> omega
      have gr : SetTable.grown es1.size = (L.length + 1) * 4 := by
        unfold SetTable.grown
        rw [z1, if_neg (by omega)]
      obtain ⟨es2, t2, L2, e2, hE2, T2, pm⟩ := relay_ok (t := t1) (n := SetTable.grown es1.size) pl ld hE1 nd1 lt1 (by rw [gr]; omega) (by rw [gr, ln1]; omega) (by rw [gr]; omega)
      rw [e2]
      dsimp only
      refine wpAny_bind (wpAny_pure ?_)
      refine wpAny_bind (wpAny_storeSet_of ho1 rfl ?_ (by rw [hE2.len, pm.length_eq, ln1, sizeLine_eq]; omega))
      refine wpAny_pure (wpAny_pure ?_)
      exact h true _ L2 ((Heap.SameBut.update ..).trans (Heap.SameBut.update ..)) ⟨es2, _, t2, put_get ho1, hE2, T2⟩ (fun u => (pm.mem_iff).trans (mem u)) fun _ => ⟨es2, _, t2, put_get ho1, .inr (by rw [hE2.len, pm.length_eq, ln1]; exact five)⟩
end
end Sm

set_option maxHeartbeats 2000000
namespace Sm
open PySem

/-- whether sets are walked by the text of the world -/
abbrev byT (w : World) : Bool := w.params.followText "set-order"
theorem erase_perm {α : Type} : ∀ (l : List α) (i : Nat) (h : i < l.length), (l[i] :: l.eraseIdx i).Perm l
  | _ :: r, 0, _ => .refl _
  | x :: r, i + 1, h => by
    have q := erase_perm r i (by simpa using h)
    rw [List.getElem_cons_succ, List.eraseIdx_cons_succ]
    exact (List.Perm.swap x (r[i]'(by simpa using h)) (r.eraseIdx i)).trans (q.cons x)
theorem pick_go {α : Type} (nx : Nat → Nat) : ∀ (fuel k : Nat) (left : List α) (out : Array α), left.length ≤ fuel → (pickOrder.go nx fuel k left out).toList.Perm (out.toList ++ left) := by
  intro fuel
  induction fuel with
  | zero =>
    intro k left out h
    have : left = [] := List.length_eq_zero_iff.mp (by omega)
    subst this
    unfold pickOrder.go
    simp
  | succ f ih =>
    intro k left out h
    unfold pickOrder.go
    by_cases c : left = []
    · subst c; simp
    · have pos : 0 < left.length := List.length_pos_iff.mpr c
      have lt := Nat.mod_lt (nx k) pos
      rw [List.getElem?_eq_getElem lt]
      dsimp only
      refine (ih (k + 1) _ _ (by rw [List.length_eraseIdx]; split <;> omega)).trans ?_
      rw [Array.toList_push, List.append_assoc]
      exact List.Perm.append_left _ (erase_perm left _ lt)
theorem pick_perm {α : Type} (nx : Nat → Nat) (xs : Array α) : (pickOrder nx xs).toList.Perm xs.toList := by
  have := pick_go nx xs.size 0 xs.toList #[] (by simp)
  unfold pickOrder
  simpa using this
theorem walk_eq (a : Addr) : setWalk a = (do
  let (xs, c, tb) ← setState a
  if ← setsByText then
    let q ← ask
    return pickOrder (q.params.setOrder a c) xs
  if !tb.plain && xs.size > 1 then return (← drawOrder xs.size xs.toList).toArray
  (do if !tb.led && xs.size > 1 then unsupported "set:maker-not-led" : Sem Unit)
  return xs) := rfl
/-- the small numbers of entries, in some order -/
theorem Es.perm {es : Array (Int × Value)} {L : List Nat} (h : Es es L) {es' : List (Int × Value)} (p : es'.Perm es.toList) : ∃ L', Paired (fun e v => e.1 = ((v : Nat) : Int) ∧ ∃ tk, e.2 = Value.int ((v : Nat) : Int) tk) es' L' ∧ L'.Perm L := by
  refine ⟨es'.map fun e => e.1.toNat, ?_, ?_⟩
  · have all : ∀ e ∈ es.toList, ∃ v : Nat, e.1 = ((v : Nat) : Int) ∧ ∃ tk, e.2 = Value.int ((v : Nat) : Int) tk := by
      unfold Es at h
      generalize es.toList = l at h
      clear p
      induction h with
      | nil => intro e he; simp at he
      | cons r _ ih =>
        intro e he
        rcases List.mem_cons.mp he with rfl | he
        · exact ⟨_, r⟩
        · exact ih e he
    have all' : ∀ e ∈ es', ∃ v : Nat, e.1 = ((v : Nat) : Int) ∧ ∃ tk, e.2 = Value.int ((v : Nat) : Int) tk := fun e he => all e (p.mem_iff.mp he)
    clear p
    induction es' with
    | nil => exact .nil
    | cons e r ih =>
      obtain ⟨v, e1, e2⟩ := all' e List.mem_cons_self
      rw [List.map_cons]
      refine .cons ?_ (ih fun x hx => all' x (List.mem_cons_of_mem _ hx))
      rw [e1]
      exact ⟨rfl, e2⟩
  · refine (p.map fun e => e.1.toNat).trans ?_
    unfold Es at h
    generalize es.toList = l at h
    have : l.map (fun e => e.1.toNat) = L := by
      induction h with
      | nil => rfl
      | cons r _ ih => rw [List.map_cons, ih, r.1]; rfl
    rw [this]
section
variable {prog : Program} {w : World} {A : Around} {E : Value → Shared → Prop} {s : Shared} {a : Addr} {L : List Nat}
theorem state_at {es : Array (Int × Value)} {ep : Nat} {t : SetTable} {B : Bool} {Q : (Array (Int × Value) × Nat × SetTable) → Shared → Prop} (ho : s.heap.get? a = some (setO es ep t)) (hE : Es es L) (T : Tb B t L) (h : Q (es, ep, t) s) :
    wpAny (model prog w) A (setState a) Q E s := wpAny_setState_of ho rfl (by rw [hE.len]; exact T.fits) h
theorem byText_at {Q : Bool → Shared → Prop} (h : Q (byT w) s) : wpAny (model prog w) A setsByText Q E s := by
  unfold setsByText
  exact wpAny_bind (wpAny_askSetting (wpAny_pure h))
theorem walk_at {es : Array (Int × Value)} {ep : Nat} {t : SetTable} {Q : Array (Int × Value) → Shared → Prop} (ho : s.heap.get? a = some (setO es ep t)) (hE : Es es L) (T : Tb (byT w) t L)
    (h : ∀ es', es'.toList.Perm es.toList → Q es' s) : wpAny (model prog w) A (setWalk a) Q E s := by
  rw [walk_eq]
  refine wpAny_bind (state_at ho hE T ?_)
  refine wpAny_bind (byText_at ?_)
  have pl := T.pl
  have ld := T.led
  cases c : byT w with
  | true =>
    simp only [if_true]
    exact wpAny_bind (wpAny_askSetting (wpAny_pure (h _ (pick_perm _ _))))
  | false =>
    rw [c] at ld
    simp only [pl, ld, Bool.not_true, Bool.not_false, Bool.false_and, Bool.false_eq_true, if_false]
    first | exact wpAny_bind (wpAny_pure (wpAny_pure (h _ .rfl))) | exact wpAny_pure (h _ .rfl)
theorem unseen_at {es : Array (Int × Value)} {ep : Nat} {t : SetTable} {others : List Addr} {f : Option Addr} {Q : Array (Int × Value) → Shared → Prop} (ho : s.heap.get? a = some (setO es ep t)) (hE : Es es L) (T : Tb (byT w) t L)
    (h : ∀ es', es'.toList.Perm es.toList → Q es' s) : wpAny (model prog w) A (setWalkUnseen a others f) Q E s := by
  unfold setWalkUnseen
  refine wpAny_bind (state_at ho hE T ?_)
  refine wpAny_bind (byText_at ?_)
  have e : (byT w || (t.led && t.plain) || decide (es.size ≤ 1)) = true := by rw [T.led, T.pl]; cases byT w <;> rfl
  dsimp only
  rw [if_pos e]
  exact walk_at ho hE T h
def reord (es : Array (Int × Value)) (laid : Option (SetTable × Array Nat)) : Sem (Array (Int × Value) × SetTable) := do
  let some (t, order) := laid
    | unsupported "internal:set-table-without-room"
  if (order.filterMap (es[·]?)).size != es.size then unsupported "internal:set-table-lost-an-element"
  pure (order.filterMap (es[·]?), t)
theorem relay_eq (a : Addr) (n : Nat) : setRelay a n = (do
  let (es, _, t) ← setState a
  if SetTable.sizeAbove n > sizeLine then unsupported "set:memory"
  let (es, t) ← reord es (t.relaid (es.map (·.1)) n)
  storeSet a es t) := rfl
theorem reord_at {es : Array (Int × Value)} {t : SetTable} {order : Array Nat} {S : List Nat} {Q : Array (Int × Value) × SetTable → Shared → Prop} (hE' : Es (order.filterMap (es[·]?)) S) (hz : es.size = S.length) (h : Q (order.filterMap (es[·]?), t) s) :
    wpAny (model prog w) A (reord es (some (t, order))) Q E s := by
  unfold reord
  dsimp only
  have e : ((order.filterMap (es[·]?)).size != es.size) = false := by rw [hE'.len, hz]; simp
  simp only [e, Bool.false_eq_true, if_false]
  first | exact wpAny_bind (wpAny_pure (wpAny_pure h)) | exact wpAny_pure h
theorem above_le {n : Nat} (h : n ≤ 64) : SetTable.sizeAbove n ≤ 128 := by
  have : ∀ n, n ≤ 64 → SetTable.sizeAbove n ≤ 128 := by decide +kernel
  exact this n h
/-- room made: the same set, in a table that has room -/
theorem room_at {more : Nat} {Q : Unit → Shared → Prop} {B : Bool} (S : SetAt B s.heap a L) (hm : more ≤ 16)
    (h : ∀ h' es ep t L', Heap.SameBut a s.heap h' → h'.get? a = some (setO es ep t) → Es es L' → Tb B t L' → L'.Perm L → (L.length + more) * 5 < t.mask * 3 → Q () { s with heap := h' }) : wpAny (model prog w) A (setRoomFor a more) Q E s := by
  obtain ⟨es, ep, t, ho, hE, T⟩ := S
  unfold setRoomFor
  refine wpAny_bind (state_at ho hE T ?_)
  have fl : t.fill = L.length := by unfold SetTable.fill; rw [T.dm, T.sz]; rfl
  have l16 := T.len
  unfold SetTable.roomFor
  dsimp only
  rw [fl, T.sz]
  by_cases c : (L.length + more) * 5 ≥ t.mask * 3
  · rw [if_pos c]
    dsimp only
    rw [relay_eq]
    refine wpAny_bind (state_at ho hE T ?_)
    have five : 5 ≤ L.length + more := by
      rcases T.sh with ⟨m7, _⟩ | ⟨m15, _, _⟩ <;> omega
    have b1 := sizeAbove_gt (n := (L.length + more) * 2) (by omega)
    have b2 := sizeAbove_16 (n := (L.length + more) * 2) (by omega)
    have b3 := above_le (n := (L.length + more) * 2) (by omega)
    dsimp only
    rw [if_neg (by rw [sizeLine_eq]; omega)]
    have hm' : 15 ≤ SetTable.sizeAbove ((L.length + more) * 2) - 1 := by omega
    obtain ⟨order, e, hE', hc⟩ := laid_ok (f := t.finger) (mv := t.movedTo (SetTable.sizeAbove ((L.length + more) * 2) - 1)) (led := t.led) (plain := t.plain) hm' hE T.nd T.lt
    unfold SetTable.relaid
    rw [e]
    have lz := up_len T.lt hm' T.nd
    refine wpAny_bind (reord_at hE' (by rw [hE.len, lz]) ?_)
    refine wpAny_storeSet_of ho rfl ?_ (by rw [hE'.len, lz, sizeLine_eq]; omega)
    have T' := tb_laid (B := B) (f := t.finger) (mv := t.movedTo (SetTable.sizeAbove ((L.length + more) * 2) - 1)) hm' T.nd T.lt (by omega)
    rw [← T.led, ← T.pl] at T'
    exact h _ _ _ _ _ (Heap.SameBut.update ..) (put_get ho) hE' T' (upTo_perm (fun v hv => by have := T.lt v hv; omega) T.nd) (by show _ < (SetTable.sizeAbove ((L.length + more) * 2) - 1) * 3; omega)
  · rw [if_neg c]
    refine wpAny_pure ?_
    exact h s.heap es ep t L (Heap.SameBut.refl a s.heap) ho hE T .rfl (by omega)
end
end Sm

set_option maxHeartbeats 2000000
namespace Sm
open PySem
theorem merge_eq (sA oA : Addr) (each : Sem Unit) : setMerge sA oA each = (do
  if sA == oA then return
  let (eo, epoch, to) ← setState oA
  if eo.isEmpty then return
  setRoomFor sA eo.size
  let (_, _, ts) ← setState sA
  match ts.road to with
  | .slotForSlot =>
    storeSet sA eo { to with finger := ts.finger, led := ts.led && to.led, moves := ts.moves, plain := ts.plain && to.plain }
  | .clean =>
    let (es, t) ← reord eo (SetTable.laid ts.mask ts.finger ts.moves (ts.led && to.led) (ts.plain && to.plain) (eo.map (·.1)))
    storeSet sA es t
  | .oneByOne =>
    for (h, x) in ← setWalkUnseen oA [sA] (some sA) do
      let _ ← holding [x] (setAddHashed sA x h)
      each
      if (← setState oA).2.1 != epoch then unsupported "set.changed-during-merge") := rfl
section
variable {prog : Program} {w : World} {A : Around} {E : Value → Shared → Prop} {s : Shared} {sA oA : Addr} {L1 L2 : List Nat}
theorem merge_at {each : Sem Unit} {Q : Unit → Shared → Prop} (ne : sA ≠ oA) (S1 : SetAt (byT w) s.heap sA L1) (S2 : SetAt (byT w) s.heap oA L2) (D : Dense s.heap oA)
    (he : ∀ (s' : Shared) (Q' : Unit → Shared → Prop), (∀ o, s.heap.get? oA = some o → s'.heap.get? oA = some o) → Q' () s' → wpAny (model prog w) A each Q' E s')
    (h : ∀ h' L, Heap.SameBut sA s.heap h' → SetAt (byT w) h' sA L → (∀ u, u ∈ L ↔ u ∈ L1 ∨ u ∈ L2) → Q () { s with heap := h' }) : wpAny (model prog w) A (setMerge sA oA each) Q E s := by
  obtain ⟨eo, ep, to, ho, hE, T⟩ := S2
  rw [merge_eq]
  have nb : (sA == oA) = false := beq_eq_false_iff_ne.mpr ne
  rw [nb]
  simp only [Bool.false_eq_true, if_false]
  refine wpAny_bind (state_at ho hE T ?_)
  dsimp only
  have hz := hE.len
  have l16 := T.len
  by_cases c : eo.isEmpty = true
  · rw [if_pos c]
    have l0 : L2.length = 0 := by rw [← hz]; simpa using c
    have : L2 = [] := List.length_eq_zero_iff.mp l0
    subst this
    exact wpAny_pure (h s.heap L1 (Heap.SameBut.refl _ _) S1 fun u => by simp)
  rw [if_neg c]
  refine wpAny_bind (room_at S1 (by omega) fun h1 es1 ep1 t1 L1' sb1 ho1 hE1 T1 pm hr => ?_)
  have ho' : h1.get? oA = some (setO eo ep to) := by rw [sb1.2 oA (Ne.symm ne)]; exact ho
  refine wpAny_bind (state_at (s := { s with heap := h1 }) ho1 hE1 T1 ?_)
  dsimp only
  have fl : t1.fill = L1'.length := by unfold SetTable.fill; rw [T1.dm, T1.sz]; rfl
  unfold SetTable.road
  rw [fl, pm.length_eq]
  have ld : (t1.led && to.led) = !byT w := by rw [T1.led, T.led]; simp
  have pl : (t1.plain && to.plain) = true := by rw [T1.pl, T.pl]; rfl
  by_cases e0 : L1.length = 0
  · have n1 : L1 = [] := List.length_eq_zero_iff.mp e0
    have nb : (L1.length != 0) = false := by rw [e0]; rfl
    rw [nb]
    simp only [Bool.false_eq_true, if_false]
    have dmt : to.dummies.isEmpty = true := by rw [T.dm]; rfl
    by_cases em : t1.mask = to.mask
    · have : (t1.mask == to.mask && to.dummies.isEmpty) = true := by rw [em, dmt]; simp
      rw [this]
      simp only [if_true]
      refine wpAny_storeSet_of (s := { s with heap := h1 }) ho1 rfl ?_ (by rw [hz, sizeLine_eq]; omega)
      refine h _ L2 (sb1.trans (Heap.SameBut.update ..)) ⟨eo, _, _, put_get ho1, hE, ⟨T.dm, pl, ld, T.up, T.sz, T.nd, T.lt, T.sh⟩⟩ fun u => by rw [n1]; simp
    · have : (t1.mask == to.mask && to.dummies.isEmpty) = false := by rw [beq_eq_false_iff_ne.mpr em]; rfl
      rw [this]
      simp only [Bool.false_eq_true, if_false]
      have m15 : 15 ≤ t1.mask := by
        obtain ⟨es0, ep0, t0, ho0, d⟩ := D
        rw [ho] at ho0
        cases ho0
        rcases T1.sh with ⟨m7, _⟩ | ⟨m15, _⟩
        · rw [m7] at hr
          rcases d with d | d
          · exact absurd (m7.trans d.symm) em
          · rw [hz] at hr; omega
        · exact m15
      obtain ⟨order, e, hE', hc⟩ := laid_ok (f := t1.finger) (mv := t1.moves) (led := t1.led && to.led) (plain := t1.plain && to.plain) m15 hE T.nd T.lt
      rw [e]
      have lz := up_len T.lt m15 T.nd
      refine wpAny_bind (reord_at hE' (by rw [hz, lz]) ?_)
      refine wpAny_storeSet_of (s := { s with heap := h1 }) ho1 rfl ?_ (by rw [hE'.len, lz, sizeLine_eq]; omega)
      have T' := tb_laid (B := byT w) (f := t1.finger) (mv := t1.moves) m15 T.nd T.lt (by rw [hz] at hr; omega)
      rw [← ld, ← pl] at T'
      refine h _ _ (sb1.trans (Heap.SameBut.update ..)) ⟨_, _, _, put_get ho1, hE', ?_⟩ fun u => ?_
      · rw [ld] at T' ⊢
        exact T'
      · rw [n1, mem_upTo (fun v hv => by have := T.lt v hv; omega)]; simp
  · have nb : (L1.length != 0) = true := by simp [e0]
    rw [nb]
    simp only [if_true]
    refine wpAny_bind (unseen_at (s := { s with heap := h1 }) ho' hE T fun es' pe => ?_)
    obtain ⟨R, hR, pR⟩ := hE.perm pe
    refine wpAny_bind ?_
    rw [← Array.forIn_toList]
    refine wpAny_forIn_list _ (fun rest _ s' => ∃ h' L R, s' = { s with heap := h' } ∧ Heap.SameBut sA s.heap h' ∧ SetAt (byT w) h' sA L ∧ Paired (fun (e : Int × Value) (v : Nat) => e.1 = ((v : Nat) : Int) ∧ ∃ tk, e.2 = Value.int ((v : Nat) : Int) tk) rest R ∧
      (∀ v ∈ R, v < 16) ∧ ∀ u, (u ∈ L ∨ u ∈ R) ↔ (u ∈ L1 ∨ u ∈ L2)) _ ?_ ?_ _ _ ⟨h1, L1', R, rfl, sb1, ⟨es1, ep1, t1, ho1, hE1, T1⟩, hR, fun v hv => T.lt v (pR.mem_iff.mp hv), fun u => by rw [pm.mem_iff, pR.mem_iff]⟩
    · rintro ⟨hh, x⟩ rest b s' ⟨h', L, R', rfl, sb, S, hP, lt, mem⟩
      cases hP with
      | @cons _ v _ R'' r t =>
        obtain ⟨e1, tk, e2⟩ := r
        dsimp only at e1 e2
        subst e1; subst e2
        dsimp only
        refine wpAny_bind (wpAny_holding (add_at (s := { s with heap := h' }) S (lt v List.mem_cons_self) fun b2 h2 L' sb2 S' mem' _ => ?_))
        have sb3 := sb.trans sb2
        have oo : h2.get? oA = some (setO eo ep to) := by rw [sb3.2 oA (Ne.symm ne)]; exact ho
        refine wpAny_bind (he _ _ (fun o q => by rw [ho] at q; cases q; exact oo) ?_)
        refine wpAny_bind (state_at (s := { s with heap := h2 }) oo hE T ?_)
        simp only [bne_self_eq_false, Bool.false_eq_true, if_false]
        refine wpAny_pure ⟨h2, L', R'', rfl, sb3, S', t, fun u hu => lt u (List.mem_cons_of_mem _ hu), fun u => ?_⟩
        rw [mem' u, ← mem u, List.mem_cons]
        constructor
        · rintro ((q | q) | q)
          · exact .inr (.inl q)
          · exact .inl q
          · exact .inr (.inr q)
        · rintro (q | q | q)
          · exact .inl (.inr q)
          · exact .inl (.inl q)
          · exact .inr q
    · rintro b s' ⟨h', L, R', rfl, sb, S, hP, lt, mem⟩
      cases hP
      exact wpAny_pure (h h' L sb S fun u => by rw [← mem u]; simp)
end
end Sm

set_option maxHeartbeats 2000000
namespace Sm
open PySem PySem.Builtin.Frozenset
theorem sub_ss : isSubtype (.type "set") (.type "set") = pure true := by rw [isSubtype_type]; kernel_rfl
theorem entry_or : entryFor table "set.__or__" = some Builtin.«frozenset.__or__» := entryFor_alias (id' := "frozenset.__or__") (by kernel_rfl) rfl (by decide +kernel) (by kernel_rfl)
theorem entry_iter : entryFor table "set.__iter__" = some Builtin.«frozenset.__iter__» := entryFor_alias (id' := "frozenset.__iter__") (by kernel_rfl) rfl (by decide +kernel) (by kernel_rfl)
def unionM (id : String) (l : Addr) (r : Value) : Sem Value := do
  let result ← copyOf l
  if r != .ref l then
    let q ← addrOf result
    holding [result] (updateFrom id q r)
  return result
theorem or_eq (x y : Value) : Builtin.«frozenset.__or__» ⟨[x, y], []⟩ = (do
  let (self, other) ← slot1 "__or__" ⟨[x, y], []⟩
  if !(← isAnySet self <&&> isAnySet other) then
    rule s!"frozenset.{"__or__"}.declined"
    return ← ret .notImplemented
  ret (← unionM s!"frozenset.{"__or__"}" (← addrOf self) other)) := rfl
section
variable {prog : Program} {w : World} {A : Around} {E : Value → Shared → Prop} {s : Shared} {a b : Addr} {L1 L2 : List Nat}
theorem fresh_tb (B : Bool) : Tb B (.fresh 0 0 (!B)) [] := ⟨rfl, rfl, rfl, .nil, rfl, .nil, fun v h => by simp at h, .inl ⟨rfl, by simp⟩⟩
theorem new_at {Q : Value → Shared → Prop} (h : Q (.ref s.heap.objs.size) { s with heap := s.heap.push (setO #[] 0 (.fresh 0 0 (!byT w))) }) : wpAny (model prog w) A (newSet (.type "set")) Q E s := by
  unfold newSet
  refine wpAny_bind (byText_at ?_)
  dsimp only
  simp only [newObj]
  exact wpAny_bind (wpAny_alloc (wpAny_pure h))
theorem SetAt.type {B : Bool} (S : SetAt B s.heap a L1) : s.TypeIs (.ref a) "set" := let ⟨_, _, _, ho, _⟩ := S; ⟨_, ho, rfl⟩
theorem any_at {B : Bool} {Q : Bool → Shared → Prop} (S : SetAt B s.heap a L1) (h : Q true s) : wpAny (model prog w) A (isAnySet (.ref a)) Q E s := by
  unfold isAnySet orM
  refine wpAny_bind (wpAny_isInstance S.type sub_ss ?_)
  exact wpAny_pure h
theorem copy_at {Q : Value → Shared → Prop} (S : SetAt (byT w) s.heap a L1) (D : Dense s.heap a)
    (h : ∀ h' L, (∀ b o, s.heap.get? b = some o → h'.get? b = some o) → SetAt (byT w) h' s.heap.objs.size L → (∀ u, u ∈ L ↔ u ∈ L1) → Q (.ref s.heap.objs.size) { s with heap := h' }) : wpAny (model prog w) A (copyOf a) Q E s := by
  unfold copyOf baseOf
  refine wpAny_bind (wpAny_bind (wpAny_isInstance S.type sub_ss (wpAny_pure ?_)))
  simp only [if_true]
  refine wpAny_bind (new_at ?_)
  show wpAny _ _ (do setMerge s.heap.objs.size a; pure (Value.ref s.heap.objs.size)) _ _ _
  have lt : a < s.heap.objs.size := by
    obtain ⟨_, _, _, ho, _⟩ := S
    exact Heap.lt_size ho
  have k : ∀ b o, s.heap.get? b = some o → (s.heap.push (setO #[] 0 (.fresh 0 0 (!byT w)))).get? b = some o := fun b o e => Heap.get?_push_of_some _ e
  refine wpAny_bind (merge_at (s := { s with heap := s.heap.push (setO #[] 0 (.fresh 0 0 (!byT w))) }) (L1 := []) (Nat.ne_of_gt lt) ⟨#[], 0, _, Heap.get?_push_size _ rfl, .nil, fresh_tb _⟩ (S.keep (k a)) (D.keep (k a)) (fun s' Q' _ q => wpAny_pure q) fun h' L sb S' mem => ?_)
  refine wpAny_pure (h h' L (fun b o e => ?_) S' fun u => by rw [mem u]; simp)
  have lb := Heap.lt_size e
  rw [sb.2 b (Nat.ne_of_lt lb)]
  exact k b o e
theorem epoch_at {es : Array (Int × Value)} {ep : Nat} {t : SetTable} {B : Bool} {Q : Nat → Shared → Prop} (ho : s.heap.get? a = some (setO es ep t)) (hE : Es es L1) (T : Tb B t L1) (h : Q ep s) : wpAny (model prog w) A (setEpoch a) Q E s :=
  wpAny_setEpoch_of ho rfl (by rw [hE.len]; exact T.fits) h
theorem union_at {id : String} {Q : Value → Shared → Prop} (ne : a ≠ b) (S1 : SetAt (byT w) s.heap a L1) (D1 : Dense s.heap a) (S2 : SetAt (byT w) s.heap b L2) (D2 : Dense s.heap b)
    (h : ∀ h' L, (∀ b o, s.heap.get? b = some o → h'.get? b = some o) → SetAt (byT w) h' s.heap.objs.size L → (∀ u, u ∈ L ↔ u ∈ L1 ∨ u ∈ L2) → Q (.ref s.heap.objs.size) { s with heap := h' }) :
    wpAny (model prog w) A (unionM id a (.ref b)) Q E s := by
  unfold unionM
  refine wpAny_bind (copy_at S1 D1 fun h1 L k S mem => ?_)
  have nb : (Value.ref b != Value.ref a) = true := by simp [Ne.symm ne]
  rw [nb]
  simp only [if_true]
  have S2' := S2.keep (k b)
  have D2' := D2.keep (k b)
  have lt : b < s.heap.objs.size := by
    obtain ⟨_, _, _, ho, _⟩ := S2
    exact Heap.lt_size ho
  have S2c := S2'
  obtain ⟨es, ep, t, ho, hE, T⟩ := S2c
  show wpAny _ _ (holding [Value.ref s.heap.objs.size] (updateFrom id s.heap.objs.size (.ref b)) >>= fun _ => pure (Value.ref s.heap.objs.size)) _ _ _
  refine wpAny_bind (wpAny_holding ?_)
  unfold updateFrom
  refine wpAny_bind (any_at (s := { s with heap := h1 }) S2' ?_)
  simp only [if_true]
  show wpAny _ _ (merge id s.heap.objs.size b) _ _ _
  unfold merge
  refine wpAny_bind (epoch_at (s := { s with heap := h1 }) ho hE T ?_)
  refine merge_at (s := { s with heap := h1 }) (Nat.ne_of_gt lt) S S2' D2' (fun s' Q' ks q => ?_) fun h' L' sb S' mem' => ?_
  · unfold unchanged
    refine wpAny_bind (epoch_at (s := s') (ks _ ho) hE T ?_)
    simp only [bne_self_eq_false, Bool.false_eq_true, if_false]
    exact wpAny_pure q
  · refine wpAny_pure (h h' L' (fun c o e => ?_) S' fun u => by rw [mem' u, mem u])
    rw [sb.2 c (Nat.ne_of_lt (Heap.lt_size e))]
    exact k c o e
/-- x | y of sets of small numbers -/
theorem or_at {Q : Value → Shared → Prop} (ne : a ≠ b) (S1 : SetAt (byT w) s.heap a L1) (D1 : Dense s.heap a) (S2 : SetAt (byT w) s.heap b L2) (D2 : Dense s.heap b)
    (h : ∀ h' L, (∀ b o, s.heap.get? b = some o → h'.get? b = some o) → SetAt (byT w) h' s.heap.objs.size L → (∀ u, u ∈ L ↔ u ∈ L1 ∨ u ∈ L2) → Q (.ref s.heap.objs.size) { s with heap := h' }) :
    wpAny (model prog w) A (binaryOp .BitOr (.ref a) (.ref b)) Q E s := by
  refine wpAny_binaryOp_same S1.type S2.type F.fills_set_or F.slot_set_or (wpAny_call_entry F.slot_set_or S1.type entry_or ?_ (F.args_set_or_2 _ _))
  rw [or_eq]
  refine wpAny_bind (m := slot1 "__or__" _) (wpAny_pure ?_)
  dsimp only
  unfold andM
  refine wpAny_bind (wpAny_bind (any_at S1 ?_))
  refine any_at S2 ?_
  simp only [Bool.not_true, Bool.false_eq_true, if_false]
  show wpAny _ _ (unionM _ a (.ref b) >>= fun v => ret v) _ _ _
  refine wpAny_bind (union_at ne S1 D1 S2 D2 fun h' L k S mem => ?_)
  exact wpAny_pure ⟨_, rfl, by simp, h h' L k S mem⟩
end
end Sm

set_option maxHeartbeats 4000000
namespace Sm
open PySem
theorem slot_si_next : Slot "set_iterator" "__next__" "set_iterator.__next__" := .of (owner := "set_iterator") (n := "__next__") (by rw [typeLookup_type, builtinLookup_eq_fast]; kernel_rfl) (by decide +kernel) (by decide +kernel) (by decide +kernel) (by first | exact .inl (by decide +kernel) | exact .inr (by decide +kernel)) (by rw [isSubtype_type]; kernel_rfl)
theorem entry_si_next : entryFor table "set_iterator.__next__" = some Builtin.«set_iterator.__next__» := entryFor_of_fast (by kernel_rfl)
theorem args_si_next (a : Value) : argsOk "set_iterator.__next__" ⟨[a], []⟩ := by unfold argsOk; kernel_rfl
theorem slot_si_iter : Slot "set_iterator" "__iter__" "set_iterator.__iter__" := .of (owner := "set_iterator") (n := "__iter__") (by rw [typeLookup_type, builtinLookup_eq_fast]; kernel_rfl) (by decide +kernel) (by decide +kernel) (by decide +kernel) (by first | exact .inl (by decide +kernel) | exact .inr (by decide +kernel)) (by rw [isSubtype_type]; kernel_rfl)
theorem args_si_iter (a : Value) : argsOk "set_iterator.__iter__" ⟨[a], []⟩ := by unfold argsOk; kernel_rfl
end Sm

set_option maxHeartbeats 4000000
namespace Sm
open PySem
theorem entry_si_iter : entryFor table "set_iterator.__iter__" = some Builtin.«dict_keyiterator.__iter__» := entryFor_alias (id' := "dict_keyiterator.__iter__") (by kernel_rfl) rfl (by decide +kernel) (by kernel_rfl)
/-- the entries as they are walked -/
def walked (w : World) (a : Addr) (ep : Nat) (es : Array (Int × Value)) : Array (Int × Value) := if byT w = true then pickOrder (w.params.setOrder a ep) es else es
theorem walked_perm (w : World) (a : Addr) (ep : Nat) (es : Array (Int × Value)) : (walked w a ep es).toList.Perm es.toList := by
  unfold walked
  split
  · exact pick_perm _ _
  · exact .rfl
theorem walked_size (w : World) (a : Addr) (ep : Nat) (es : Array (Int × Value)) : (walked w a ep es).size = es.size := by
  have := (walked_perm w a ep es).length_eq
  simpa using this
theorem next_eq (a : Addr) (slot given epochThen : Nat) : setNext a slot given epochThen = (do
  let (xs, c, tb) ← setState a
  if ← setsByText then
    if c != epochThen then
      unsupported "set_iterator.__next__:elements-changed"
    let zs ← setWalk a
    return (zs[given]?).map fun z => (z.2, slot)
  if !tb.plain && xs.size > 1 then
    unsupported "set_iterator.__next__:the-table-is-plain-no-more"
  (do if !tb.led && !xs.isEmpty then unsupported "set:maker-not-led" : Sem Unit)
  return match xs[SetTable.below tb.place slot]?, tb.place[SetTable.below tb.place slot]? with
    | some (_, z), some m => some (z, m + 1)
    | _, _ => none) := rfl
def slotOf (B : Bool) (t : SetTable) (i : Nat) : Nat := if B = true then 0 else if i = 0 then 0 else t.place.getD (i - 1) 0 + 1
theorem below_slot {B : Bool} {t : SetTable} {L : List Nat} (T : Tb B t L) (hB : B = false) : ∀ i, i ≤ L.length → SetTable.below t.place (slotOf B t i) = i
  | 0, _ => by
    unfold slotOf
    rw [hB]
    exact below_zero T.up
  | k + 1, h => by
    unfold slotOf
    rw [hB]
    have hk : k < t.place.size := by rw [T.sz]; omega
    simp only [Bool.false_eq_true, if_false, Nat.add_sub_cancel]
    rw [if_neg (by omega)]
    have : t.place.getD k 0 = t.place[k] := by simp [Array.getD, hk]
    rw [this]
    exact below_next T.up hk
section
variable {prog : Program} {w : World} {A : Around} {E : Value → Shared → Prop} {s : Shared} {a : Addr} {L : List Nat}
theorem walk_is {es : Array (Int × Value)} {ep : Nat} {t : SetTable} {Q : Array (Int × Value) → Shared → Prop} (ho : s.heap.get? a = some (setO es ep t)) (hE : Es es L) (T : Tb (byT w) t L)
    (h : Q (walked w a ep es) s) : wpAny (model prog w) A (setWalk a) Q E s := by
  rw [walk_eq]
  refine wpAny_bind (state_at ho hE T ?_)
  refine wpAny_bind (byText_at ?_)
  have pl := T.pl
  have ld := T.led
  unfold walked at h
  cases c : byT w with
  | true =>
    rw [c] at h
    simp only [if_true] at h ⊢
    exact wpAny_bind (wpAny_askSetting (wpAny_pure h))
  | false =>
    rw [c] at ld h
    simp only [pl, ld, Bool.not_true, Bool.not_false, Bool.false_and, Bool.false_eq_true, if_false] at h ⊢
    first | exact wpAny_bind (wpAny_pure (wpAny_pure h)) | exact wpAny_pure h
theorem snext_at {es : Array (Int × Value)} {ep i : Nat} {t : SetTable} {Q : Option (Value × Nat) → Shared → Prop} (ho : s.heap.get? a = some (setO es ep t)) (hE : Es es L) (T : Tb (byT w) t L) (hi : i ≤ L.length)
    (h : Q (((walked w a ep es)[i]?).map fun e => (e.2, slotOf (byT w) t (i + 1))) s) : wpAny (model prog w) A (setNext a (slotOf (byT w) t i) i ep) Q E s := by
  rw [next_eq]
  refine wpAny_bind (state_at ho hE T ?_)
  refine wpAny_bind (byText_at ?_)
  have pl := T.pl
  have ld := T.led
  cases c : byT w with
  | true =>
    simp only [if_true, bne_self_eq_false, Bool.false_eq_true, if_false]
    refine wpAny_bind (walk_is ho hE T (wpAny_pure ?_))
    rw [c] at h
    unfold slotOf at h ⊢
    simp only [if_true] at h ⊢
    exact h
  | false =>
    rw [c] at ld h
    simp only [pl, ld, Bool.not_true, Bool.not_false, Bool.false_and, Bool.false_eq_true, if_false]
    have bs := below_slot T c i hi
    rw [c] at bs
    rw [bs]
    have wk : walked w a ep es = es := by unfold walked; rw [c]; rfl
    rw [wk] at h
    have e : (match es[i]?, t.place[i]? with
      | some (_, z), some m => some (z, m + 1)
      | _, _ => none) = (es[i]?).map fun e => (e.2, slotOf false t (i + 1)) := by
      by_cases q : i < L.length
      · have h1 : i < es.size := by rw [hE.len]; exact q
        have h2 : i < t.place.size := by rw [T.sz]; exact q
        rw [Array.getElem?_eq_getElem h1, Array.getElem?_eq_getElem h2]
        unfold slotOf
        simp [Array.getD, h2]
      · have h1 : es[i]? = none := Array.getElem?_eq_none (by rw [hE.len]; omega)
        rw [h1]
        rfl
    first
    | exact wpAny_bind (wpAny_pure (wpAny_pure (by rw [e]; exact h)))
    | exact wpAny_pure (by rw [e]; exact h)
abbrev itO (sl i : Nat) (a : Addr) (n ep : Nat) : Obj := { cls := .type "set_iterator", dict := none, data := .fields #[.int (sl : Nat) 0, .int (i : Nat) 0, .ref a, .int (n : Nat) 0, .int (ep : Nat) 0], slots := #[] }
theorem item_at {I : Addr} {es : Array (Int × Value)} {ep i : Nat} {t : SetTable} {e : Int × Value} {Q : Option Value → Shared → Prop} (ne : a ≠ I) (ho : s.heap.get? a = some (setO es ep t)) (hE : Es es L) (T : Tb (byT w) t L)
    (hI : s.heap.get? I = some (itO (slotOf (byT w) t i) i a L.length ep)) (hw : (walked w a ep es)[i]? = some e)
    (h : ∀ h', h'.get? I = some (itO (slotOf (byT w) t (i + 1)) (i + 1) a L.length ep) → Heap.SameBut I s.heap h' → Q (some e.2) { s with heap := h' }) : wpAny (model prog w) A (pyNext (.ref I)) Q E s := by
  have hi : i < L.length := by
    rcases Nat.lt_or_ge i (walked w a ep es).size with q | q
    · rw [walked_size, hE.len] at q; exact q
    · rw [Array.getElem?_eq_none q] at hw; cases hw
  have hT : s.TypeIs (.ref I) "set_iterator" := ⟨_, hI, rfl⟩
  unfold pyNext
  refine wpAny_bind (wpAny_attempt (wpAny_callSpecial?_slot (name := Str.ofString "__next__") hT slot_si_next (wpAny_call_entry slot_si_next hT entry_si_next ?_ (args_si_next _))))
  unfold Builtin.«set_iterator.__next__»
  refine wpAny_bind (m := slotArgs "__next__" 0 _) (wpAny_pure ?_)
  dsimp only
  refine wpAny_bind (wpAny_fieldsOf hI rfl ?_)
  dsimp only
  unfold setEntries
  refine wpAny_bind (wpAny_bind (state_at ho hE T (wpAny_pure ?_)))
  have z : (((es.size : Nat) : Int) != ((L.length : Nat) : Int)) = false := by rw [hE.len]; simp
  dsimp only
  rw [z]
  simp only [Bool.false_eq_true, if_false, Int.toNat_natCast]
  refine wpAny_bind (snext_at ho hE T (by omega) ?_)
  rw [hw]
  dsimp only [Option.map]
  refine wpAny_bind (wpAny_setField_rec hI (by simp) fun h1 hI1 sb1 => ?_)
  refine wpAny_bind (wpAny_setField_rec (s := { s with heap := h1 }) hI1 (by simp) fun h2 hI2 sb2 => ?_)
  refine wpAny_pure ⟨_, rfl, wpAny_pure (h h2 ?_ (sb1.trans sb2))⟩
  rw [hI2]
  simp [rawInt]
theorem end_at {I : Addr} {es : Array (Int × Value)} {ep : Nat} {t : SetTable} {Q : Option Value → Shared → Prop} (hh : A.handled = none) (ne : a ≠ I) (ho : s.heap.get? a = some (setO es ep t)) (hE : Es es L) (T : Tb (byT w) t L)
    (hI : s.heap.get? I = some (itO (slotOf (byT w) t L.length) L.length a L.length ep))
    (h : ∀ h', Heap.ExtBut I s.heap h' → Q none { s with heap := h' }) : wpAny (model prog w) A (pyNext (.ref I)) Q E s := by
  have hT : s.TypeIs (.ref I) "set_iterator" := ⟨_, hI, rfl⟩
  unfold pyNext
  refine wpAny_bind (wpAny_attempt (wpAny_callSpecial?_slot (name := Str.ofString "__next__") hT slot_si_next (wpAny_call_entry slot_si_next hT entry_si_next ?_ (args_si_next _))))
  unfold Builtin.«set_iterator.__next__»
  refine wpAny_bind (m := slotArgs "__next__" 0 _) (wpAny_pure ?_)
  dsimp only
  refine wpAny_bind (wpAny_fieldsOf hI rfl ?_)
  dsimp only
  unfold setEntries
  refine wpAny_bind (wpAny_bind (state_at ho hE T (wpAny_pure ?_)))
  have z : (((es.size : Nat) : Int) != ((L.length : Nat) : Int)) = false := by rw [hE.len]; simp
  dsimp only
  rw [z]
  simp only [Bool.false_eq_true, if_false, Int.toNat_natCast]
  refine wpAny_bind (snext_at ho hE T (by omega) ?_)
  rw [Array.getElem?_eq_none (by rw [walked_size, hE.len]; exact Nat.le_refl _)]
  dsimp only [Option.map]
  refine wpAny_bind (wpAny_setField_rec hI (by simp) fun h1 hI1 sb1 => ?_)
  refine wpAny_bind ?_
  simp only [newExc, newTuple]
  refine wpAny_bind (wpAny_newObj_type ?_ (by size_fits))
  refine wpAny_bind (m := firstArgMember _ _) (wpAny_of_eq (a := Value.none) (by first | rfl | (simp only [firstArgMember]; rfl)) ?_); refine wpAny_newObj_type ?_ (by size_fits)
  simp only [raiseNew]
  refine wpAny_bind (wpAny_handled ?_)
  rw [show A.in1.handled = none from hh]; refine wpAny_bind (wpAny_pure (wpAny_throw ?_))
  refine wpAny_bind (wpAny_isInstance (U := "StopIteration") (T := "StopIteration") (b := true) ⟨_, Heap.get?_push_size _ rfl, rfl⟩ isSubtype_stop ?_)
  exact wpAny_pure (h _ ((sb1.extBut.push _).push _))
end
end Sm

set_option maxHeartbeats 4000000
namespace Sm
open PySem PyProof.Rows
section
variable {prog : Program} {w : World} {A : Around} {E : Value → Shared → Prop} {s : Shared} {a : Addr} {L : List Nat}
theorem sWalks {I : Addr} {es : Array (Int × Value)} {ep : Nat} {t : SetTable} (hh : A.handled = none) (ne : a ≠ I) (hE : Es es L) (T : Tb (byT w) t L) :
    Walks prog w A I [I, a] [I] L.length (fun i v => ∃ e, (walked w a ep es)[i]? = some e ∧ v = e.2)
      (fun i h => h.get? I = some (itO (slotOf (byT w) t i) i a L.length ep) ∧ h.get? a = some (setO es ep t)) where
  sub := fun b hb => by simp at hb; simp [hb]
  frame := fun _ _ _ st hk => ⟨hk I (by simp) _ st.1, hk a (by simp) _ st.2⟩
  item := fun i s Q E hi st hQ => by
    obtain ⟨e, he⟩ : ∃ e, (walked w a ep es)[i]? = some e := ⟨_, Array.getElem?_eq_getElem (by rw [walked_size, hE.len]; exact hi)⟩
    refine item_at ne st.2 hE T st.1 he fun h' hI sb => ?_
    exact hQ _ h' s.toks ⟨e, he, rfl⟩ ⟨hI, by rw [sb.2 a ne]; exact st.2⟩ fun b o hb q => by rw [sb.2 b (fun c => hb (by simp [c]))]; exact q
  done := fun s Q E st hQ => end_at hh ne st.2 hE T st.1 fun h' xb => hQ h' s.toks fun b o hb q => xb b o (fun c => hb (by simp [c])) q
  self := fun i s Q E st hQ => by
    have hT : s.TypeIs (.ref I) "set_iterator" := ⟨_, st.1, rfl⟩
    refine wpAny_pyIter_slot hT slot_si_iter (wpAny_call_entry slot_si_iter hT entry_si_iter ?_ (args_si_iter _))
    show wpAny _ _ (ret (Value.ref I)) _ _ s; exact wpAny_pure ⟨_, rfl, "set_iterator", _, hT, slot_si_next.lookup, hQ⟩
theorem drawn_eq (a : Addr) : setDrawn a = (do
  let (es, _, t) ← setState a
  let byText ← setsByText
  return !byText && (!t.plain && es.size > 1)) := rfl
theorem iter_at {es : Array (Int × Value)} {ep : Nat} {t : SetTable} {Q : Value → Shared → Prop} (ho : s.heap.get? a = some (setO es ep t)) (hE : Es es L) (T : Tb (byT w) t L)
    (h : Q (.ref s.heap.objs.size) { s with heap := s.heap.push (itO 0 0 a L.length ep) }) : wpAny (model prog w) A (pyIter (.ref a)) Q E s := by
  have hT : s.TypeIs (.ref a) "set" := ⟨_, ho, rfl⟩
  refine wpAny_pyIter_slot hT F.slot_set_iter (wpAny_call_entry F.slot_set_iter hT entry_iter ?_ (F.args_set_iter_1 _))
  unfold Builtin.«frozenset.__iter__»
  refine wpAny_bind (m := Builtin.Frozenset.slot0 _ _) (wpAny_pure ?_)
  unfold Builtin.Frozenset.sizeOf setEntries
  refine wpAny_bind (wpAny_bind (wpAny_bind (state_at ho hE T (wpAny_pure (wpAny_pure ?_)))))
  rw [drawn_eq]
  refine wpAny_bind (wpAny_bind (state_at ho hE T ?_))
  refine wpAny_bind (byText_at (wpAny_pure ?_))
  rw [T.pl]
  simp only [Bool.not_true, Bool.false_and, Bool.and_false, Bool.false_eq_true, if_false]
  refine wpAny_bind (wpAny_pure ?_)
  refine wpAny_bind (epoch_at ho hE T ?_)
  refine wpAny_bind ?_
  unfold newFields
  refine wpAny_newObj_type ?_
  refine wpAny_pure ⟨_, rfl, "set_iterator", _, ⟨_, Heap.get?_push_size _ rfl, rfl⟩, slot_si_next.lookup, ?_⟩
  rw [hE.len]
  exact h
theorem no_list : (Value.type "set" == Value.type "list") = false := by decide
theorem no_tup : (Value.type "set" == Value.type "tuple") = false := by decide
theorem len_slot : typeLookup (.type "set") "__len__" = pure (some (.builtin "set.__len__")) := F.slot_set_len.lookup
theorem split_len : splitId "set.__len__" = some ("set", "__len__") := by decide +kernel
theorem collect_set {es : Array (Int × Value)} {ep : Nat} {t : SetTable} {Q : List Value → Shared → Prop} (hh : A.handled = none) (ho : s.heap.get? a = some (setO es ep t)) (hE : Es es L) (T : Tb (byT w) t L)
    (h : ∀ (h' : Heap) (tk : Nat), (∀ b o, s.heap.get? b = some o → h'.get? b = some o) → s.heap.objs.size < h'.objs.size → Q ((walked w a ep es).toList.map (·.2)) { s with heap := h', toks := tk }) : wpAny (model prog w) A (collect (.ref a)) Q E s := by
  have lt : a < s.heap.objs.size := Heap.lt_size ho
  unfold collect
  refine wpAny_bind (wpAny_runValue (codeAny_builtin F.entry_proto_collect ?_))
  rw [Around.under_plainId F.plain_proto_collect _]
  show wpAny _ A.in1 (newList [] >>= fun l => again (.builtin "list.__iadd__" ⟨[l, .ref a], []⟩)) _ _ s
  refine wpAny_bind (wpAny_newObj_type (wpAny_pure ⟨plainId_quiet F.plain_list_iadd _, codeAny_builtin F.entry_list_iadd ?_⟩))
  rw [Around.under_plainId F.plain_list_iadd _]
  have S0 : (s.heap.push { cls := .type "list", data := .seq ([] : List Value).toArray }).get? s.heap.objs.size = some { cls := .type "list", data := .seq ([] : List Value).toArray } := Heap.get?_push_size _ rfl
  have ho1 : (s.heap.push { cls := .type "list", data := .seq ([] : List Value).toArray }).get? a = some (setO es ep t) := Heap.get?_push_of_some _ ho
  have hT1 : Shared.TypeIs { s with heap := s.heap.push { cls := .type "list", data := .seq ([] : List Value).toArray } } (.ref a) "set" := ⟨_, ho1, rfl⟩
  show wpAny _ A.in1 (Builtin.List.listExtendWith (.ref s.heap.objs.size) (.ref a) (.ref s.heap.objs.size)) _ _ { s with heap := s.heap.push { cls := .type "list", data := .seq ([] : List Value).toArray } }
  unfold Builtin.List.listExtendWith
  refine wpAny_bind (wpAny_typeOf hT1 ?_)
  have n1 : Builtin.List.listSameRef (.ref s.heap.objs.size) (.ref a) = false := by simp [Builtin.List.listSameRef, Nat.ne_of_gt lt]
  simp only [n1, no_list, no_tup, Bool.or_false, Bool.false_eq_true, if_false]
  refine wpAny_bind (iter_at ho1 hE T ?_)
  refine wpAny_bind (wpAny_holding ?_)
  have ho2 : ((s.heap.push { cls := .type "list", data := .seq ([] : List Value).toArray }).push (itO 0 0 a L.length ep)).get? a = some (setO es ep t) := Heap.get?_push_of_some _ ho1
  have hT2 : Shared.TypeIs { s with heap := (s.heap.push { cls := .type "list", data := .seq ([] : List Value).toArray }).push (itO 0 0 a L.length ep) } (.ref a) "set" := ⟨_, ho2, rfl⟩
  unfold Builtin.List.listLengthHint
  refine wpAny_bind (wpAny_specialOf hT2 len_slot ?_)
  dsimp only
  rw [split_len]
  dsimp only
  refine wpAny_bind (wpAny_isInstance hT2 sub_ss ?_)
  rw [if_neg (by decide)]
  rw [if_pos (by decide +kernel)]
  refine wpAny_bind (wpAny_typeOf hT2 ?_)
  dsimp only
  refine wpAny_pure ?_
  rw [if_pos (by decide +kernel)]
  refine wpAny_bind (wpAny_rule ?_)
  have lsz : (s.heap.push { cls := .type "list", data := .seq ([] : List Value).toArray }).objs.size = s.heap.objs.size + 1 := size_push' _ _
  have S1 : ((s.heap.push { cls := .type "list", data := .seq ([] : List Value).toArray }).push (itO 0 0 a L.length ep)).get? s.heap.objs.size = some { cls := .type "list", data := .seq ([] : List Value).toArray } := Heap.get?_push_of_some _ S0
  refine wpAny_bind ?_
  show wpAny _ A.in1 (updateSeq s.heap.objs.size (·.push .none) >>= fun _ => updateSeq s.heap.objs.size (·.pop)) _ _ _
  refine wpAny_bind (wpAny_updateSeq S1 rfl ?_)
  have S2 := Heap.get?_update_self (Obj.mapSeq (·.push Value.none)) S1 rfl
  refine wpAny_updateSeq S2 rfl ?_
  have S3 := Heap.get?_update_self (Obj.mapSeq (·.pop)) S2 rfl
  have oth : ∀ b o, b ≠ s.heap.objs.size → ((s.heap.push { cls := .type "list", data := .seq ([] : List Value).toArray }).push (itO 0 0 a L.length ep)).get? b = some o →
      ((((s.heap.push { cls := .type "list", data := .seq ([] : List Value).toArray }).push (itO 0 0 a L.length ep)).update s.heap.objs.size (Obj.mapSeq (·.push Value.none))).update s.heap.objs.size (Obj.mapSeq (·.pop))).get? b = some o :=
    fun b o hb e => (Heap.get?_update_other _ _ (Ne.symm hb)).trans ((Heap.get?_update_other _ _ (Ne.symm hb)).trans e)
  have neI : a ≠ (s.heap.push { cls := .type "list", data := .seq ([] : List Value).toArray }).objs.size := by rw [lsz]; exact Nat.ne_of_lt (Nat.lt_succ_of_lt lt)
  have W := (sWalks (prog := prog) (w := w) (A := A.in1) (I := (s.heap.push { cls := .type "list", data := .seq ([] : List Value).toArray }).objs.size) (ep := ep) (by simpa using hh) neI hE T).toS
  have l16 := T.len
  have sl0 : slotOf (byT w) t 0 = 0 := by unfold slotOf; split <;> rfl
  refine wpAny_pure ⟨plainId_quiet F.plain_extend_loop _, codeAny_extend_loopS W (by rw [sizeLine_eq]; omega) _ (by
      rw [lsz]; simp only [List.mem_cons, List.not_mem_nil, or_false, not_or]; exact ⟨Nat.ne_of_lt (Nat.lt_succ_self _), Nat.ne_of_gt lt⟩) _ _ 0 _ #[] _ rfl (Nat.zero_le _) ⟨?_, ?_⟩ S3 (ItemsOf.nil _) fun s' acc' c' hm hS' hacc => ?_⟩
  · refine oth _ _ (by rw [lsz]; exact Nat.ne_of_gt (Nat.lt_succ_self _)) ?_
    rw [sl0]
    exact Heap.get?_push_size _ rfl
  · exact oth _ _ (Nat.ne_of_lt lt) ho2
  · obtain ⟨h', g', d', tk', os'⟩ := s'
    have eg : g' = s.gens := hm.gens
    have ed : d' = s.drawn := hm.drawn
    have eo : os' = s.os := hm.os
    subst eg; subst ed; subst eo
    show wpAny _ A (load s.heap.objs.size >>= _) _ _ _
    refine wpAny_bind (wpAny_load hS' ?_)
    dsimp only
    have el : acc'.toList = (walked w a ep es).toList.map (·.2) := by
      apply List.ext_getElem?
      intro i
      rw [Array.getElem?_toList, List.getElem?_map, Array.getElem?_toList]
      rcases Nat.lt_or_ge i acc'.size with q | q
      · obtain ⟨e, he, hv⟩ := hacc.2 i acc'[i] (Array.getElem?_eq_getElem q)
        rw [Array.getElem?_eq_getElem q, he, hv]
        rfl
      · rw [Array.getElem?_eq_none q, Array.getElem?_eq_none (by rw [walked_size, hE.len, ← hacc.1]; exact q)]
        rfl
    rw [el]
    refine wpAny_pure (h h' tk' (fun b o e => ?_) (Heap.lt_size hS'))
    have lb : b < s.heap.objs.size := Heap.lt_size e
    refine hm.heap b o (by rw [lsz]; simp only [List.mem_cons, List.not_mem_nil, or_false, not_or]; exact ⟨Nat.ne_of_lt lb, Nat.ne_of_lt (Nat.lt_succ_of_lt lb)⟩) (oth b o (Nat.ne_of_lt lb) (Heap.get?_push_of_some _ (Heap.get?_push_of_some _ e)))
theorem sh_old {h : Heap} {a b : Addr} {vs : List Value} {out : Array Value} {o : Obj} (lb : b < h.objs.size) (ne : b ≠ a) (e : h.get? b = some o) : (sortedHeap h a vs out).get? b = some o := by
  unfold sortedHeap
  rw [Heap.get?_update_ne _ _ _ _ ne]
  exact Heap.get?_push_of_some _ (Heap.get?_push_of_some _ (by rw [Heap.get?_update_ne _ _ _ _ ne]; exact e))
theorem sh_at {h : Heap} {a : Addr} {vs : List Value} {xs out : Array Value} {n : Nat} (e : h.get? a = some (seqObj "list" xs n)) : ∃ n', (sortedHeap h a vs out).get? a = some (seqObj "list" out n') := by
  unfold sortedHeap
  exact ⟨_, get?_update_seq (Heap.get?_push_of_some _ (Heap.get?_push_of_some _ (get?_update_seq e fun _ => #[]))) fun _ => out⟩
/-- sorted(x), x a set of small numbers -/
theorem sorted_set {Q : Value → Shared → Prop} (hh : A.handled = none) (S : SetAt (byT w) s.heap a L)
    (h : ∀ (h' : Heap) (tk : Nat) (p : Addr) (vs : List Value) (n : Nat) (ns : List Int), (∀ b o, s.heap.get? b = some o → h'.get? b = some o) → s.heap.objs.size ≤ p → h'.get? p = some (seqObj "list" vs.toArray n) → IntsAre vs ns →
      ns.Perm (L.map fun v => ((v : Nat) : Int)) → ns.Pairwise (· ≤ ·) → Q (.ref p) { s with heap := h', toks := tk }) : wpAny (model prog w) A (call (.builtin "sorted") [.ref a]) Q E s := by
  obtain ⟨es, ep, t, ho, hE, T⟩ := S
  have l16 := T.len
  apply Calls.call_function_entry kind_sorted plain_sorted entry_sorted (args_sorted1 _)
  unfold Builtin.«sorted»
  refine wpAny_bind (m := checkCount "sorted" 1 1 _) (wpAny_pure ?_); refine wpAny_bind (collect_set (by simpa using hh) ho hE T fun h1 tk k lz => ?_)
  obtain ⟨L', hP, pm⟩ := hE.perm (walked_perm w a ep es)
  have hl : L'.length = L.length := pm.length_eq
  have hI : IntsAre ((walked w a ep es).toList.map (·.2)) (L'.map fun v => ((v : Nat) : Int)) := by
    generalize (walked w a ep es).toList = l at hP
    clear pm hl
    induction hP with
    | nil => exact .nil
    | cons r _ ih =>
      obtain ⟨q, e⟩ := r.2
      rw [List.map_cons, List.map_cons, e]
      exact .cons _ q ih
  have hn : ((walked w a ep es).toList.map (·.2)).length = L.length := by rw [List.length_map, Array.length_toList, walked_size, hE.len]
  refine wpAny_bind (wpAny_newList ?_ (by rw [hn, sizeLine_eq]; omega))
  have o1 : (h1.push (seqObj "list" ((walked w a ep es).toList.map (·.2)).toArray 0)).get? h1.objs.size = some (seqObj "list" ((walked w a ep es).toList.map (·.2)).toArray 0) := Heap.get?_push_size _ rfl
  refine wpAny_bind (wpAny_holding (wpAny_call_entry slot_list_sort ⟨_, o1, rfl⟩ entry_list_sort (list_sort_tree o1 hI (by rw [hn]; omega) fun out ns a1 a2 a3 => ⟨_, rfl, ?_⟩) (args_list_sort _)))
  obtain ⟨n', o2⟩ := sh_at (vs := (walked w a ep es).toList.map (·.2)) (out := out) o1
  refine wpAny_pure ⟨_, rfl, h _ _ _ out.toList n' ns (fun b o e => ?_) (Nat.le_of_lt lz) (by simpa using o2) a1 (a2.trans (pm.map _)) a3⟩
  have lb : b < h1.objs.size := Nat.lt_trans (Heap.lt_size e) lz
  exact sh_old (by rw [size_push']; exact Nat.lt_succ_of_lt lb) (Nat.ne_of_lt lb) (Heap.get?_push_of_some _ (k b o e))
end
end Sm

set_option maxHeartbeats 4000000
namespace Sm
open PySem PyProof.Rows
section
variable {prog : Program} {w : World} {A : Around} {R : Result → Shared → Prop} {I : Addr} {fp wr : List Addr} {G : Array GenState → Array GenState → Prop} {n : Nat} {P : Nat → Value → Prop} {St : Nat → Shared → Prop}
theorem fill_at (W : WalksS prog w A.in1 I fp wr G n P St) (S : Addr) (nf : S ∉ fp) (val : Nat → Nat) (hv : ∀ i v, i < n → P i v → ∃ t, v = .int ((val i : Nat) : Int) t) (lt : ∀ i, i < n → val i < 16) :
    ∀ (k i : Nat) (s : Shared) (L : List Nat), n - i = k → i ≤ n → St i s → SetAt (byT w) s.heap S L → Dense s.heap S → (∀ u, u ∈ L ↔ ∃ j, j < i ∧ val j = u) →
      (∀ s' L', Moved (S :: wr) G s s' → SetAt (byT w) s'.heap S L' → Dense s'.heap S → (∀ u, u ∈ L' ↔ ∃ j, j < n ∧ val j = u) → R (.ok (.ret .none)) s') →
      codeAny (model prog w) A (.builtin "set.update.loop" ⟨[.ref S, .ref I], []⟩) R s := by
  have nw : S ∉ wr := fun h => nf (W.sub _ h)
  have up : ∀ b ∈ wr, b ∈ S :: wr := fun b hb => List.mem_cons_of_mem _ hb
  intro k
  induction k with
  | zero =>
    intro i s L hk hi st hS hD mem hR
    obtain rfl : i = n := by omega
    refine codeAny_builtin F.entry_set_update_loop ?_
    rw [Around.under_plainId F.plain_set_update_loop _]; show wpAny _ A.in1 (pyNext (.ref I) >>= _) _ _ s; refine wpAny_bind (W.done s _ _ st fun s' hm => ?_)
    exact wpAny_pure (hR s' L (hm.mono up) (hS.keep fun o e => hm.heap S o nw e) (hD.keep fun o e => hm.heap S o nw e) mem)
  | succ k ih =>
    intro i s L hk hi st hS hD mem hR
    have li : i < n := by omega
    refine codeAny_builtin F.entry_set_update_loop ?_
    rw [Around.under_plainId F.plain_set_update_loop _]; show wpAny _ A.in1 (pyNext (.ref I) >>= _) _ _ s; refine wpAny_bind (W.item i s _ _ li st fun v s' hP st' hm => ?_)
    obtain ⟨t, rfl⟩ := hv i v li hP
    have hS' := hS.keep fun o e => hm.heap S o nw e
    have hD' := hD.keep fun o e => hm.heap S o nw e
    show wpAny _ A.in1 (holding [Value.int ((val i : Nat) : Int) t] (setAdd S (.int ((val i : Nat) : Int) t)) >>= _) _ _ s'
    refine wpAny_bind (wpAny_holding ?_)
    unfold setAdd
    refine wpAny_holding (wpAny_bind ((intKind prog w).pyHash (k := ((val i : Nat) : Int)) (intKind_is _ _ _ _) ?_))
    have eh : (intKind prog w).hash ((val i : Nat) : Int) = ((val i : Nat) : Int) := hash16 _ (lt i li)
    rw [eh]
    refine add_at (s := { s' with toks := s'.toks + 1 }) hS' (lt i li) fun b h' L' sb S2 mem2 dn => ?_
    refine wpAny_pure ⟨plainId_quiet F.plain_set_update_loop _, ih (i + 1) _ L' (by omega) li (W.frame _ s' _ _ st' (Nat.le_succ _) fun c hc o e => ?_) S2 (dn hD') (fun u => ?_) fun s2 L2 hm2 h2 h3 h4 => hR s2 L2 (Moved.trans W.gtrans ((hm.mono up).then_heap (Nat.le_succ _) fun c o hc e => ?_) hm2) h2 h3 h4⟩
    · rw [sb.2 c (fun q : c = S => nf (by rw [← q]; exact hc))]; exact e
    · rw [mem2 u, mem u]
      constructor
      · rintro (rfl | ⟨j, hj, e⟩)
        · exact ⟨i, Nat.lt_succ_self _, rfl⟩
        · exact ⟨j, Nat.lt_succ_of_lt hj, e⟩
      · rintro ⟨j, hj, e⟩
        rcases Nat.lt_or_ge j i with q | q
        · exact .inr ⟨j, q, e⟩
        · obtain rfl : j = i := by omega
          exact .inl e.symm
    · rw [sb.2 c (fun q : c = S => hc (by rw [q]; exact List.mem_cons_self))]; exact e
end
section
variable {prog : Program} {w : World} {A : Around} {E : Value → Shared → Prop} {s : Shared}
theorem newS_at (a : Value) {Q : Value → Shared → Prop} (h : Q (.ref s.heap.objs.size) { s with heap := s.heap.push (setO #[] 0 (.fresh 0 0 (!byT w))) }) :
    codeAny (model prog w) A (.call (.builtin "set.__new__") ⟨[.type "set", a], []⟩) (wants Q E) s := by
  refine codeAny_of_tree ?_
  show wpAny _ A.in1 (do checkBuiltinCall "set.__new__" ⟨[.type "set", a], []⟩; again (.builtin "set.__new__" ⟨[.type "set", a], []⟩)) _ _ s; refine wpAny_bind (wpAny_of_eq (F.newCall_set_1 a) (wpAny_pure ⟨plainId_quiet F.plain_set_new _, codeAny_builtin F.entry_set_new ?_⟩))
  rw [Around.under_plainId F.plain_set_new _]
  unfold Builtin.«set.__new__» Builtin.Frozenset.newClass
  have hsub := sub_set_self
  obtain ⟨hp, g, d, tk, os⟩ := s
  dsimp only at h ⊢
  wp_walk
  refine wpAny_askSetting (wpAny_pure ?_)
  dsimp only
  simp only [newObj]
  exact wpAny_bind (wpAny_alloc (wpAny_pure (wpAny_pure h)))
set_option maxHeartbeats 8000000 in
/-- set(xs), xs a list of small numbers -/
theorem set_at {l : Addr} {items : Array Value} {vals : List Nat} {Q : Value → Shared → Prop} (hh : A.handled = none) (hl : s.heap.IsList l items) (hi : IntsAre items.toList (vals.map fun v => ((v : Nat) : Int))) (lt : ∀ v ∈ vals, v < 16)
    (h : ∀ (h' : Heap) (tk : Nat) (L : List Nat), SetAt (byT w) h' s.heap.objs.size L → Dense h' s.heap.objs.size → (∀ u, u ∈ L ↔ u ∈ vals) → (∀ b o, b < s.heap.objs.size → s.heap.get? b = some o → h'.get? b = some o) → Q (.ref s.heap.objs.size) { s with heap := h', toks := tk }) :
    wpAny (model prog w) A (call (.type "set") [.ref l]) Q E s := by
  obtain ⟨c, tl, hmro⟩ := F.called_set.mro
  have hmade := F.called_set.made
  have hsub := F.called_set.sub
  have hlen : items.size = vals.length := by
    have := hi.length
    simpa using this
  refine wpAny_call (codeAny_of_tree ?_)
  show wpAny _ _ (callAny (.type "set") _) _ _ _; refine wpAny_pure ⟨Code.quiet_builtin _ (by decide +kernel), codeAny_builtin F.entry_type_call ?_⟩
  rw [Around.under_plain (weight_type_call_type "set" [.ref l] []) rfl]; have h1 := F.called_set.notType
  have h2 := F.called_set.canCreate
  have hct := F.typeCall_set_1 (.ref l)
  repeat (any_goals (first | assumption | wp_step))
  refine codeAny_mono (newS_at (.ref l) (E := E) (Q := fun obj s₁ => obj = .ref s.heap.objs.size ∧ s₁ = { s with heap := s.heap.push (setO #[] 0 (.fresh 0 0 (!byT w))) }) ⟨rfl, rfl⟩) fun r s₁ hr => ?_
  cases r with
  | error e => exact hr
  | ok fl =>
    cases fl with
    | ret obj =>
      obtain ⟨rfl, rfl⟩ := hr
      have gS : (s.heap.push (setO #[] 0 (.fresh 0 0 (!byT w)))).get? s.heap.objs.size = some (setO #[] 0 (.fresh 0 0 (!byT w))) := Heap.get?_push_size _ rfl
      have hT : Shared.TypeIs { s with heap := s.heap.push (setO #[] 0 (.fresh 0 0 (!byT w))) } (.ref s.heap.objs.size) "set" := ⟨_, gS, rfl⟩
      have hli := F.called_set.init.lookup
      have hbi := F.called_set.init.bind (.ref s.heap.objs.size)
      repeat (any_goals (first | assumption | wp_step))
      refine codeAny_mono (codeAny_call_builtin (R := wants (fun r s₂ => r = .none ∧ ∃ h' tk L, s₂ = { s with heap := h', toks := tk } ∧ SetAt (byT w) h' s.heap.objs.size L ∧ Dense h' s.heap.objs.size ∧ (∀ u, u ∈ L ↔ u ∈ vals) ∧
          (∀ b o, b < s.heap.objs.size → s.heap.get? b = some o → h'.get? b = some o)) E) F.called_set.init.plain F.entry_set_init (check_set_init_1 hT ?_)) fun r₂ s₂ hr₂ => ?_
      · obtain ⟨ol, hol, hcl, nl, hdl⟩ := hl
        obtain ⟨ocls, odict, odata, oslots⟩ := ol
        simp only at hcl hdl
        subst hcl; subst hdl
        have hol' : (s.heap.push (setO #[] 0 (.fresh 0 0 (!byT w)))).get? l = some { cls := .type "list", dict := odict, data := .seq items nl, slots := oslots } := Heap.get?_push_of_some _ hol
        have hsls := F.sub_list_set
        have hslf := F.sub_list_frozenset
        have hne : (Value.type "list" == Value.type "dict") = false := by decide
        have hl1 : (s.heap.push (setO #[] 0 (.fresh 0 0 (!byT w)))).IsList l items := ⟨_, hol', rfl, nl, rfl⟩
        unfold Builtin.«set.__init__» noKeywords Builtin.Frozenset.updateFrom
        generalize hPI : pyIter = PI
        wp_walk
        subst hPI
        refine wpAny_pyIter_list hl1 (wpAny_bind (wpAny_runValue ?_))
        have ll : l < s.heap.objs.size := Heap.lt_size hol
        have hh3 : A.in1.in1.in1.handled = none := by simp [hh]
        have ni : l ≠ (s.heap.push (setO #[] 0 (.fresh 0 0 (!byT w)))).objs.size := by rw [Heap.size_push]; exact Nat.ne_of_lt (Nat.lt_succ_of_lt ll)
        have nf : s.heap.objs.size ∉ [(s.heap.push (setO #[] 0 (.fresh 0 0 (!byT w)))).objs.size, l] := by
          rw [Heap.size_push]; simp only [List.mem_cons, List.not_mem_nil, or_false, not_or]
          exact ⟨Nat.ne_of_lt (Nat.lt_succ_self _), Nat.ne_of_gt ll⟩
        have hval : ∀ (i : Nat) (v : Value), i < items.size → items[i]? = some v → ∃ t, v = .int (((fun i => vals.getD i 0) i : Nat) : Int) t := fun i v li hv => by
          obtain ⟨t, e⟩ := PyProof.Rows.IntsAre.int_at hi i v (by rw [Array.getElem?_toList]; exact hv)
          have lv : i < vals.length := by omega
          refine ⟨t, ?_⟩
          rw [e]
          simp [List.getD, lv]
        refine fill_at ((Walks.list hh3 _ l ni items).toS) s.heap.objs.size nf (fun i => vals.getD i 0) hval (fun i li => ?_) (items.size - 0) 0 _ [] (by omega) (Nat.zero_le _) ⟨⟨_, Heap.get?_push_size _ rfl, rfl, rfl⟩, (hl1.push _)⟩ ?hS0 ?hD0 (fun u => by simp) ?hR
        · have lv : i < vals.length := by omega
          refine lt _ ?_
          simp [List.getD, lv]
        case hS0 => exact ⟨#[], 0, _, Heap.get?_push_of_some _ gS, .nil, fresh_tb _⟩
        case hD0 => exact ⟨#[], 0, _, Heap.get?_push_of_some _ gS, .inl rfl⟩
        case hR =>
          intro s' L' hm hS' hD' mem
          obtain ⟨h', g', d', tk', os'⟩ := s'
          have eg : g' = s.gens := hm.gens
          have ed : d' = s.drawn := hm.drawn
          have eo : os' = s.os := hm.os
          subst eg; subst ed; subst eo
          show wpAny _ _ _ _ _ _
          refine wpAny_pure ?_
          show wpAny _ _ (ret Value.none) _ _ _; refine wpAny_pure ⟨rfl, h', tk', L', rfl, hS', hD', fun u => ?_, fun b o hb e => ?_⟩
          · rw [mem u]
            constructor
            · rintro ⟨j, hj, rfl⟩
              have lv : j < vals.length := by omega
              simp [List.getD, lv]
            · intro hu
              obtain ⟨j, hj, e⟩ := List.getElem_of_mem hu
              exact ⟨j, by omega, by simp [List.getD, hj, e]⟩
          · have b1 : b ≠ s.heap.objs.size := Nat.ne_of_lt hb
            have b2 : b ≠ (s.heap.push (setO #[] 0 (.fresh 0 0 (!byT w)))).objs.size := by rw [Heap.size_push]; exact Nat.ne_of_lt (Nat.lt_succ_of_lt hb)
            exact hm.heap b o (by simp only [List.mem_cons, List.not_mem_nil, or_false, not_or]; exact ⟨b1, b2⟩) (Heap.get?_push_of_some _ (Heap.get?_push_of_some _ e))
      · cases r₂ with
        | error e => exact hr₂
        | ok fl₂ =>
          cases fl₂ with
          | ret r =>
            obtain ⟨rfl, h', tk, L, rfl, q1, q2, q3, q4⟩ := hr₂
            repeat (any_goals (first | assumption | wp_step))
            exact h _ _ L q1 q2 q3 q4
          | _ => exact hr₂.elim
    | _ => exact hr.elim
end
end Sm

set_option maxHeartbeats 4100000
namespace L2
open PySem PySem.Spec PyProof.Rows Sm
/-- a set of small numbers, as a thing of the heap; d: its table is no greater than it grows by itself -/
def SetV (w : World) (a : Addr) (d : Bool) (L : List Nat) : HO := .ext fun h => SetAt (byT w) h a L ∧ (d = true → Dense h a)
def Small (ns : List Int) : Prop := ∀ n ∈ ns, 0 ≤ n ∧ n < 16
/-- rising, each once, of those below sixteen that p tells -/
def upF (p : Int → Bool) : List Int := ((List.range 16).map fun i => ((i : Nat) : Int)).filter p
theorem upF_up (p : Int → Bool) : (upF p).Pairwise (· < ·) := by
  unfold upF
  refine List.Pairwise.filter _ ?_
  rw [List.pairwise_map]
  exact List.pairwise_lt_range.imp fun h => by omega
theorem mem_upF {p : Int → Bool} {v : Int} : v ∈ upF p ↔ 0 ≤ v ∧ v < 16 ∧ p v = true := by
  unfold upF
  rw [List.mem_filter, List.mem_map]
  constructor
  · rintro ⟨⟨i, hi, rfl⟩, h⟩
    have := List.mem_range.mp hi
    exact ⟨by omega, by omega, h⟩
  · rintro ⟨h0, h1, h⟩
    exact ⟨⟨v.toNat, List.mem_range.mpr (by omega), by omega⟩, h⟩
/-- two rising lists with the same members are one -/
theorem up_eq : ∀ {xs ys : List Int}, xs.Pairwise (· < ·) → ys.Pairwise (· < ·) → (∀ v, v ∈ xs ↔ v ∈ ys) → xs = ys
  | [], [], _, _, _ => rfl
  | [], y :: ys, _, _, h => absurd ((h y).mpr List.mem_cons_self) List.not_mem_nil
  | x :: xs, [], _, _, h => absurd ((h x).mp List.mem_cons_self) List.not_mem_nil
  | x :: xs, y :: ys, hx, hy, h => by
    obtain ⟨x1, x2⟩ := List.pairwise_cons.mp hx
    obtain ⟨y1, y2⟩ := List.pairwise_cons.mp hy
    have e : x = y := by
      rcases List.mem_cons.mp ((h x).mp List.mem_cons_self) with e | e
      · exact e
      · rcases List.mem_cons.mp ((h y).mpr List.mem_cons_self) with f | f
        · exact f.symm
        · have a := y1 x e
          have b := x1 y f
          omega
    subst e
    congr 1
    refine up_eq x2 y2 fun v => ?_
    constructor
    · intro q
      rcases List.mem_cons.mp ((h v).mp (List.mem_cons_of_mem _ q)) with e | e
      · subst e; have := x1 v q; omega
      · exact e
    · intro q
      rcases List.mem_cons.mp ((h v).mpr (List.mem_cons_of_mem _ q)) with e | e
      · subst e; have := y1 v q; omega
      · exact e
def rSetS (w : World) (K : PySem.W.Frag) : List V → Hp → VK → Prop := fun xs H Q => ∃ l ns, xs = [.ref l] ∧ SqL K H l (List.map V.int ns) ∧ Small ns ∧ ∀ p L H', New H p (SetV w p true L) H' → (∀ u : Nat, u ∈ L ↔ (u : Int) ∈ ns) → Q (.ref p) H'
def rOrS (w : World) : R2 := fun x y H Q => ∃ a b L1 L2, x = .ref a ∧ y = .ref b ∧ a ≠ b ∧ H a = some (SetV w a true L1) ∧ H b = some (SetV w b true L2) ∧ ∀ p L H', New H p (SetV w p false L) H' → (∀ u : Nat, u ∈ L ↔ u ∈ L1 ∨ u ∈ L2) → Q (.ref p) H'
def rSortS (w : World) : List V → Hp → VK → Prop := fun xs H Q => ∃ a d L, xs = [.ref a] ∧ H a = some (SetV w a d L) ∧ ∀ p H', New H p (.lst ((upF fun v => decide (v.toNat ∈ L)).map V.int)) H' → Q (.ref p) H'
theorem ints_from : ∀ {vs : List Value} {ns : List Int}, IntsAre vs ns → Vals (ns.map V.int) vs
  | _, _, .nil => .nil
  | _, _, .cons n t r => .cons ⟨t, rfl⟩ (ints_from r)
theorem up_small {xs : List Int} {L : List Nat} (pm : xs.Perm (L.map fun v => ((v : Nat) : Int))) (nd : L.Nodup) (lt : ∀ v ∈ L, v < 16) (le : xs.Pairwise (· ≤ ·)) : xs = upF fun v => decide (v.toNat ∈ L) := by
  have nd2 : xs.Nodup := pm.nodup_iff.mpr (by
    unfold List.Nodup
    rw [List.pairwise_map]
    exact nd.imp fun h e => h (by omega))
  have lt2 : xs.Pairwise (· < ·) := by
    unfold List.Nodup at nd2
    exact (le.and nd2).imp fun h => by omega
  refine up_eq lt2 (upF_up _) fun v => ?_
  rw [pm.mem_iff, mem_upF, List.mem_map]
  constructor
  · rintro ⟨u, hu, rfl⟩
    have := lt u hu
    exact ⟨by omega, by omega, decide_eq_true (by rw [Int.toNat_natCast]; exact hu)⟩
  · rintro ⟨h0, h1, h⟩
    exact ⟨v.toNat, of_decide_eq_true h, by omega⟩
section
variable {X : Cx} {K : PySem.W.Frag} {w : World}
theorem setV_ok {H : Hp} {h : Heap} {a : Addr} {d : Bool} {L : List Nat} {P : Program} {w' : World} (S : SetAt (byT w) h a L) (D : d = true → Dense h a) : ObjOk P w' H h a (SetV w a d L) := by
  refine ⟨⟨S, D⟩, ?_, ?_⟩
  · obtain ⟨_, _, _, ho, _⟩ := S
    exact ⟨_, ho⟩
  · rintro h1 h2 ⟨s1, d1⟩ k
    exact ⟨s1.keep k, fun e => (d1 e).keep k⟩
theorem call_setS (ek : X.K = K) (ew : X.w = w) (cm : X.calm = true) : CallR X (.type "set") (rSetS w K) := by
  subst ek; subst ew
  intro pins s σ H xs us Q I r h
  obtain ⟨l, ns, rfl, hL, sm, q⟩ := h
  obtain ⟨u, rfl, rx⟩ := vals1 r
  cases rx
  obtain ⟨its, r', pl, hz⟩ := I.list hL
  have hi := ints_of r'
  have e : (ns.map Int.toNat).map (fun v => ((v : Nat) : Int)) = ns := by
    rw [List.map_map]
    have : ∀ n ∈ ns, ((fun v => ((v : Nat) : Int)) ∘ Int.toNat) n = id n := fun n hn => by
      have := (sm n hn).1
      show ((n.toNat : Nat) : Int) = n
      omega
    rw [List.map_congr_left this, List.map_id]
  refine set_at (vals := ns.map Int.toNat) (I.ok.hd cm) pl.isList (by rw [e]; simpa using hi) (fun v hv => ?_) fun h' tk L S D mem k => ?_
  · obtain ⟨n, hn, rfl⟩ := List.mem_map.mp hv
    have := sm n hn
    omega
  · have hf : H s.heap.objs.size = none := I.hok.fresh (Nat.le_refl _)
    refine ⟨.ref s.heap.objs.size, _, I.laid (t' := tk) (o := SetV X.w s.heap.objs.size true L) (fun b o eo => k b o (Heap.lt_size eo) eo) (Nat.le_refl _) (setV_ok S fun _ => D), rfl, q _ L _ (New.mk0 hf) fun u => ?_⟩
    rw [mem u, List.mem_map]
    constructor
    · rintro ⟨n, hn, rfl⟩
      have := (sm n hn).1
      have e2 : ((n.toNat : Nat) : Int) = n := by omega
      rw [e2]; exact hn
    · intro hn
      exact ⟨_, hn, by omega⟩
theorem op_orS (ew : X.w = w) : OpR X (binaryOp .BitOr) (rOrS w) := by
  subst ew
  intro pins s σ H x y v u Q I rx ry h
  obtain ⟨a, b, L1, L2, rfl, rfl, ne, hA, hB, q⟩ := h
  cases rx
  cases ry
  obtain ⟨⟨S1, D1⟩, _⟩ := I.hok a _ hA
  obtain ⟨⟨S2, D2⟩, _⟩ := I.hok b _ hB
  refine or_at ne S1 (D1 rfl) S2 (D2 rfl) fun h' L k S mem => ?_
  have hf : H s.heap.objs.size = none := I.hok.fresh (Nat.le_refl _)
  exact ⟨.ref s.heap.objs.size, _, I.laid (t' := s.toks) (o := SetV X.w s.heap.objs.size false L) (fun b o eo => k b o eo) (Nat.le_refl _) (setV_ok S fun e => by cases e), rfl, q _ L _ (New.mk0 hf) mem⟩
theorem call_sortedS (ew : X.w = w) (cm : X.calm = true) : CallR X (.builtin "sorted") (rSortS w) := by
  subst ew
  intro pins s σ H xs us Q I r h
  obtain ⟨a, d, L, rfl, hA, q⟩ := h
  obtain ⟨u, rfl, rx⟩ := vals1 r
  cases rx
  obtain ⟨⟨S, _⟩, _⟩ := I.hok a _ hA
  obtain ⟨_, _, t, _, _, T⟩ := id S
  refine sorted_set (I.ok.hd cm) S fun h' tk p vs n ns k hp ho hi pm le => ?_
  have e := up_small pm T.nd T.lt le
  subst e
  have l16 : (upF fun v => decide (v.toNat ∈ L)).length ≤ 16 := by rw [pm.length_eq, List.length_map]; exact T.len
  have hf : H p = none := I.hok.fresh hp
  refine ⟨.ref p, _, I.laid (t' := tk) (o := .lst ((upF fun v => decide (v.toNat ∈ L)).map V.int)) k hp ⟨?_, vs, n, ints_from hi, ho⟩, rfl, q p _ (New.mk0 hf)⟩
  rw [List.length_map, sizeLine_eq]
  omega
end
end L2

set_option maxHeartbeats 4100000
namespace L2
open PySem PySem.Spec PyProof.Rows
section
variable {X : Cx} {K : PySem.W.Frag} {a b : Expr} {rest : List Expr} {pos : Pos} {ta tb : TE}
end
end L2

set_option maxHeartbeats 4100000
namespace L2
open PySem PySem.Spec PyProof.Rows
section
variable {K : PySem.W.Frag} {a : Addr} {xs : List V} {ix : List (Option Nat)} {g : TG} {tt : TT} {te : TE} {σ : St} {H1 : Hp} {Q : VK}
/-- a list comprehension over a tuple, by a function of the item -/
theorem lc_fmTN (f : V → Option V) (hx : SqT K H1 a xs) (hz : xs.length ≤ 1000)
    (hs : ∀ x H (N : Option V → Hp → Prop), x ∈ xs → Same H1 H → (∀ H', Same H1 H' → N (f x) H') → g x (capt ix σ) H fun σ2 H2 => tt σ2 H2 fun b H3 => if b = true then te σ2 H3 fun v H4 => N (some v) H4 else N none H3)
    (hd : ∀ H p H', Same H1 H → New H p (.lst (xs.filterMap f)) H' → Q (.ref p) H') : LcGoal ix g tt te σ H1 Q (Itt K a) := by
  refine ⟨fun i m ys H => m = xs.length - i ∧ i ≤ xs.length ∧ ys = (xs.take i).filterMap f ∧ Same H1 H, ⟨xs.length, by simp, Nat.zero_le _, rfl, Same.refl _⟩, ?_⟩
  rintro i m ys H ⟨rfl, hi, e, s⟩
  have q := s.tupq hx
  have z : ys.length ≤ sizeLine := by
    subst e
    refine Nat.le_trans (List.length_filterMap_le _ _) (Nat.le_trans ?_ (Nat.le_of_lt (small1000 hz)))
    rw [List.length_take]; exact Nat.min_le_right _ _
  by_cases hlt : i < xs.length
  · refine .inr ⟨⟨xs, xs[i], q, by simp [hlt]⟩, z, fun ys' H' => ys' = (xs.take (i + 1)).filterMap f ∧ Same H1 H', fun ys' H' p' => ⟨xs.length - (i + 1), by omega, rfl, hlt, p'⟩, fun x H' y => ?_⟩
    obtain ⟨e', y⟩ := y
    subst e'
    have hx' := y xs q
    have hm : x ∈ xs := List.mem_of_getElem? hx'
    obtain ⟨hil, hix⟩ := List.getElem?_eq_some_iff.mp hx'
    have et : xs.take (i + 1) = xs.take i ++ [x] := by rw [List.take_succ_eq_append_getElem hil, hix]
    refine hs x _ (fun o H' => match o with | some v => (ys ++ [v] = (xs.take (i + 1)).filterMap f ∧ Same H1 H') | none => (ys = (xs.take (i + 1)).filterMap f ∧ Same H1 H')) hm s fun H' s' => ?_
    cases ef : f x with
    | some v => exact ⟨by rw [e, et, List.filterMap_append]; simp [ef], s'⟩
    | none => exact ⟨by rw [e, et, List.filterMap_append]; simp [ef], s'⟩
  · have ei : i = xs.length := by omega
    subst ei
    refine .inl ⟨⟨xs, q, Nat.le_refl _⟩, z, fun p hp => ?_⟩
    subst e
    rw [List.take_length]
    exact hd H p _ s (New.mk0 hp)
end
section
variable {X : Cx} {K : PySem.W.Frag}
def rSlTN (K : PySem.W.Frag) : V → Option Int → Option Int → Hp → VK → Prop := fun x lo hi H Q => ∃ a xs, x = .ref a ∧ SqT K H a xs ∧
  ¬ (HT.sIx xs.length 0 lo = 0 ∧ HT.sIx xs.length xs.length hi = xs.length) ∧ ∀ p H', New H p (.tup (cutV xs lo hi)) H' → Q (.ref p) H'
theorem sl_tupN (e : X.K = K) : SlR X (rSlTN K) := by
  subst e
  exact fun pins s σ H x v vl vu lo hi sl Q I rx hs pl pu ⟨a, xs, e, h, hw, q⟩ => sl_tup pins s σ H x v vl vu lo hi sl Q I rx hs pl pu ⟨a, xs, e, h, hw, fun p hp => q p _ (New.mk0 hp)⟩
end
end L2

set_option maxHeartbeats 4100000
namespace L2
open PySem PySem.Spec PyProof.Rows
section
variable {X : Cx} {K : PySem.W.Frag}
end
end L2

set_option maxHeartbeats 4100000
namespace L2
open PySem PySem.Spec PyProof.Rows
section
variable {X : Cx} {K : PySem.W.Frag} {a b : Expr} {rest : List Expr} {pos : Pos} {ta tb : TE}
end
end L2

namespace L2
open PySem PySem.Spec PyProof.Rows

/-! ### lists of pairs as tables -/
section
variable {κ : Type} [DecidableEq κ]
def valV (kvs : List (κ × V)) (k : κ) : Option V := (kvs.find? fun kv => decide (kv.1 = k)).map (·.2)

theorem valV_pos {p : κ × V} {r : List (κ × V)} {k : κ} (e : p.1 = k) : valV (p :: r) k = some p.2 := by simp [valV, List.find?_cons, e]
theorem valV_neg {p : κ × V} {r : List (κ × V)} {k : κ} (e : ¬ p.1 = k) : valV (p :: r) k = valV r k := by simp [valV, List.find?_cons, e]


/-- raw tables of the same keys -/
theorem KV.val {kvs : List (κ × V)} {vs : List (κ × Value)} (r : KV kvs vs) (k : κ) : RelO (valV kvs k) (valueAt vs k) := by
  unfold KV at r
  induction r with
  | nil => exact True.intro
  | @cons p q ps qs h t ih =>
    obtain ⟨h1, h2⟩ := h
    by_cases e : p.1 = k
    · have e' : q.1 = k := h1.symm.trans e
      have b : valueAt (q :: qs) k = some q.2 := by simp [valueAt, List.find?_cons, e']
      rw [valV_pos e, b]; exact h2
    · have e' : ¬ q.1 = k := fun z => e (h1.trans z)
      have b : valueAt (q :: qs) k = valueAt qs k := by simp [valueAt, List.find?_cons, e']
      rw [valV_neg e, b]; exact ih
end


/-! ### a tracked dict, its keys ints and texts or tuples of these -/
theorem kV_is {P : Program} {w : World} {k : Key} {u : Value} (r : RelV (kV k) u) : (mixKind P w).is k u = true := by
  cases k with
  | inl i => obtain ⟨t, e⟩ := (show ∃ t, u = Value.int i t from r); subst e; exact mixKind_int P w i t
  | inr x => obtain ⟨t, e⟩ := (show ∃ t, u = Value.str x t from r); subst e; exact mixKind_str P w x t
theorem items_are {P : Program} {w : World} : ∀ {ks : List Key} {us : List Value}, Vals (ks.map kV) us → ItemsAre (mixKind P w) ks us
  | [], _, r => by rw [List.map_nil] at r; cases r; exact .nil
  | k :: ks, _, r => by
    rw [List.map_cons] at r
    cases r with
    | cons h t => exact .cons (kV_is h) (items_are t)

/-- raw entries of a dict with tuple keys -/
abbrev KT (H : Hp) : List (List Key × V) → List (List Key × Addr × Value) → Prop := Paired fun p q => p.1 = q.1 ∧ H q.2.1 = some (.tup (p.1.map kV)) ∧ RelV p.2 q.2.2
theorem KT.keeps {H H' : Hp} {kvs : List (List Key × V)} {xs : List (List Key × Addr × Value)} (r : KT H kvs xs) (ht : ∀ b ys, H b = some (.tup ys) → H' b = some (.tup ys)) : KT H' kvs xs :=
  Paired.mapP r fun _ _ z => ⟨z.1, ht _ _ z.2.1, z.2.2⟩

section
variable {P : Program} {w : World} {H : Hp} {h : Heap} {a : Addr}
/-- a tracked tuple of ints and texts is a key -/
theorem key_of {ks : List Key} (ok : HOk P w H h) (e : H a = some (.tup (ks.map kV))) : (tupleKind (mixKind P w)).is h ks a := by
  obtain ⟨_, its, r, o, h1, h2, n, h3⟩ := (show ObjOk P w H h a (.tup (ks.map kV)) from ok a _ e)
  exact ⟨o, its.toArray, n, h1, h2, h3, by simpa using items_are r⟩
end



section
variable {X : Cx} {pins : List (Addr × Obj)} {σ : St} {H : Hp} {s : Shared} {a : Addr} {y v : V} {u r : Value} {o : Option V} {A : Around} {E : Value → Shared → Prop}

theorem Inv.big (I : Inv X pins σ H s) : sysModules < s.heap.objs.size := by
  have h : mainGlobals < s.heap.objs.size := (I.mod.glob.keeps I.bk).lt
  exact Nat.lt_trans (by decide) h

end

section
variable {X : Cx} {pins : List (Addr × Obj)} {σ : St} {H : Hp} {s : Shared} {a : Addr} {kvs : List (Key × V)} {k : Key} {u : Value} {A : Around} {E : Value → Shared → Prop}
end


/-! ### readings and rules -/
/-- the element of a subscription, not a slice -/
def NoSl (i : Expr) : Prop := ∀ ov iv, subscripted i false ov iv = operate [ov, iv] (getItem ov iv)
theorem subD_of {prog : Program} {w : World} {A : Around} {E : Value → Shared → Prop} {s : Shared} {env : Env} {value slice : Expr} {pos : Pos} {T id : String} {Q : Value → Shared → Prop}
    (hl : typeLookup (.type T) "__getitem__" = pure (some (.builtin id))) (hs : NoSl slice)
    (h : wpAny (model prog w) A (eval value env) (fun o s₁ => wpAny (model prog w) A (eval slice env) (fun i s₂ => s₂.TypeIs o T ∧ wpAny (model prog w) A (getItem o i) Q E s₂) E s₁) E s) :
    wpAny (model prog w) A (eval (.Subscript value slice pos) env) Q E s := by
  refine Subscript_ (wpAny_mono h (fun o s₁ h₁ => wpAny_mono h₁ (fun i s₂ h₂ => ?_) fun _ _ x => x) fun _ _ x => x)
  obtain ⟨hT, h₂⟩ := h₂
  unfold subscriptTail
  refine wpAny_bind ?_
  rw [getitemInPython_of_ne hT.not_modules]
  refine wpAny_bind (wpAny_specialOf hT hl ?_)
  have fin : wpAny (model prog w) A (subscripted slice false o i) (fun r s₃ => wpAny (model prog w) A (letTemporaryGo value o r >>= fun _ => pure r) Q E s₃) E s₂ := by
    rw [hs o i]
    exact wpAny_operating (wpAny_mono h₂ (fun r s₃ h₃ => wpAny_bind (wpAny_letTemporaryGo (wpAny_pure h₃))) fun _ _ x => x)
  first
    | exact wpAny_pure (wpAny_bind fin)
    | exact wpAny_bind (wpAny_pure (wpAny_bind fin))
    | exact wpAny_bind fin



section
variable {X : Cx} {o i e value : Expr} {pos pos' tpos : Pos} {td ty tv : TE}
end


/-! ### displays -/
section
variable {X : Cx} {pos : Pos}
end




end L2

namespace L2
open PySem PySem.Spec PyProof.Rows
section
variable {X : Cx}
end
end L2

namespace L2
open PySem PySem.Spec PyProof.Rows
theorem us1 {A : Type} {us : List A} {P : List A → Prop} (h : us.length = 1) (f : ∀ a, P [a]) : P us := by
  match us, h with
  | [a], _ => exact f a
theorem us2 {A : Type} {us : List A} {P : List A → Prop} (h : us.length = 2) (f : ∀ a b, P [a, b]) : P us := by
  match us, h with
  | [a, b], _ => exact f a b
theorem us3 {A : Type} {us : List A} {P : List A → Prop} (h : us.length = 3) (f : ∀ a b c, P [a, b, c]) : P us := by
  match us, h with
  | [a, b, c], _ => exact f a b c
theorem us4 {A : Type} {us : List A} {P : List A → Prop} (h : us.length = 4) (f : ∀ a b c d, P [a, b, c, d]) : P us := by
  match us, h with
  | [a, b, c, d], _ => exact f a b c d
theorem dn_mk1 {K : PySem.W.Frag} {h : Heap} {mg : Str → Option Value} {x : Str} {st : Stmt} {ps : List Str} {f : Addr} {oc : Value} {od an : Option Addr} {osl : Array (Option Value)} {kV doc pm cdv ct : Value} (X : K.In h) (G : h.Ns mainGlobals mg)
    (a : PySem.W.nsIn K mainGlobals x = some (some (.ref f))) (l : K.lookup f = some ⟨oc, od, .func (PySem.W.fnOf x x (defArgs st) (defBody st) (defScope st) .none kV doc pm an cdv ct), osl⟩) (c : PySem.W.codeIn K cdv x = true) (k : PySem.W.keepIn K (.ref f) = true)
    (hp : ps.length = 1)
    (hb : ∀ (kV doc pm : Value) (an : Option Addr) (cdv ct : Value) (u0 : Value), bindArgs (PySem.W.fnOf x x (defArgs st) (defBody st) (defScope st) .none kV doc pm an cdv ct) ⟨[u0], []⟩ = pure (ps.zip [u0])) :
    Nonempty (Dn K mg x st ps) :=
  dn_mk X G a l c k fun kV doc pm an cdv ct us hl => us1 (P := fun us => bindArgs (PySem.W.fnOf x x (defArgs st) (defBody st) (defScope st) .none kV doc pm an cdv ct) ⟨us, []⟩ = pure (ps.zip us)) (hl.trans hp) fun u0 => hb kV doc pm an cdv ct u0
theorem dn_mk2 {K : PySem.W.Frag} {h : Heap} {mg : Str → Option Value} {x : Str} {st : Stmt} {ps : List Str} {f : Addr} {oc : Value} {od an : Option Addr} {osl : Array (Option Value)} {kV doc pm cdv ct : Value} (X : K.In h) (G : h.Ns mainGlobals mg)
    (a : PySem.W.nsIn K mainGlobals x = some (some (.ref f))) (l : K.lookup f = some ⟨oc, od, .func (PySem.W.fnOf x x (defArgs st) (defBody st) (defScope st) .none kV doc pm an cdv ct), osl⟩) (c : PySem.W.codeIn K cdv x = true) (k : PySem.W.keepIn K (.ref f) = true)
    (hp : ps.length = 2)
    (hb : ∀ (kV doc pm : Value) (an : Option Addr) (cdv ct : Value) (u0 u1 : Value), bindArgs (PySem.W.fnOf x x (defArgs st) (defBody st) (defScope st) .none kV doc pm an cdv ct) ⟨[u0, u1], []⟩ = pure (ps.zip [u0, u1])) :
    Nonempty (Dn K mg x st ps) :=
  dn_mk X G a l c k fun kV doc pm an cdv ct us hl => us2 (P := fun us => bindArgs (PySem.W.fnOf x x (defArgs st) (defBody st) (defScope st) .none kV doc pm an cdv ct) ⟨us, []⟩ = pure (ps.zip us)) (hl.trans hp) fun u0 u1 => hb kV doc pm an cdv ct u0 u1
theorem dn_mk3 {K : PySem.W.Frag} {h : Heap} {mg : Str → Option Value} {x : Str} {st : Stmt} {ps : List Str} {f : Addr} {oc : Value} {od an : Option Addr} {osl : Array (Option Value)} {kV doc pm cdv ct : Value} (X : K.In h) (G : h.Ns mainGlobals mg)
    (a : PySem.W.nsIn K mainGlobals x = some (some (.ref f))) (l : K.lookup f = some ⟨oc, od, .func (PySem.W.fnOf x x (defArgs st) (defBody st) (defScope st) .none kV doc pm an cdv ct), osl⟩) (c : PySem.W.codeIn K cdv x = true) (k : PySem.W.keepIn K (.ref f) = true)
    (hp : ps.length = 3)
    (hb : ∀ (kV doc pm : Value) (an : Option Addr) (cdv ct : Value) (u0 u1 u2 : Value), bindArgs (PySem.W.fnOf x x (defArgs st) (defBody st) (defScope st) .none kV doc pm an cdv ct) ⟨[u0, u1, u2], []⟩ = pure (ps.zip [u0, u1, u2])) :
    Nonempty (Dn K mg x st ps) :=
  dn_mk X G a l c k fun kV doc pm an cdv ct us hl => us3 (P := fun us => bindArgs (PySem.W.fnOf x x (defArgs st) (defBody st) (defScope st) .none kV doc pm an cdv ct) ⟨us, []⟩ = pure (ps.zip us)) (hl.trans hp) fun u0 u1 u2 => hb kV doc pm an cdv ct u0 u1 u2
theorem dn_mk4 {K : PySem.W.Frag} {h : Heap} {mg : Str → Option Value} {x : Str} {st : Stmt} {ps : List Str} {f : Addr} {oc : Value} {od an : Option Addr} {osl : Array (Option Value)} {kV doc pm cdv ct : Value} (X : K.In h) (G : h.Ns mainGlobals mg)
    (a : PySem.W.nsIn K mainGlobals x = some (some (.ref f))) (l : K.lookup f = some ⟨oc, od, .func (PySem.W.fnOf x x (defArgs st) (defBody st) (defScope st) .none kV doc pm an cdv ct), osl⟩) (c : PySem.W.codeIn K cdv x = true) (k : PySem.W.keepIn K (.ref f) = true)
    (hp : ps.length = 4)
    (hb : ∀ (kV doc pm : Value) (an : Option Addr) (cdv ct : Value) (u0 u1 u2 u3 : Value), bindArgs (PySem.W.fnOf x x (defArgs st) (defBody st) (defScope st) .none kV doc pm an cdv ct) ⟨[u0, u1, u2, u3], []⟩ = pure (ps.zip [u0, u1, u2, u3])) :
    Nonempty (Dn K mg x st ps) :=
  dn_mk X G a l c k fun kV doc pm an cdv ct us hl => us4 (P := fun us => bindArgs (PySem.W.fnOf x x (defArgs st) (defBody st) (defScope st) .none kV doc pm an cdv ct) ⟨us, []⟩ = pure (ps.zip us)) (hl.trans hp) fun u0 u1 u2 u3 => hb kV doc pm an cdv ct u0 u1 u2 u3
end L2

namespace L2
open PySem PySem.Spec PyProof.Rows
/-- the module's dict of how many things a step uses up -/
def usedF : List (Key × V) := [(.inr "leaf", .int 0), (.inr "in", .int 1), (.inr "tie", .int 1), (.inr "out", .int 1), (.inr "join", .int 2)]
structure Used (w : World) (K : PySem.W.Frag) (mg : Str → Option Value) where
  d : Addr
  m : mg "USED" = some (.ref d)
  es : Array DictEntry
  ep : Nat
  l : K.lookup d = some ⟨.type "dict", none, .dict es ep, #[]⟩
  ks : ∃ t0 t1 t2 t3 t4 t5 t6 t7 t8 t9 : Tok, es = #[⟨PyData.keyHash w.params "leaf", .str "leaf" t0, .int 0 t1⟩, ⟨PyData.keyHash w.params "in", .str "in" t2, .int 1 t3⟩, ⟨PyData.keyHash w.params "tie", .str "tie" t4, .int 1 t5⟩, ⟨PyData.keyHash w.params "out", .str "out" t6, .int 1 t7⟩, ⟨PyData.keyHash w.params "join", .str "join" t8, .int 2 t9⟩]
theorem used_mk {w : World} {K : PySem.W.Frag} {h : Heap} {mg : Str → Option Value} {d : Addr} {es : Array DictEntry} {ep : Nat} (X : K.In h) (G : h.Ns mainGlobals mg)
    (a : PySem.W.nsIn K mainGlobals "USED" = some (some (.ref d))) (l : K.lookup d = some ⟨.type "dict", none, .dict es ep, #[]⟩)
    (ks : ∃ t0 t1 t2 t3 t4 t5 t6 t7 t8 t9 : Tok, es = #[⟨PyData.keyHash w.params "leaf", .str "leaf" t0, .int 0 t1⟩, ⟨PyData.keyHash w.params "in", .str "in" t2, .int 1 t3⟩, ⟨PyData.keyHash w.params "tie", .str "tie" t4, .int 1 t5⟩, ⟨PyData.keyHash w.params "out", .str "out" t6, .int 1 t7⟩, ⟨PyData.keyHash w.params "join", .str "join" t8, .int 2 t9⟩]) : Nonempty (Used w K mg) :=
  ⟨⟨d, PySem.W.mg_of X G a, es, ep, l, ks⟩⟩
theorem Used.dict {P : Program} {w : World} {K : PySem.W.Frag} {mg : Str → Option Value} {h : Heap} (U : Used w K mg) (X : K.In h) : ∃ vs, KV usedF vs ∧ h.DictOf (mixKind P w) U.d vs := by
  obtain ⟨t0, t1, t2, t3, t4, t5, t6, t7, t8, t9, e⟩ := U.ks
  refine ⟨[(.inr "leaf", .int 0 t1), (.inr "in", .int 1 t3), (.inr "tie", .int 1 t5), (.inr "out", .int 1 t7), (.inr "join", .int 2 t9)], ?_, _, U.es, U.ep, X _ _ U.l, ⟨rfl, rfl, rfl⟩, rfl, ?_, ?_, ?_⟩
  · exact .cons ⟨rfl, t1, rfl⟩ (.cons ⟨rfl, t3, rfl⟩ (.cons ⟨rfl, t5, rfl⟩ (.cons ⟨rfl, t7, rfl⟩ (.cons ⟨rfl, t9, rfl⟩ .nil))))
  · rw [e]
    intro x hx
    simp only [Array.mem_def, List.mem_cons, List.not_mem_nil, or_false] at hx
    rcases hx with rfl | rfl | rfl | rfl | rfl
    · exact ⟨.inr "leaf", mixKind_str P w _ _, rfl⟩
    · exact ⟨.inr "in", mixKind_str P w _ _, rfl⟩
    · exact ⟨.inr "tie", mixKind_str P w _ _, rfl⟩
    · exact ⟨.inr "out", mixKind_str P w _ _, rfl⟩
    · exact ⟨.inr "join", mixKind_str P w _ _, rfl⟩
  · rw [e]
    exact .cons (mixKind_str P w _ _) rfl (.cons (mixKind_str P w _ _) rfl (.cons (mixKind_str P w _ _) rfl (.cons (mixKind_str P w _ _) rfl (.cons (mixKind_str P w _ _) rfl .nil))))
  · show ([.inr "leaf", .inr "in", .inr "tie", .inr "out", .inr "join"] : List Key).Nodup
    decide +kernel
def tUsed (ty : TE) : TE := fun σ H Q => ty σ H fun y H1 => ∃ k v, y = kV k ∧ valV usedF k = some v ∧ Q v H1
section
variable {X : Cx} {i : Expr} {pos np : Pos} {ty : TE}
theorem pe_used (U : Used X.w X.K X.mg) (hg : Gl X "USED") (hi : PE X i ty) (hs : NoSl i) : PE X (.Subscript (.Name "USED" np) i pos) (tUsed ty) := by
  intro pins s σ H Q I h
  refine subD_of PySem.F.slot_dict_getitem.lookup hs (ld_glob I hg U.m (thn (hi pins s σ H _ I h) fun iv s2 ⟨y, H2, I2, ry, k, v, ey, hv, q2⟩ => ?_))
  subst ey
  obtain ⟨vs, rel, dd⟩ := U.dict (P := X.prog) I2.kIn
  obtain ⟨w', hw, rw'⟩ := RelO.some_of (v := v) (o := valueAt vs k) (by rw [← hv]; exact rel.val k)
  exact ⟨dd.typeIs, wpAny_getItem_of (kV_is ry) dd.mapOf hw ⟨v, H2, I2.tok _, rw', q2⟩⟩
end
end L2

namespace L2
open PySem PySem.Spec PySem.Calls PyProof.Rows PySem.Builtin

/-! ### an exception whose context is none -/
def Ctx0 (h : Heap) (e : Addr) : Prop := ∃ o vs, h.get? e = some o ∧ o.data = .fields vs ∧ vs[2]? = some .none
theorem Ctx0.keep {h g : Heap} {e : Addr} (c : Ctx0 h e) (k : ∀ o, h.get? e = some o → g.get? e = some o) : Ctx0 g e := by
  obtain ⟨o, vs, a, b, d⟩ := c
  exact ⟨o, vs, k o a, b, d⟩
theorem Ctx0.at {h : Heap} {e : Addr} (c : Ctx0 h e) {o : Obj} {vs : Array Value} (a : h.get? e = some o) (b : o.data = .fields vs) : vs[2]? = some .none := by
  obtain ⟨o', vs', a', b', d⟩ := c
  rw [a] at a'
  cases a'
  rw [b] at b'
  cases b'
  exact d
section
variable {M : Model} {A : Around} {E : Value → Shared → Prop} {s : Shared} {base : Heap} {env : Env} {outer : List Env} {L e : Addr} {cls a0 : Value}
/-- the row of the traceback is written -/
theorem entryX {ob : Obj} {fs : Array Value} {first : Value} {nx : Bool} {Q : Unit → Shared → Prop} (fr : A.frames = some (env :: outer)) (ff : s.heap.FunFrames base (env :: outer)) (ef : env.frame = some L)
    (ge : s.heap.get? e = some ob) (st : base.StaysIn s.heap) (nb : base.get? e = none) (dv : ob.data = .fields fs) (big : 1 < fs.size) (arg : fs[0]? = some a0) (cx : fs[2]? = some .none)
    (k : ∀ g, Heap.NotedW base (env :: outer) e ob.cls a0 (rawInt L) s.heap g → Ctx0 g e → Q () { s with heap := g }) :
    wpAny M A (do let fo ← frameOf env; let pl ← entryPlaceOf L nx; let tb ← EntryCells.newEntry first fo .none (rawInt L) .none pl; setField (.ref e) 1 tb) Q E s := by
  have far : e ∉ (env :: outer).filterMap (·.frame) := fun z => by
    obtain ⟨_, o, ho, nf⟩ := ff.mem z
    rw [ge] at ho
    cases ho
    exact nf fs dv
  refine wpAny_bind (wpAny_frameOf_fun fr ff ef fun g1 so => ?_)
  refine wpAny_bind (wpAny_entryPlaceOf fun pl hp => ?_)
  unfold EntryCells.newEntry newFields
  refine wpAny_bind (wpAny_newObj_type ?_ (hp.sizeOk5 _ _ _ _ _))
  generalize hN : ({ cls := .type "traceback", dict := none, data := .fields ([first, .ref L, .none, rawInt L, .none] ++ (if pl.isEmpty then List.replicate 6 Value.none else pl)).toArray } : Obj) = nw
  have ge1 : g1.get? e = some ob := (so.2.1 e far).trans ge
  have st1 : base.StaysIn g1 := fun b o q => (so.2.1 b fun z => by rw [(ff.mem z).1] at q; cases q).trans (st b o q)
  have ge2 : (g1.push nw).get? e = some ob := Heap.get?_push_of_some nw ge1
  refine wpAny_setField ge2 dv big ?_
  have ne : g1.objs.size ≠ e := Nat.ne_of_gt (Heap.lt_size ge1)
  have d3 := Obj.data_mapFields dv (·.setIfInBounds 1 (Value.ref g1.objs.size))
  have g3 := Heap.get?_update_self (Obj.mapFields (·.setIfInBounds 1 (Value.ref g1.objs.size))) ge2 (Obj.isFreed_of_fields d3)
  have fresh : nw.isFreed = false := by rw [← hN]; rfl
  have t3 : ((g1.push nw).update e (Obj.mapFields (·.setIfInBounds 1 (Value.ref g1.objs.size)))).get? g1.objs.size = some nw := (Heap.get?_update_other _ _ (Ne.symm ne)).trans (Heap.get?_push_size g1 fresh)
  have stay : ∀ b o, b ≠ e → g1.get? b = some o → ((g1.push nw).update e (Obj.mapFields (·.setIfInBounds 1 (Value.ref g1.objs.size)))).get? b = some o := fun b o z q => by
    rw [Heap.get?_update_other _ _ (Ne.symm z)]
    exact Heap.get?_push_of_some nw q
  have other : ∀ b o, s.heap.get? b = some o → (∀ vs, o.data ≠ .fields vs) → b ≠ e := fun b o q nf z => by
    rw [z, ge] at q
    cases q
    exact nf fs dv
  refine k _ ⟨fun b o q => stay b o (fun z => by rw [z, nb] at q; cases q) (st1 b o q), ff.of_keeps fun b o q nf => ?_, ?_, fun b o q nf => ?_⟩ ⟨_, _, g3, d3, ?_⟩
  · obtain ⟨sl, q1⟩ := so.2.2 b o q
    exact ⟨_, stay b _ (other b o q nf) q1, rfl⟩
  · refine ⟨_, _, g1.objs.size, nw, ([first, .ref L, .none, rawInt L, .none] ++ (if pl.isEmpty then List.replicate 6 Value.none else pl)).toArray, g3, ⟨Obj.cls_mapFields _ _, ?_⟩, d3, ?_, st1.fresh, ne, t3, ?_, ?_⟩
    · rw [Array.getElem?_setIfInBounds_ne (by decide)]
      exact arg
    · simp [big]
    · rw [← hN]
    · first | (simp; done) | (rcases hp with rfl | ⟨_, _, _, _, _, _, _, rfl⟩ <;> simp)
  · obtain ⟨sl, q1⟩ := so.2.2 b o q
    exact ⟨sl, stay b _ (other b o q nf) q1⟩
  · rw [Array.getElem?_setIfInBounds_ne (by decide)]
    exact cx
/-- the mark is taken off -/
theorem flightX {l : List Env} {fl : Value} {Q : Unit → Shared → Prop} (st : base.StaysIn s.heap) (ff : s.heap.FunFrames base l) (tr : s.heap.TracedAtW base e cls a0 fl) (c : Ctx0 s.heap e)
    (k : ∀ g, base.StaysIn g → g.FunFrames base l → g.TracedW base e cls a0 → s.heap.UpToSlots g → Ctx0 g e → Q () { s with heap := g }) : wpAny M A (setFlight (.ref e) none) Q E s := by
  obtain ⟨ob, fs, T, oT, ts, x1, x2, x3, x4, x5, x6, x7, x8, x9⟩ := tr
  have big : 3 < ts.size := (Array.getElem?_eq_some_iff.mp x9).1
  have far : ∀ b o, s.heap.get? b = some o → (∀ vs, o.data ≠ .fields vs) → b ≠ T := fun b o q nf z => by
    rw [z, x7] at q
    cases q
    exact nf ts x8
  unfold setFlight
  refine wpAny_bind (wpAny_field x1 x3 x4 ?_)
  rw [if_pos (by simp)]
  refine wpAny_setField x7 x8 big (k _ (fun b o q => ?_) (ff.of_keeps fun b o q nf => ⟨o, ?_, rfl⟩) ?_ (fun b o q nf => ⟨o.slots, ?_⟩) (c.keep fun o q => ?_))
  · exact (Heap.get?_update_other _ _ fun z => by rw [← z, x5] at q; cases q).trans (st b o q)
  · exact (Heap.get?_update_other _ _ (Ne.symm (far b o q nf))).trans q
  · exact ⟨ob, fs, T, _, _, (Heap.get?_update_other _ _ x6).trans x1, x2, x3, x4, x5, x6, Heap.get?_update_self _ x7 (Obj.isFreed_of_fields (Obj.data_mapFields x8 _)), Obj.data_mapFields x8 _, by simp [big]⟩
  · exact (Heap.get?_update_other _ _ (Ne.symm (far b o q nf))).trans q
  · exact (Heap.get?_update_other _ _ x6).trans q
/-- the frame is noted where the exception flies -/
theorem noteX {Q : Unit → Shared → Prop} (fr : A.frames = some (env :: outer)) (ef : env.frame = some L) (fly : Heap.FlyingW base (env :: outer) e cls a0 s.heap) (c : Ctx0 s.heap e)
    (k : ∀ g, Heap.HeldW base (env :: outer) e cls a0 L g → s.heap.UpToSlots g → Ctx0 g e → Q () { s with heap := g }) : wpAny M A (noteFrame (.ref e) env) Q E s := by
  obtain ⟨st, nb, ff, ob, fs, T, oT, ts, x1, ⟨x2, x2'⟩, x3, x4, x5, x6, x7, x8, x9⟩ := fly
  subst x2
  have far : ∀ b o, s.heap.get? b = some o → (∀ vs, o.data ≠ .fields vs) → b ≠ T := fun b o q nf z => by
    rw [z, x7] at q
    cases q
    exact nf ts x8
  unfold noteFrame
  simp only [ef]
  refine wpAny_bind (wpAny_field x1 x3 x4 ?_)
  rw [if_pos (by simp)]
  refine wpAny_bind (wpAny_field x7 x8 x9 ?_)
  rw [if_neg (by simp [rawInt])]
  refine wpAny_bind (wpAny_setField x7 x8 (Array.getElem?_eq_some_iff.mp x9).1 ?_)
  refine entryX fr (ff.of_keeps fun b o q nf => ⟨o, (Heap.get?_update_other _ _ (Ne.symm (far b o q nf))).trans q, rfl⟩) ef ((Heap.get?_update_other _ _ x6).trans x1) (fun b o q => (Heap.get?_update_other _ _ fun z => by rw [← z, x5] at q; cases q).trans (st b o q)) nb x3 (Array.getElem?_eq_some_iff.mp x4).1 x2' (c.at x1 x3) fun g ⟨y1, y2, y3, y4⟩ cg => ?_
  exact k g ⟨y1, nb, y2, y3⟩ (fun b o q nf => y4 b o ((Heap.get?_update_other _ _ (Ne.symm (far b o q nf))).trans q) nf) cg
theorem landX {l : List Env} {Q : Unit → Shared → Prop} (h : Heap.HeldW base l e cls a0 L s.heap) (c : Ctx0 s.heap e) (k : ∀ g, Heap.FlyingW base l e cls a0 g → s.heap.UpToSlots g → Ctx0 g e → Q () { s with heap := g }) : wpAny M A (setFlight (.ref e) none) Q E s := by
  obtain ⟨x1, x2, x3, x4⟩ := h
  exact flightX x1 x3 x4 c fun g y1 y2 y3 y4 y5 => k g ⟨y1, x2, y2, y3⟩ y4 y5
/-- it leaves a def -/
theorem leaveX {Q : Unit → Shared → Prop} (fr : A.frames = some (env :: outer)) (ef : env.frame = some L) (fly : Heap.FlyingW base (env :: outer) e cls a0 s.heap) (c : Ctx0 s.heap e)
    (k : ∀ g, Heap.FlyingW base outer e cls a0 g → s.heap.UpToSlots g → Ctx0 g e → Q () { s with heap := g }) : wpAny M A (leaving env (.ref e)) Q E s := by
  unfold leaving
  refine wpAny_bind (noteX fr ef fly c fun g h u cg => landX h cg fun g2 f2 u2 c2 => ?_)
  obtain ⟨y1, y2, ⟨_, _, y3⟩, y4⟩ := f2
  exact k g2 ⟨y1, y2, y3, y4⟩ (u.trans u2) c2
theorem flyX_again {l : List Env} {Q : Unit → Shared → Prop} (fly : Heap.FlyingW base l e cls a0 s.heap) (c : Ctx0 s.heap e) (k : ∀ g, Heap.FlyingW base l e cls a0 g → s.heap.UpToSlots g → Ctx0 g e → Q () { s with heap := g }) : wpAny M A (setFlight (.ref e) none) Q E s := by
  obtain ⟨x1, x2, x3, x4⟩ := fly
  exact flightX x1 x3 x4.at c fun g y1 y2 y3 y4 y5 => k g ⟨y1, x2, y2, y3⟩ y4 y5
/-- a new exception leaves the def that made it -/
theorem madeX {h : Heap} {args : List Value} {Q : Unit → Shared → Prop} (fr : A.frames = some (env :: outer)) (ef : env.frame = some L) (st : base.StaysIn h) (ff : h.FunFrames base (env :: outer)) (m : Heap.MadeExcOf h s.heap e cls args)
    (k : ∀ g t, Heap.FlyingW base outer e cls (.ref t) g → s.heap.UpToSlots g → Ctx0 g e → Q () { s with heap := g }) : wpAny M A (leaving env (.ref e)) Q E s := by
  obtain ⟨t, x1, x2, x3⟩ := m.there
  have out : ∀ b, h.get? b = none → base.get? b = none := fun b q => by
    cases z : base.get? b with
    | none => rfl
    | some o =>
      have := st b o z
      rw [q] at this
      cases this
  unfold leaving noteFrame
  simp only [ef]
  refine wpAny_bind (wpAny_bind (wpAny_field x1 rfl (x := .none) rfl ?_))
  rw [if_neg (by decide)]
  refine wpAny_mono (entryX (a0 := .ref t) fr (ff.of_keeps fun b o q _ => ⟨o, m.keeps b o q, rfl⟩) ef x1 (fun b o q => m.keeps b o (st b o q)) (out e m.new) rfl (by simp) rfl rfl fun g ⟨y1, y2, y3, y4⟩ cg => ?_) (fun _ _ z => z) (fun _ _ z => z)
  refine flightX y1 y2 y3 cg fun g2 z1 z2 z3 z4 z5 => ?_
  obtain ⟨_, _, z2'⟩ := z2
  exact k g2 t ⟨z1, out e m.new, z2', z3⟩ (Heap.UpToSlots.trans y4 z4) z5
end
end L2

namespace L2
open PySem PySem.Spec PySem.Calls PyProof.Rows PySem.Builtin PySem.Builtin.ObjectAttr

abbrev veBases : List Value := [.type "ValueError", .type "Exception", .type "BaseException", .type "object"]
/-- what the fragment tells of a class of exceptions of the text's own -/
structure Xk (K : PySem.W.Frag) (C : Addr) : Prop where
  ga : PySem.W.findIn K (.ref C) "__getattribute__" = some (some (.builtin "BaseException.__getattribute__"))
  gh : PySem.W.findIn K (.ref C) "__getattr__" = some none
  ca : PySem.W.findIn K (.ref C) "__class__" = some (some (.builtin "object.__class__"))
  gt : PySem.W.specialIn K (.builtin "object.__class__") "__get__" = some (some (.builtin "getset_descriptor.__get__"))
  tk : PySem.W.takesIn K (.builtin "object.__class__") = some true
  mo : PySem.W.mroIn K C (.type "object") = some true
  mb : PySem.W.mroIn K C (.type "BaseException") = some true
  ex : PySem.W.excIn K C veBases "ValueError.__new__" = true

/-- an object of that class -/
def AtC (x C : Addr) (h : Heap) : Prop := ∃ o, h.get? x = some o ∧ o.cls = .ref C
section
variable {prog : Program} {w : World} {A : Around} {E : Value → Shared → Prop} {s : Shared} {K : PySem.W.Frag} {x C : Addr}
theorem AtC.type {M : Model} {h : Heap} (I : AtC x C h) : PySem.W.Looks M h (typeOf (.ref x)) (.ref C) := by
  obtain ⟨o, h1, h2⟩ := I
  exact h2 ▸ (PySem.W.Looks.ld h1).andThen .now
theorem xfind {M : Model} {h : Heap} (X : K.In h) (k : Xk K C) : PySem.W.Looks M h (find (.ref x) (.ref C) "__class__") (.bind (.builtin "getset_descriptor.__get__") (.builtin "object.__class__")) := by
  have L3 := PySem.W.looks_takesIn (M := M) X k.tk
  refine (PySem.W.looks_findIn X k.ca).andThen ((show PySem.W.Looks M h (getOf (some (.builtin "object.__class__"))) _ from PySem.W.looks_specialIn X k.gt).andThen ?_)
  have q : PySem.W.Looks M h (dataDescriptor? (some (.builtin "object.__class__")) (some (.builtin "getset_descriptor.__get__"))) (some (.builtin "getset_descriptor.__get__", .builtin "object.__class__")) := L3.andThen .now
  exact q.andThen (PySem.W.Looks.tag .now)
theorem xclass_get {R : Result → Shared → Prop} {tp : Value} (X : K.In s.heap) (I : AtC x C s.heap) (k : Xk K C)
    (h : R (.ok (.ret (.ref C))) s) : codeAny (model prog w) A (.call (.builtin "getset_descriptor.__get__") ⟨[.builtin "object.__class__", .ref x, tp], []⟩) R s := by
  obtain ⟨hp, g, dr, t, os⟩ := s
  have L0 := I.type (M := model prog w)
  have L1 := PySem.W.looks_mroIn (M := model prog w) X k.mo
  have gs := PySem.W.KF.slot_gs
  refine codeAny_call_builtin gs.plain PySem.W.KF.entry_gs (gs.check _ _ _ _ _ _ _ _ PySem.W.KF.type_class (PySem.W.KF.args_gs _ _ _) ?_)
  unfold Builtin.«getset_descriptor.__get__»; unfold Builtin.Getset_descriptor.descrGet
  rw [PySem.W.dga_obj]; refine wpAny_bind (wpAny_pure ?_)
  unfold Builtin.Getset_descriptor.descrGetter Builtin.Getset_descriptor.descrCheckInstance Builtin.Getset_descriptor.descrNameAndClass isInstance
  simp only [PySem.W.KF.owner_class]; repeat lk
  refine ⟨Code.quiet_builtin _ (by decide +kernel), codeAny_builtin PySem.W.KF.entry_class ?_⟩
  unfold Builtin.«object.__class__»; unfold shownTypeOf; repeat lk
  exact h
/-- x.__class__ -/
theorem xclass {Q : Option Value → Shared → Prop} (X : K.In s.heap) (I : AtC x C s.heap) (k : Xk K C) (h : Q (some (.ref C)) { s with toks := s.toks + 1 }) :
    wpAny (model prog w) A (getAttr? (.ref x) "__class__") Q E s := by
  obtain ⟨hp, g, dr, t, os⟩ := s
  have L0 := I.type (M := model prog w)
  have L1 := PySem.W.looks_findIn (M := model prog w) X k.ga
  have L2 := PySem.W.looks_findIn (M := model prog w) X k.gh
  have L3 := xfind (M := model prog w) (x := x) X k
  have L4 := PySem.W.looks_mroIn (M := model prog w) X k.mb
  have ga := PySem.F.attr_ValueError.ga
  unfold getAttr? getAttrBy? getAttrBy
  refine wpAny_bind (wpAny_mkText (wpAny_bind (wpAny_attempt (wpAny_holding (wpAny_bind (L0.at (wpAny_bind (L1.at ?_))))))))
  show wpAny _ _ (getAttrByItsOwn _ _ _ _ _ _) _ _ _
  unfold getAttrByItsOwn hookBefore
  refine wpAny_bind ?_
  show wpAny _ _ (typeLookup (.ref C) "__getattr__") _ _ _
  refine L2.at ?_
  refine wpAny_bind (wpAny_attempt (wpAny_holding ?_))
  show wpAny _ _ (boundAndCalled _ _ _) _ _ _
  unfold boundAndCalled
  rw [ga.bind]
  refine wpAny_bind (wpAny_pure ?_)
  refine wpAny_call (codeAny_call_builtin ga.plain PySem.F.entry_bexc_ga ?_)
  have hk : builtinKind "BaseException.__getattribute__" = some .slot := by decide +kernel
  have hsp : splitId "BaseException.__getattribute__" = some ("BaseException", "__getattribute__") := by decide +kernel
  have LI : PySem.W.Looks (model prog w) hp (isInstance (.ref x) (.type "BaseException")) true := L0.andThen L4
  have ha := PySem.F.args_bexc_ga (.ref x) (.str "__class__" t)
  simp only [checkBuiltinCall, hk, hsp]
  refine wpAny_bind (LI.at ?_)
  repeat lk
  refine wpAny_run (c := .call _ _) (h := none) (xclass_get (s := ⟨hp, g, dr, t + 1, os⟩) X I k ?_)
  dsimp only
  refine wpAny_pure (wpAny_pure ?_)
  dsimp only
  exact wpAny_pure (wpAny_pure h)
theorem xkit (k : Xk K C) : PySem.W.KitX K (.ref x) (.ref C) (AtC x C) where
  ty := fun _ _ _ I => I.type
  it := fun M h X _ => by
    have q := k.mo
    unfold PySem.W.mroIn at q
    obtain ⟨cd, hc, _⟩ := Option.bind_eq_some_iff.mp q
    unfold PySem.W.clsIn at hc
    split at hc
    · rename_i c' d' cd' sl' ho
      intro A' Q' E' s' kk qq
      unfold isType; unfold loadHead
      exact wpAny_bind (wpAny_loadPart (kk _ _ (X _ _ ho)) (wpAny_pure qq))
    · cases hc
  ne := fun h tp dd its n sl X htp => by
    have q := k.mo
    unfold PySem.W.mroIn at q
    obtain ⟨cd, hc, _⟩ := Option.bind_eq_some_iff.mp q
    refine Bool.eq_false_iff.mpr fun z => ?_
    have e : C = tp := Value.ref.inj (beq_iff_eq.mp z)
    subst e
    unfold PySem.W.clsIn at hc
    split at hc
    · rename_i ho
      cases (X _ _ ho).symm.trans htp
    · cases hc
  ca := fun X I q => xclass X I k q
end
/-- a caught exception of the class at C -/
def ExcO (p C : Addr) : HO := .ext (fun h => AtC p C h ∧ Ctx0 h p)
theorem excO_ok {P : Program} {w : World} {H : Hp} {h : Heap} {p C : Addr} (a : AtC p C h) (x : Ctx0 h p) : ObjOk P w H h p (ExcO p C) :=
  ⟨⟨a, x⟩, let ⟨o, e, _⟩ := a; ⟨o, e⟩, fun h1 h2 ⟨⟨o, e, c⟩, x⟩ k => ⟨⟨o, k o e, c⟩, x.keep k⟩⟩
section
variable {X : Cx}
/-- isinstance(e, c) for a caught e -/
def rIsinX (K : PySem.W.Frag) : List V → Hp → VK → Prop := fun xs H Q => ∃ p C c cv b, xs = [.ref p, c] ∧ H p = some (ExcO p C) ∧ Xk K C ∧ clsV c = some cv ∧ PySem.W.kitOne K (.ref C) cv = some b ∧ Q (.bl b) H
theorem call_isinX {K : PySem.W.Frag} (e : X.K = K) : CallR X (.builtin "isinstance") (rIsinX K) := by
  subst e
  intro pins s σ H xs us Q I r h
  obtain ⟨p, C, c, cv, b, rfl, ep, k, hc, hk, q⟩ := h
  obtain ⟨u1, u2, rfl, r1, r2⟩ := vals2 r
  obtain rfl := clsV_rel hc r2
  cases (show u1 = Value.ref p from r1)
  obtain ⟨⟨a, _⟩, _⟩ := (show ObjOk X.prog X.w H s.heap p (ExcO p C) from I.hok p _ ep)
  exact PySem.W.kia_one (xkit k) I.kIn a hk (fun z => nomatch z) fun tk => ⟨.bl b, H, I.tok tk, rfl, q⟩
end
end L2

namespace L2
open PySem PySem.Spec PySem.Calls PyProof.Rows

/-- what is kept of h in B, the heap at the raise without the frames at fs -/
structure UnB (fs : List Addr) (H H' : Hp) (h B : Heap) : Prop where
  keep : ∀ b o, h.get? b = some o → H b = none → b ∉ fs → B.get? b = some o
  free : ∀ b o, h.get? b = some o → H b = none → H' b = none
  there : ∀ b o, h.get? b = some o → b ∉ fs → ∃ o', B.get? b = some o'
  tups : ∀ b xs, H b = some (.tup xs) → H' b = some (.tup xs)
  frzs : ∀ b o u, H b = some (.frz o u) → H' b = some (.frz o u)
  tbls : ∀ b ps, H b = some (.tbl ps) → ∃ more, H' b = some (.tbl (ps ++ more))
/-- it flies, and has no context -/
def FlyX (B : Heap) (l : List Env) (e : Addr) (cls a0 : Value) (h : Heap) : Prop := Heap.FlyingW B l e cls a0 h ∧ Ctx0 h e
/-- how an exception lies behind a call that it left -/
def CXE (P : Program) (w : World) : CXT := fun outer H s E e s' => ∃ (p C : Addr) (a0 : Value) (B : Heap) (H' : Hp),
  e = .ref p ∧ s'.os = s.os ∧ AllBare s'.gens ∧ FlyX B outer p (.ref C) a0 s'.heap ∧ HOk P w H' B ∧ UnB (frs outer) H H' s.heap B ∧
  (∀ b ∈ frs outer, ∀ o, s.heap.get? b = some o → ∃ sl, s'.heap.get? b = some { o with slots := sl }) ∧ H' p = none ∧ E (.ref p) (some C) H'
theorem UnB.un {fs : List Addr} {H H' : Hp} {h B h' : Heap} (u : UnB fs H H' h B) (st : B.StaysIn h') (fr : ∀ b ∈ fs, ∀ o, h.get? b = some o → ∃ sl, h'.get? b = some { o with slots := sl }) :
    Un fs [] H H' h h' where
  keep := fun b o e n hb _ => st b o (u.keep b o e n hb)
  slot := fun b o e n hb _ => fr b hb o e
  free := fun b o e n _ => u.free b o e n
  there := fun b o e _ => by
    by_cases hb : b ∈ fs
    · obtain ⟨sl, q⟩ := fr b hb o e
      exact ⟨_, q⟩
    · obtain ⟨o', q⟩ := u.there b o e hb
      exact ⟨o', st b o' q⟩
  tups := u.tups
  frzs := u.frzs
  tbls := u.tbls
section
variable {X : Cx} {pins : List (Addr × Obj)} {σ : St} {H H' : Hp} {s : Shared}
/-- all of a def's frames: its own, the callers' -/
structure Own (X : Cx) : Prop where
  stk : X.stack = X.env :: X.outer
  fr : X.env.frame = some X.env.locals
  ex : X.ex = []
theorem Own.frs (O : Own X) : frs X.stack = X.env.locals :: X.fs := by
  rw [O.stk]; unfold L2.frs; rw [List.filterMap_cons, O.fr]; rfl
/-- from the def's entry to the raise -/
theorem Inv.unB {B : Heap} (I : Inv X pins σ H s) (O : Own X) (u : UnB (L2.frs X.stack) H H' s.heap B) : UnB X.fs X.H₀ H' X.s₀.heap B where
  keep := fun b o e n hb => by
    have nx : b ∉ X.ex := by rw [O.ex]; simp
    refine u.keep b o (I.base.keep b o e n hb nx) (I.base.free b o e n nx) ?_
    rw [O.frs]
    intro z
    rcases List.mem_cons.mp z with z | z
    · exact absurd (Nat.lt_of_lt_of_le (Heap.lt_size e) I.ok.above) (by rw [z]; exact Nat.lt_irrefl _)
    · exact hb z
  free := fun b o e n => by
    have nx : b ∉ X.ex := by rw [O.ex]; simp
    obtain ⟨o', e'⟩ := I.base.there b o e nx
    exact u.free b o' e' (I.base.free b o e n nx)
  there := fun b o e hb => by
    have nx : b ∉ X.ex := by rw [O.ex]; simp
    obtain ⟨o', e'⟩ := I.base.there b o e nx
    refine u.there b o' e' ?_
    rw [O.frs]
    intro z
    rcases List.mem_cons.mp z with z | z
    · exact absurd (Nat.lt_of_lt_of_le (Heap.lt_size e) I.ok.above) (by rw [z]; exact Nat.lt_irrefl _)
    · exact hb z
  tups := fun b xs e => u.tups b xs (I.base.tups b xs e)
  frzs := fun b o xs e => u.frzs b o xs (I.base.frzs b o xs e)
  tbls := fun b ps e => by
    obtain ⟨m1, e1⟩ := I.base.tbls b ps e
    obtain ⟨m2, e2⟩ := u.tbls b _ e1
    exact ⟨m1 ++ m2, by rw [e2, Array.append_assoc]⟩
/-- the callers' frames up to their slots -/
theorem Inv.slots {h2 h3 : Heap} (I : Inv X pins σ H s) (O : Own X) (fr : ∀ b ∈ L2.frs X.stack, ∀ o, s.heap.get? b = some o → ∃ sl, h2.get? b = some { o with slots := sl }) (hs : h2.UpToSlots h3) :
    ∀ b ∈ X.fs, ∀ o, X.s₀.heap.get? b = some o → ∃ sl, h3.get? b = some { o with slots := sl } := fun b hb o e => by
  have nx : b ∉ X.ex := by rw [O.ex]; simp
  obtain ⟨sl, e1⟩ := I.base.slot b o e (I.ok.frf b hb) hb nx
  obtain ⟨sl2, e2⟩ := fr b (by rw [O.frs]; exact List.mem_cons_of_mem _ hb) _ e1
  obtain ⟨_, of, hof, hnf⟩ := I.ok.funs.mem hb
  rw [e] at hof
  cases hof
  obtain ⟨sl3, e3⟩ := hs b _ e2 hnf
  exact ⟨sl3, e3⟩
end
/-- an exception of a callee passes through a def -/
theorem passE {P : Program} {w : World} {K : PySem.W.Frag} {mg : Str → Option Value} {base : Heap} {N : List Str} {qual : Str} {scope : Scope} {f : Addr} {cd : Value} {A : Around} {outer : List Env} {s : Shared} {H : Hp} {E : XK} :
    Passes (CXE P w) (cxOf (CXE P w) P w K mg base N qual scope f cd A outer s H E) E := by
  intro pins σ H1 s1 e s2 I h
  have O : Own (cxOf (CXE P w) P w K mg base N qual scope f cd A outer s H E) := ⟨rfl, rfl, rfl⟩
  obtain ⟨p, C, a0, B, H', rfl, os, bare, fl, hok, u, fr, hp, hE⟩ := h
  refine leaveX (env := envOfC qual scope s.heap.objs.size f cd) (outer := outer) I.ok.frames rfl fl.1 fl.2 fun h3 fl3 hs c3 => ?_
  exact ⟨p, C, a0, B, H', rfl, os.trans I.os, bare, ⟨fl3, c3⟩, hok, I.unB O u, I.slots O fr hs, hp, hE⟩
end L2

namespace L2
open PySem PySem.Spec PySem.Calls PyProof.Rows

theorem objThere {P : Program} {w : World} {H : Hp} {h : Heap} {a : Addr} {o : HO} (x : ObjOk P w H h a o) : ∃ ob, h.get? a = some ob := by
  cases o with
  | lst xs => obtain ⟨_, _, _, _, e⟩ := x; exact ⟨_, e⟩
  | tup xs => obtain ⟨_, _, _, p⟩ := x; obtain ⟨ob, e, _⟩ := p; exact ⟨ob, e⟩
  | dK kvs => obtain ⟨_, _, _, _, ob, _, _, e, _⟩ := x; exact ⟨ob, e⟩
  | dT kvs => obtain ⟨_, _, _, _, ob, _, _, e, _⟩ := x; exact ⟨ob, e⟩
  | set S n => obtain ⟨ob, _, _, _, e, _⟩ := x; exact ⟨ob, e⟩
  | ins C dx fs => obtain ⟨_, _, _, e, _⟩ := x; exact ⟨_, e⟩
  | own y => exact x
  | xd fs => obtain ⟨_, ⟨ob, _, _, e, _⟩, _⟩ := x; exact ⟨ob, e⟩
  | rng lo hi => obtain ⟨_, _, _, e⟩ := x; exact ⟨_, e⟩
  | frz ob u => obtain ⟨e, _⟩ := x; exact ⟨_, e⟩
  | tbl ps => exact ⟨_, x⟩
  | met f y => exact ⟨_, x⟩
  | ext φ => obtain ⟨_, e, _⟩ := x; exact e
theorem xobj {K : PySem.W.Frag} {h : Heap} {C : Addr} {bl : List Value} {ni : String} (X : K.In h) (q : PySem.W.excIn K C bl ni = true) :
    ∃ bm N nm qn bs hd sn sub ab col dd k0 k1 k2 k3 k5 mN, h.get? C = some (excClassObj nm qn C N bs bm hd sn sub ab col dd k0 k1 k2 k3 k5 ni) ∧ h.Ns N mN ∧ mN "__init__" = none ∧ OwnTail h bl bm := by
  unfold PySem.W.excIn at q
  split at q
  · rename_i du cu su hu
    split at q
    · rename_i Cu bu l0 l1 l2 l3 nu l5 mu eu
      simp only [Bool.and_eq_true, beq_iff_eq, Bool.not_eq_true'] at q
      obtain ⟨⟨⟨⟨⟨rfl, rfl⟩, nodel⟩, tl⟩, good⟩, noin⟩ := q
      obtain ⟨c1, c2, c3, c4, c5, c6, c7, c8, c9, c10, c11⟩ := cu
      dsimp only at mu nodel good noin
      subst mu nodel
      obtain ⟨ls⟩ := su
      dsimp only at eu
      subst eu
      exact ⟨bu, c4, c1, c5, c2, c6, c7, c8, c9, c10, du, l0, l1, l2, l3, l5, _, X _ _ hu, .of_isNs (PySem.W.isNs_of_in X good), PySem.W.nsMap_none_of_in X good noin, PySem.W.tail_of_in X tl⟩
    · cases q
  · cases q

/-- raise C(..): the wish is had of a new exception of that class -/
def tRaise (E : XK) (C : Addr) (t : TA) : TS := fun _ σ H => t σ H fun vs H1 => vs.length ≤ sizeLine ∧ ∀ p, H1 p = none → E (.ref p) (some C) H1
section
variable {P : Program} {w : World} {K : PySem.W.Frag} {mg : Str → Option Value} {base : Heap} {N : List Str} {qual : Str} {scope : Scope} {f : Addr} {cd : Value} {A : Around} {outer : List Env} {s₀ : Shared} {H₀ : Hp} {E : XK}
/-- the made exception leaves the def -/
theorem made_leaves {pins : List (Addr × Obj)} {σ : St} {H : Hp} {s : Shared} {h' : Heap} {p C : Addr} {us : List Value}
    (I : Inv (cxOf (CXE P w) P w K mg base N qual scope f cd A outer s₀ H₀ E) pins σ H s) (m : Heap.MadeExcOf s.heap h' p (.ref C) us) (hE : H p = none → E (.ref p) (some C) H) :
    (cxOf (CXE P w) P w K mg base N qual scope f cd A outer s₀ H₀ E).xe (.ref p) { s with heap := h' } := by
  have O : Own (cxOf (CXE P w) P w K mg base N qual scope f cd A outer s₀ H₀ E) := ⟨rfl, rfl, rfl⟩
  have hin : ∀ ev ∈ (envOfC qual scope s₀.heap.objs.size f cd :: outer), ∀ b, ev.frame = some b → b ∈ frs (envOfC qual scope s₀.heap.objs.size f cd :: outer) := fun ev he b hb => List.mem_filterMap.mpr ⟨ev, he, hb⟩
  have hst : s.heap.FunFrames base (envOfC qual scope s₀.heap.objs.size f cd :: outer) := I.stack
  have hp : H p = none := by
    cases q : H p with
    | none => rfl
    | some u =>
      obtain ⟨ob, eo⟩ := objThere (I.hok p u q)
      have z := m.new
      rw [z] at eo; cases eo
  refine madeX (base := PySem.W.hideAll s.heap (frs (envOfC qual scope s₀.heap.objs.size f cd :: outer))) (h := s.heap) (env := envOfC qual scope s₀.heap.objs.size f cd) (outer := outer) I.ok.frames rfl
    (fun b o q => PySem.W.of_hideAll _ q) (PySem.W.funFrames_hide hst hin) m fun h3 t fl up cg => ?_
  refine ⟨p, C, _, _, H, rfl, I.os, I.bare, ⟨fl, cg⟩, ?_, I.unB O ?_, I.slots O (h2 := h') ?_ up, hp, hE hp⟩
  · intro a u e
    have nf : ∀ b v, H b = some v → b ∉ frs (envOfC qual scope s₀.heap.objs.size f cd :: outer) := fun b v q z => by rw [I.stkFree b z] at q; cases q
    refine (I.hok a u e).stay (fun b v hb q => PySem.W.hideAll_get _ q ?_) (fun _ q => q) fun _ _ q => q
    rcases hb with rfl | hb
    · exact nf _ _ e
    · exact nf _ _ hb
  · exact ⟨fun b o e n hb => PySem.W.hideAll_get _ e hb, fun b o e n => n, fun b o e hb => ⟨o, PySem.W.hideAll_get _ e hb⟩, fun b xs e => e, fun b o u e => e, fun b ps e => ⟨#[], by rw [e]; simp⟩⟩
  · exact fun b hb o e => ⟨o.slots, m.keeps b o e⟩
theorem ps_raise {x : Str} {C : Addr} {np cpos pos : Pos} {e : Expr} {es : List Expr} {t : TA} (hd : (A.deeper (envOfC qual scope s₀.heap.objs.size f cd)).handled = none)
    (hg : Gl (cxOf (CXE P w) P w K mg base N qual scope f cd A outer s₀ H₀ E) x) (hm : mg x = some (.ref C)) (k : Xk K C) (ha : PA (cxOf (CXE P w) P w K mg base N qual scope f cd A outer s₀ H₀ E) (e :: es) t)
    (hdb : (x == ("__debug__" : Str)) = false := by decide)
    (he : starEach (e :: es) (envOfC qual scope s₀.heap.objs.size f cd) = (false, eval e (envOfC qual scope s₀.heap.objs.size f cd)) :: starEach es (envOfC qual scope s₀.heap.objs.size f cd) := by rfl)
    (hpl : (backTo cpos (starEach es (envOfC qual scope s₀.heap.objs.size f cd))).any (·.1) = false := by rfl) :
    PS (cxOf (CXE P w) P w K mg base N qual scope f cd A outer s₀ H₀ E) (.Raise (some (.Call (.Name x np) (e :: es) [] cpos)) none pos) (tRaise E C t) := by
  intro pins s σ H D I h
  obtain ⟨bm, M, nm, qn, bs, hdc, sn, sub, ab, col, dd, k0, k1, k2, k3, k5, mN, hC, hN, hni, T⟩ := xobj I.mod.kin k.ex
  have FB := PySem.F.excBase_ValueError
  refine wpAny_Raise_call_subT (C := C) (nm := nm) (q := qn) (N := M) (bs := bs) (bm := bm) (hdct := hdc) (sn := sn) (sub := sub) (ab := ab) (col := col) (dd := dd) (k0 := k0) (k1 := k1) (k2 := k2) (k3 := k3) (k5 := k5) FB (mN := mN)
    (T.hasType FB.hasBase) hd (by show (backTo cpos (starEach (e :: es) (envOfC qual scope s₀.heap.objs.size f cd))).any (·.1) = false; rw [he]; show (false || (backTo cpos (starEach es (envOfC qual scope s₀.heap.objs.size f cd))).any (·.1)) = false; rw [hpl]; rfl) hni (ld_glob I hg hm ⟨rfl, ?_⟩ hdb)
  have z := ha cpos pins s σ H _ I h
  have he' : starEach (e :: es) (cxOf (CXE P w) P w K mg base N qual scope f cd A outer s₀ H₀ E).env = (false, eval e (cxOf (CXE P w) P w K mg base N qual scope f cd A outer s₀ H₀ E).env) :: starEach es (cxOf (CXE P w) P w K mg base N qual scope f cd A outer s₀ H₀ E).env := he
  rw [he'] at z ⊢
  refine Calls.evalArgs_plain (wpAny_mono z (fun us s2 ⟨vs, H2, I2, r, hl, q⟩ => ?_) fun _ _ y => y)
  exact ⟨rfl, (by rw [← r.length]; exact hl), I2.bk _ _ hC, hN.keeps I2.bk, T.keeps I2.bk, fun h' p m => made_leaves I2 m (q p)⟩
end
end L2

namespace L2
open PySem PySem.Spec PySem.Calls PyProof.Rows

/-- within an except suite -/
abbrev Cx.hand (X : Cx) (p : Addr) : Cx := { X with A := X.A.mark (some (.ref p)), calm := false, xe := fun _ _ => False }
section
variable {X : Cx} {pins : List (Addr × Obj)} {σ : St} {H : Hp} {s : Shared} {p : Addr}
theorem Inv.hand (I : Inv X pins σ H s) : Inv (X.hand p) pins σ H s :=
  ⟨⟨I.ok.mod, I.ok.kind, I.ok.glob, I.ok.blt, I.ok.above, I.ok.inj, I.ok.has, I.ok.cab, (fun z => by cases z), I.ok.frames, I.ok.stk, I.ok.exf, I.ok.bs, I.ok.bsz, I.ok.noex, I.ok.exfs, I.ok.funs, I.ok.frf⟩, I.os, I.bare, I.base, I.loc, I.cell, I.free, I.freeC, I.pin, I.hok, I.len⟩
theorem Inv.unhand (I : Inv (X.hand p) pins σ H s) (ok : X.Ok) : Inv X pins σ H s := ⟨ok, I.os, I.bare, I.base, I.loc, I.cell, I.free, I.freeC, I.pin, I.hok, I.len⟩
/-- the name is gone behind the suite -/
theorem Inv.gone {i : Nat} {n : Str} {v : Option Value} {m : Str → Option Value} {h' : Heap} {t' : Nat} (I : Inv X pins σ H s) (hN : X.N.Nodup) (hi : X.N[i]? = some n) (hk : X.env.scope.names.lookup n = some .local) (hm : s.heap.Ns X.env.locals m)
    (hl : ∀ (j : Nat) (y : Str) (v : V), X.N[j]? = some y → σ[j]? = some (some v) → Vis X.env.scope y → ∃ u, RelV v u ∧ Look X.env s.heap m y u)
    (hn : h'.Ns X.env.locals (fun y => if y = n then v else m y)) (hs : Heap.SameBut X.env.locals s.heap h') : Inv X pins (σ.set i none) H { s with heap := h', toks := t' } := by
  have ne0 : ∀ b o, X.s₀.heap.get? b = some o → b ≠ X.env.locals := fun b o e => Nat.ne_of_lt (Nat.lt_of_lt_of_le (Heap.lt_size e) I.ok.above)
  have ck : ∀ y c, X.env.cells.lookup y = some c → ∀ w, s.heap.IsCell c w → h'.IsCell c w := fun y c e w z => z.sameBut hs (I.cne y c e)
  refine ⟨I.ok, I.os, I.bare, ⟨?_, ?_, I.base.free, ?_, I.base.tups, I.base.frzs, I.base.tbls⟩, ⟨_, hn, ?_⟩, ?_, I.free, I.freeC, ?_, ?_, by rw [List.length_set]; exact I.len⟩
  · intro b o e z hb hx
    exact (hs.2 b (ne0 b o e)).trans (I.base.keep b o e z hb hx)
  · intro b o e z hb hx
    obtain ⟨sl, q⟩ := I.base.slot b o e z hb hx
    exact ⟨sl, (hs.2 b (ne0 b o e)).trans q⟩
  · intro b o e hx
    obtain ⟨o', q⟩ := I.base.there b o e hx
    exact ⟨o', (hs.2 b (ne0 b o e)).trans q⟩
  · intro j y v' e1 e2 e3
    have hj : j ≠ i := by
      rintro rfl
      rw [List.getElem?_set] at e2
      split at e2
      · split at e2 <;> cases e2
      · rename_i z; exact z rfl
    rw [List.getElem?_set_ne (Ne.symm hj)] at e2
    obtain ⟨u, r, q⟩ := hl j y v' e1 e2 e3
    refine ⟨u, r, ?_⟩
    rcases q with ⟨k, e⟩ | ⟨k, c, e, z⟩
    · have hy : y ≠ n := fun e' => hj (nodup_ix hN e1 (e' ▸ hi))
      exact .inl ⟨k, by show (if y = n then v else m y) = some u; rw [if_neg hy]; exact e⟩
    · exact .inr ⟨k, c, e, ck y c e _ z⟩
  · intro y c e
    obtain ⟨w, z⟩ := I.cell y c e
    exact ⟨w, ck y c e w z⟩
  · intro q hq
    obtain ⟨e, n', ne, nf, d⟩ := I.pin q hq
    exact ⟨(hs.2 q.1 ne).trans e, n', ne, nf, d⟩
  · intro b u e
    have nl : ∀ c w, H c = some w → c ≠ X.env.locals := fun c w q z => by rw [z, I.free] at q; cases q
    refine (I.hok b u e).stay (fun c w hc q => (hs.2 c ?_).trans q) (fun _ q => q) fun _ _ q => q
    rcases hc with rfl | hc
    · exact nl _ _ e
    · exact nl _ _ hc
/-- where an exception has come to: the state ahead of the call that it left, and what stands since -/
def Ld (X : Cx) (pins : List (Addr × Obj)) (σ : St) (H' : Hp) (p C : Addr) (s : Shared) : Prop := ∃ (H1 : Hp) (s1 : Shared) (a0 : Value) (B : Heap), Inv X pins σ H1 s1 ∧ s.os = s1.os ∧ AllBare s.gens ∧ FlyX B X.stack p (.ref C) a0 s.heap ∧
  HOk X.prog X.w H' B ∧ UnB (frs X.stack) H1 H' s1.heap B ∧ (∀ b ∈ frs X.stack, ∀ o, s1.heap.get? b = some o → ∃ sl, s.heap.get? b = some { o with slots := sl }) ∧ H' p = none
variable {C : Addr} {H' : Hp}
theorem slots_up {l : List Env} {base g h h' : Heap} (F : g.FunFrames base l) (a : ∀ b ∈ frs l, ∀ o, g.get? b = some o → ∃ sl, h.get? b = some { o with slots := sl }) (u : h.UpToSlots h') : ∀ b ∈ frs l, ∀ o, g.get? b = some o → ∃ sl, h'.get? b = some { o with slots := sl } := fun b hb o e => by
  obtain ⟨sl, q⟩ := a b hb o e
  obtain ⟨_, of, hof, hnf⟩ := F.mem hb
  rw [e] at hof; cases hof
  obtain ⟨sl2, q2⟩ := u b _ q hnf
  exact ⟨sl2, q2⟩
/-- the handlers are asked -/
theorem ld_enter {E : XK} {H1 : Hp} {s1 s2 : Shared} {e : Value} {M : Model} {A : Around} {XE : Value → Shared → Prop} {Q : Shared → Prop} (hA : A.frames = some X.stack) (O : Own X) (I : Inv X pins σ H1 s1) (h : CXE X.prog X.w X.stack H1 s1 E e s2)
    (hQ : ∀ p C H' s', e = .ref p → Ld X pins σ H' p C s' → E (.ref p) (some C) H' → Q s') :
    wpAny M A (noteFrame e X.env) (fun _ s₂ => wpAny M A (setFlight e none) (fun _ s₃ => Q s₃) XE s₂) XE s2 := by
  obtain ⟨p, C, a0, B, H', rfl, os, bare, fl, hok, u, fr, hp, hE⟩ := h
  rw [O.stk] at fl
  refine noteX (by rw [hA, O.stk]) O.fr fl.1 fl.2 fun h3 held up3 c3 => ?_
  refine landX held c3 fun h4 fl4 up4 c4 => ?_
  refine hQ p C H' _ rfl ⟨H1, s1, a0, B, I, os, bare, ?_, hok, u, ?_, hp⟩ hE
  · rw [O.stk]; exact ⟨fl4, c4⟩
  · exact slots_up I.stack fr (up3.trans up4)
theorem ld_flight {M : Model} {A : Around} {XE : Value → Shared → Prop} {Q : Unit → Shared → Prop} (L : Ld X pins σ H' p C s) (hQ : ∀ s', Ld X pins σ H' p C s' → Q () s') : wpAny M A (setFlight (.ref p) none) Q XE s := by
  obtain ⟨H1, s1, a0, B, I, os, bare, fl, hok, u, fr, hp⟩ := L
  exact flyX_again fl.1 fl.2 fun h4 fl4 up4 c4 => hQ _ ⟨H1, s1, a0, B, I, os, bare, ⟨fl4, c4⟩, hok, u, slots_up I.stack fr up4, hp⟩
theorem Ld.inv (L : Ld X pins σ H' p C s) : Inv X pins σ (upd H' p (ExcO p C)) s := by
  obtain ⟨H1, s1, a0, B, I, os, bare, fl, hok, u, fr, hp⟩ := L
  obtain ⟨fl, cx⟩ := fl
  obtain ⟨oe, vs, he, hec, hed, _⟩ := fl.first
  have hat : AtC p C s.heap := ⟨oe, he, hec⟩
  have nB : ∀ b o, s1.heap.get? b = some o → b ≠ p := fun b o e z => by
    by_cases hb : b ∈ frs X.stack
    · obtain ⟨_, of, hof, hnf⟩ := I.stack.mem hb
      rw [e] at hof; cases hof
      obtain ⟨sl, q⟩ := fr b hb o e
      rw [z, he] at q; cases q
      exact hnf vs hed
    · obtain ⟨o', q⟩ := u.there b o e hb
      rw [z, fl.2.1] at q; cases q
  have UN := u.un fl.1 fr
  refine I.call' os ⟨UN.keep, UN.slot, fun b o e n hx => ?_, UN.there, fun b xs e => ?_, fun b o xs e => ?_, fun b ps e => ?_⟩ ?_ bare (fun b z => absurd z (by simp))
  · rw [upd_ne (nB b o e)]; exact UN.free b o e n hx
  · have q := UN.tups b xs e
    rw [upd_ne (ne_of_none q hp)]; exact q
  · have q := UN.frzs b o xs e
    rw [upd_ne (ne_of_none q hp)]; exact q
  · obtain ⟨more, q⟩ := UN.tbls b ps e
    exact ⟨more, by rw [upd_ne (ne_of_none q hp)]; exact q⟩
  · intro b o e
    by_cases hb : b = p
    · subst hb
      rw [upd_same] at e; cases e
      exact excO_ok hat cx
    · rw [upd_ne hb] at e
      exact (hok b o e).stay (fun c v _ q => fl.1 c v q) (fun c q => by rw [upd_ne (ne_of_none q hp)]; exact q) fun c xs q => by rw [upd_ne (ne_of_none q hp)]; exact q
end
end L2

namespace L2
open PySem PySem.Spec PySem.Calls PyProof.Rows

/-! ### code from which an exception may come -/
abbrev TXS := Ends → (St → XK) → St → Hp → Prop
abbrev TXE := (St → XK) → St → Hp → VK → Prop
def XEnd (X : Cx) (pins : List (Addr × Obj)) (E : St → XK) (ev : Value) (s' : Shared) : Prop := ∃ σ1 H1 s1, Inv X pins σ1 H1 s1 ∧ CXE X.prog X.w X.stack H1 s1 (E σ1) ev s'
def PXE (X : Cx) (e : Expr) (t : TXE) : Prop :=
  ∀ (pins : List (Addr × Obj)) (s : Shared) (σ : St) (H : Hp) (Q : VK) (E : St → XK), Inv X pins σ H s → t E σ H Q → wpAny (model X.prog X.w) X.A (eval e X.env) (EP X pins σ Q) (XEnd X pins E) s
def PXS (X : Cx) (st : Stmt) (t : TXS) : Prop :=
  ∀ (pins : List (Addr × Obj)) (s : Shared) (σ : St) (H : Hp) (D : Ends) (E : St → XK), Inv X pins σ H s → t D E σ H → wpAny (model X.prog X.w) X.A (exec st X.env) (SP X pins D) (XEnd X pins E) s
def PXSs (X : Cx) (sts : List Stmt) (t : TXS) : Prop :=
  ∀ (pins : List (Addr × Obj)) (s : Shared) (σ : St) (H : Hp) (D : Ends) (E : St → XK), Inv X pins σ H s → t D E σ H → wpAny (model X.prog X.w) X.A (execs sts X.env) (SP X pins D) (XEnd X pins E) s
/-- no exception leaves X otherwise -/
def NoX (X : Cx) : Prop := ∀ e s, X.xe e s → False
section
variable {X : Cx} {st : Stmt} {rest : List Stmt} {e : Expr} {es : List Expr} {pos : Pos} {t u : TXS} {te : TXE}
theorem xthn {α : Type} {m : Sem α} {Q Q' : α → Shared → Prop} {M : Model} {A : Around} {E E' : Value → Shared → Prop} {s : Shared} (h : wpAny M A m Q E s) (hx : ∀ e s, E e s → False) (hQ : ∀ a s, Q a s → Q' a s) : wpAny M A m Q' E' s := wpAny_mono h hQ fun e s z => (hx e s z).elim
theorem pxss_one (h1 : PXS X st t) : PXSs X [st] t := by
  intro pins s σ H D E I h
  refine wpAny_execs_cons (thn (h1 pins s σ H D E I h) fun f s1 q => ?_)
  cases f with
  | next => exact wpAny_execs_nil q
  | ret v => exact q
  | brk => exact q
  | cont => exact q
theorem pxs_expr (he : PXE X e te) (hs : swapsWith e none pos.line X.env = pure false := by rfl) : PXS X (.Expr e pos) (fun D E σ H => te E σ H fun _ H1 => D.nx σ H1) := by
  intro pins s σ H D E I h
  exact wpAny_Expr_any (thn (he pins s σ H _ E I h) fun v s1 ⟨x, H1, I1, r1, q1⟩ => ⟨σ, H1, I1, q1⟩) I.quiet hs
theorem pxs_if {c : Expr} {a b : List Stmt} {tc : TT} (hn : NoX X) (hc : PT X c tc) (ha : PXSs X a t) (hb : PXSs X b u) : PXS X (.If c a b pos) (fun D E σ H => tc σ H fun k H1 => if k = true then t D E σ H1 else u D E σ H1) := by
  intro pins s σ H D E I h
  refine wpAny_If (xthn (hc pins s σ H _ I h) hn fun d s1 ⟨H1, I1, q1⟩ => ?_)
  cases d with
  | true => exact ha pins s1 σ H1 D E I1 q1
  | false => exact hb pins s1 σ H1 D E I1 q1
/-- f(..) of a def from which an exception may come -/
theorem pxe_call {k : Nat} {f : Addr} {fd : FuncData} {ps : List Str} {sp : Sp} {dvs : List V} {ds : List Value} {x : Str} {p : Pos} {t : TA} (hn : NoX X) (F : FnOk X.prog X.w X.K X.mg X.base (CXE X.prog X.w) k f fd ps sp) (hr : Room k X.A) (hg : Gl X x) (hm : X.mg x = some (.ref f))
    (hk : PySem.W.keepIn X.K (.ref f) = true) (hb : Binds X.K fd ps ds) (hd : Vals dvs ds) (ha : PA X (e :: es) t) (hdb : (x == ("__debug__" : Str)) = false := by decide)
    (he : starEach (e :: es) X.env = (false, eval e X.env) :: starEach es X.env := by rfl) (hpl : (backTo pos (starEach es X.env)).any (·.1) = false := by rfl) :
    PXE X (.Call (.Name x p) (e :: es) [] pos) (fun E σ H Q => t σ H fun vs H1 => sp (vs ++ dvs) H1 Q (E σ)) := by
  intro pins s σ H Q E I h
  refine wpAny_Call_Name_kw (ld_glob I hg hm ?_ hdb)
  refine PySem.W.callWith_K (h₀ := X.base) I.ok.mod.kin hk (xthn (ha pos pins s σ H _ I h) hn fun us s1 ⟨vs, H1, I1, r, q⟩ => ⟨I1.kIn, ?_⟩) he hpl
  have r2 : Vals (vs ++ dvs) (us ++ ds) := r.append hd
  have hl : (us ++ ds).length = ps.length := by rw [← r2.length]; exact F.len _ _ _ _ q
  refine wpAny_call (codeAny_mono (F.run X.A X.stack s1 H1 ⟨[] ++ us, []⟩ (us ++ ds) (vs ++ dvs) Q (E σ) hr I1.env0 (hb s1 us I1.kIn hl) r2 q) fun r s' hq => ?_)
  cases r with
  | error ev => exact ⟨σ, H1, s1, I1, hq⟩
  | ok fl =>
    cases fl with
    | ret v => exact I1.after hq
    | next => exact False.elim hq
    | brk => exact False.elim hq
    | cont => exact False.elim hq
end

/-! ### try .. except -/
/-- what a handler list makes of an exception of class C at p -/
def PH (X : Cx) (p C : Addr) (hs : List ExceptHandler) (t : TS) : Prop :=
  ∀ (pins : List (Addr × Obj)) (s : Shared) (σ : St) (H' : Hp) (D : Ends), Ld X pins σ H' p C s → t D σ (upd H' p (ExcO p C)) → wpAny (model X.prog X.w) X.A (handleBy (.ref p) X.env hs) (SP X pins D) X.xe s
section
variable {X : Cx} {pos np : Pos} {t : TS} {tx : TXS} {p C : Addr}
/-- the ends of an except suite whose name stands in slot i -/
def Ends.forget (D : Ends) (i : Nat) : Ends := { nx := fun σ H => D.nx (σ.set i none) H, rt := D.rt, bk := fun σ H => D.bk (σ.set i none) H, ct := fun σ H => D.ct (σ.set i none) H }
theorem ph_as {D : Addr} {x n : Str} {i : Nat} {b₀ : Stmt} {suite : List Stmt} {rest : List ExceptHandler} (hg : Gl X x) (hm : X.mg x = some (.ref D)) (hx : PySem.W.exmOne X.K (.ref C) (.ref D) = some true) (hN : X.N.Nodup) (hi : X.N[i]? = some n)
    (hl : X.env.scope.names.lookup n = some .local) (hb : PSs (X.hand p) (b₀ :: suite) t) (hd : (x == ("__debug__" : Str)) = false := by decide) :
    PH X p C (.ExceptHandler (some (.Name x np)) (some n) (b₀ :: suite) pos :: rest) (fun D' σ H => t (D'.forget i) (σ.set i (some (.ref p))) H) := by
  intro pins s σ H' D' L h
  have I := L.inv
  have J := I.hand (p := p)
  refine wpAny_handleBy_cons (codeAny_handlers_test (ld_glob (X := X.hand p) J hg hm ?_ hd)) (by intro q; cases q)
  have hat : AtC p C s.heap := (show ObjOk X.prog X.w _ s.heap p (ExcO p C) from I.hok p _ upd_same).1.1
  refine (PySem.W.exm_one (M := model X.prog X.w) I.kIn hat.type hx).here ?_
  refine codeAny_handlers_suite_as (ld_flight L fun s2 L2 => ?_)
  have I2 := L2.inv
  refine store_ok (X := X.hand p) (I2.hand (p := p)) hN hi (.inl hl) (v := .ref p) (u := .ref p) rfl (fun s3 I3 => ?_) (.inr hl)
  refine wpAny_mono (hb pins s3 _ _ (D'.forget i) I3 h) (fun fl s4 q => ?_) fun _ _ z => False.elim z
  have fin : ∀ {σ4 : St} {H4 : Hp} {fl : Flow}, Inv (X.hand p) pins σ4 H4 s4 → (∀ s5, Inv X pins (σ4.set i none) H4 s5 → SP X pins D' fl s5) →
      wpAny (model X.prog X.w) X.A (do bindName X.env n .none; unbindBehindTheSuite X.env n pos) (fun _ s5 => SP X pins D' fl s5) X.xe s4 := fun {σ4 H4 fl} J4 k => by
    have I4 := J4.unhand I.ok
    obtain ⟨m, hn, hl'⟩ := id I4.loc
    exact wpAny_nameGoes_keeps hl hn (by rw [I.ok.kind]; rfl) fun h5 v hn5 hs5 => k _ (I4.gone hN hi hl hn hl' hn5 hs5)
  cases fl with
  | next => obtain ⟨σ4, H4, J4, q⟩ := q; exact fin J4 fun s5 I5 => ⟨_, H4, I5, q⟩
  | brk => obtain ⟨σ4, H4, J4, q⟩ := q; exact fin J4 fun s5 I5 => ⟨_, H4, I5, q⟩
  | cont => obtain ⟨σ4, H4, J4, q⟩ := q; exact fin J4 fun s5 I5 => ⟨_, H4, I5, q⟩
  | ret u => obtain ⟨v, σ4, H4, J4, r, q⟩ := q; exact fin J4 fun s5 I5 => ⟨v, _, H4, I5, r, q⟩
/-- the whole: th is the handlers' reading for each class -/
theorem ps_try {body : List Stmt} {h₀ : ExceptHandler} {hs : List ExceptHandler} {th : Addr → Addr → TS} {ok : Addr → Prop} (O : Own X) (hb : PXSs X body tx) (hp : ∀ p C, ok C → PH X p C (h₀ :: hs) (th p C)) :
    PS X (.Try body (h₀ :: hs) [] [] pos) (fun D σ H => tx D (fun σ1 v c H' => ∀ p C, v = .ref p → c = some C → ok C ∧ th p C D σ1 (upd H' p (ExcO p C))) σ H) := by
  intro pins s σ H D I h
  refine wpAny_Try_except (wpAny_mono (hb pins s σ H D _ I h) (fun fl s1 q => ?_) fun ev s1 q => ?_)
  · cases fl with
    | next => exact wpAny_execs_nil q
    | brk => exact q
    | cont => exact q
    | ret u => exact q
  · obtain ⟨σ1, H1, s0, I1, hc⟩ := q
    refine ld_enter (XE := X.xe) I1.ok.frames O I1 hc fun p C H' s' e L hE => ?_
    subst e
    obtain ⟨o, z⟩ := hE p C rfl rfl
    exact hp p C o pins s' σ1 H' D L z
end
end L2

namespace L2
open PySem PySem.Spec PySem.Calls PyProof.Rows
/-- a def from which an exception may come, by its body -/
theorem Fun.okE {P : Program} {w : World} {K : PySem.W.Frag} {mg : Str → Option Value} {base : Heap} {x qual : Str} {st : Stmt} {f : Addr} {fd : FuncData} {N ps : List Str} {k : Nat} {sp : Sp} (F : Fun K x qual st f fd) (S : FnScope N ps (defScope st)) (len : ∀ vs H Q E, sp vs H Q E → vs.length = ps.length)
    (hbody : ∀ (cdv : Value) (A : Around) (outer : List Env) (s : Shared) (H : Hp) (vs : List V) (Q : VK) (E : XK), Room k (A.deeper (envOfC qual (defScope st) s.heap.objs.size f cdv)) → sp vs H Q E →
      ∃ t, PSs (cxOf (CXE P w) P w K mg base N qual (defScope st) f cdv A outer s H E) (defBody st) t ∧ t { nx := fun _ H' => Q .non H', rt := Q } (start N vs) H) : FnOk P w K mg base (CXE P w) (k + 1) f fd ps sp := by
  obtain ⟨oc, od, kV, doc, pm, an, cdv, ct, osl, rfl, lk, hcd⟩ := F.ex
  exact fn_of lk hcd S len fun A outer s H vs Q E hr hsp => hbody cdv A outer s H vs Q E hr hsp
end L2

namespace L2
open PySem PySem.Spec PySem.Calls PyProof.Rows

/-! ### defs that are called within an except suite -/
structure RoomH (k : Nat) (A : Around) : Prop where
  dp : A.depth + 3 * k + 5 < recursionLimit
  un : A.units + 16 * k + 200 < cLine
theorem Room.h {k : Nat} {A : Around} (r : Room k A) : RoomH k A := ⟨r.dp, r.un⟩
theorem RoomH.mark {k : Nat} {A : Around} (r : RoomH k A) (e : Option Value) : RoomH k (A.mark e) := ⟨r.dp, r.un⟩
theorem RoomH.mono {j k : Nat} {A : Around} (r : RoomH k A) (h : j ≤ k) : RoomH j A := ⟨by have := r.dp; omega, by have := r.un; omega⟩
theorem RoomH.deeper {k : Nat} {A : Around} (r : RoomH (k + 1) A) (env : Env) : RoomH k (A.deeper env) :=
  ⟨by have := r.dp; show A.depth + 1 + 3 * k + 5 < _; omega, by have := r.un; show A.units + 3 + 16 * k + 200 < _; omega⟩
structure FnOkH (P : Program) (w : World) (K : PySem.W.Frag) (mg : Str → Option Value) (base : Heap) (k : Nat) (f : Addr) (fd : FuncData) (ps : List Str) (sp : Sp) : Prop where
  len : ∀ vs H Q E, sp vs H Q E → vs.length = ps.length
  run : ∀ (A : Around) (outer : List Env) (s : Shared) (H : Hp) (args : Args) (us : List Value) (vs : List V) (Q : VK) (E : XK), RoomH k A → Env0 P w K mg base A outer s H → BindsTo s fd args (ps.zip us) → Vals vs us → sp vs H Q E →
    codeAny (model P w) A (.call (.ref f) args) (CR CX0 outer P w H s Q E) s
theorem FnOkH.mono {P : Program} {w : World} {K : PySem.W.Frag} {mg : Str → Option Value} {base : Heap} {j k : Nat} {f : Addr} {fd : FuncData} {ps : List Str} {sp : Sp} (F : FnOkH P w K mg base j f fd ps sp) (h : j ≤ k) : FnOkH P w K mg base k f fd ps sp :=
  ⟨F.len, fun A outer s H args us vs Q E hr => F.run A outer s H args us vs Q E (hr.mono h)⟩
abbrev Cx.stir (X : Cx) : Cx := { X with calm := false }
theorem Fun.okH {P : Program} {w : World} {K : PySem.W.Frag} {mg : Str → Option Value} {base : Heap} {x qual : Str} {st : Stmt} {f : Addr} {fd : FuncData} {N ps : List Str} {k : Nat} {sp : Sp} (F : Fun K x qual st f fd) (S : FnScope N ps (defScope st)) (len : ∀ vs H Q E, sp vs H Q E → vs.length = ps.length)
    (hbody : ∀ (cdv : Value) (A : Around) (outer : List Env) (s : Shared) (H : Hp) (vs : List V) (Q : VK) (E : XK), RoomH k (A.deeper (envOfC qual (defScope st) s.heap.objs.size f cdv)) → sp vs H Q E →
      ∃ t, PSs ((cxOf CX0 P w K mg base N qual (defScope st) f cdv A outer s H E).nox.stir) (defBody st) t ∧ t { nx := fun _ H' => Q .non H', rt := Q } (start N vs) H) : FnOkH P w K mg base (k + 1) f fd ps sp := by
  obtain ⟨oc, od, kV, doc, pm, an, cdv, ct, osl, rfl, lk, hcd⟩ := F.ex
  refine ⟨len, fun A outer s H args us vs Q E hr e0 hb r hsp => ?_⟩
  have hl := len _ _ _ _ hsp
  have KX : K.In s.heap := e0.mod.kin.keeps fun b o e => (e0.bs b o e).1
  have lim : s.heap.NoLimit := e0.mod.nolimit.keeps fun b o e => (e0.bs b o e).1
  have hkind : ∀ y ∈ ps.zip us, (defScope st).names.lookup y.1 = some .local ∨ ((defScope st).names.lookup y.1 = some .cell ∧ ((cellsFrom (s.heap.objs.size + 1) (defScope st).names []).lookup y.1).isSome = true) := fun ⟨n, v⟩ hy => by
    rcases S.par n (List.of_mem_zip hy).1 with q | q
    · exact .inl q
    · exact .inr ⟨q, PySem.W.cellsFrom_some _ _ _ (.inl q)⟩
  have hdep : A.depth < recursionLimit := by have := hr.dp; omega
  refine codeAny_call_function hdep (KX _ _ lk) rfl S.co S.gen rfl (PySem.W.codeRec_of KX hcd) (hb _ _ _ _ ?_)
  refine wpAny_newFunctionEnv_cells S.kind hkind fun env he s1 x => ?_
  subst he
  refine ⟨lim.keeps x.toInCall.keep, codeAny_func ?_⟩
  obtain ⟨t, ht, hq⟩ := hbody cdv A outer s H vs Q E (hr.deeper _) hsp
  have e1 : Env0 P w K mg base { A with handled := none } outer s H := ⟨e0.frames, e0.mod, e0.bs, e0.bsz, e0.funs, e0.frf, e0.hok, e0.bare⟩
  have I0 : Inv (cxOf CX0 P w K mg base N qual (defScope st) f cdv { A with handled := none } outer s H E) [] (start N vs) H s1 := inv_start S rfl e1 hl r x
  have I : Inv ((cxOf CX0 P w K mg base N qual (defScope st) f cdv A outer s H E).nox.stir) [] (start N vs) H s1 :=
    ⟨⟨I0.ok.mod, I0.ok.kind, I0.ok.glob, I0.ok.blt, I0.ok.above, I0.ok.inj, I0.ok.has, I0.ok.cab, (fun z => by cases z), Around.frames_deeper e0.frames, I0.ok.stk, I0.ok.exf, I0.ok.bs, I0.ok.bsz, I0.ok.noex, I0.ok.exfs, I0.ok.funs, I0.ok.frf⟩, I0.os, I0.bare, I0.base, I0.loc, I0.cell, I0.free, I0.freeC, I0.pin, I0.hok, I0.len⟩
  refine wpAny_mono (ht [] s1 (start N vs) H _ I hq) (fun fl s' hs => ?_) fun e s' hs => hs.elim
  cases fl with
  | ret u =>
    obtain ⟨v, σ', H', J, rv, q⟩ := hs
    exact ⟨v, H', J.os, J.bare, J.base, J.hok, rv, q⟩
  | next =>
    obtain ⟨σ', H', J, q⟩ := hs
    exact ⟨V.non, H', J.os, J.bare, J.base, J.hok, rfl, q⟩
  | brk =>
    obtain ⟨_, _, _, q⟩ := hs
    exact False.elim q
  | cont =>
    obtain ⟨_, _, _, q⟩ := hs
    exact False.elim q
section
variable {X : Cx} {k : Nat} {f : Addr} {fd : FuncData} {ps : List Str} {sp : Sp} {dvs : List V} {ds : List Value} {x : Str} {p pos : Pos} {e : Expr} {es : List Expr} {t : TA}
theorem pe_callH (F : FnOkH X.prog X.w X.K X.mg X.base k f fd ps sp) (hr : RoomH k X.A) (hg : Gl X x) (hm : X.mg x = some (.ref f)) (hk : PySem.W.keepIn X.K (.ref f) = true) (hb : Binds X.K fd ps ds) (hd : Vals dvs ds)
    (ha : PA X (e :: es) t) (hdb : (x == ("__debug__" : Str)) = false := by decide) (he : starEach (e :: es) X.env = (false, eval e X.env) :: starEach es X.env := by rfl) (hpl : (backTo pos (starEach es X.env)).any (·.1) = false := by rfl) :
    PE X (.Call (.Name x p) (e :: es) [] pos) (tCall sp dvs E0 t) := by
  intro pins s σ H Q I h
  refine wpAny_Call_Name_kw (ld_glob I hg hm ?_ hdb)
  refine PySem.W.callWith_K (h₀ := X.base) I.ok.mod.kin hk (thn (ha pos pins s σ H _ I h) fun us s1 ⟨vs, H1, I1, r, q⟩ => ⟨I1.kIn, ?_⟩) he hpl
  have r2 : Vals (vs ++ dvs) (us ++ ds) := r.append hd
  have hl : (us ++ ds).length = ps.length := by rw [← r2.length]; exact F.len _ _ _ _ q
  refine wpAny_call (codeAny_mono (F.run X.A X.stack s1 H1 ⟨[] ++ us, []⟩ (us ++ ds) (vs ++ dvs) Q E0 hr I1.env0 (hb s1 us I1.kIn hl) r2 q) fun r s' hq => ?_)
  cases r with
  | error ev => exact hq.elim
  | ok fl =>
    cases fl with
    | ret v => exact I1.after hq
    | next => exact False.elim hq
    | brk => exact False.elim hq
    | cont => exact False.elim hq
end
end L2

set_option maxHeartbeats 4100000
namespace L2
open PySem PySem.Spec PyProof.Rows
section
variable {X : Cx} {tg : Expr}
end
section
variable {ix : List (Option Nat)} {g : TG} {tt : TT} {te : TE} {σ : St} {H1 : Hp} {Q : VK}
end
section
variable {X : Cx}
end
end L2

set_option maxHeartbeats 4100000
namespace Ls
open PySem PyProof.Rows PySem.Calls PySem.W PySem.SeqAt
open AutoSeq1 (wpAny_loadPart')
open MeetsSeq MeetsSeq2 MeetsSeq3
section
variable {prog : Program} {w : World} {A : Around} {E : Value → Shared → Prop} {s : Shared}
end
end Ls

set_option maxHeartbeats 4100000
namespace Srt
open PySem PyProof.Rows PySem.Calls PySem.W
section
variable {prog : Program} {wo : World} {A : Around} {E : Value → Shared → Prop} {s : Shared}
end
end Srt
namespace L2
open PySem PySem.Spec PyProof.Rows Bg Srt
def LstV (K : PySem.W.Frag) (H : Hp) (v : V) (ns : List Int) : Prop := ∃ p, v = .ref p ∧ SqL K H p (ns.map V.int)
section
variable {X : Cx} {K : PySem.W.Frag}
/-! ### xs[::-1] -/
end
end L2

namespace L2
open PySem PySem.Spec PyProof.Rows
/-- a method of the class at C, as it stands -/
structure Dm (K : PySem.W.Frag) (C : Addr) (m qual : Str) (st : Stmt) (ps : List Str) where
  f : Addr
  fd : FuncData
  F : Fun K m qual st f fd
  b : Binds K fd ps []
  mt : Meth K C m f
def dm_mk {K : PySem.W.Frag} {C : Addr} {m qual : Str} {st : Stmt} {ps : List Str} {f : Addr} {oc : Value} {od an : Option Addr} {osl : Array (Option Value)} {kV doc pm cdv ct : Value}
    (a : PySem.W.findIn K (.ref C) m = some (some (.ref f))) (i : PySem.W.isFn K (.ref f) = true)
    (l : K.lookup f = some ⟨oc, od, .func (PySem.W.fnOf m qual (defArgs st) (defBody st) (defScope st) .none kV doc pm an cdv ct), osl⟩) (c : PySem.W.codeIn K cdv qual = true) (k : PySem.W.keepIn K (.ref f) = true)
    (h : ∀ (kV doc pm : Value) (an : Option Addr) (cdv ct : Value) (us : List Value), us.length = ps.length → bindArgs (PySem.W.fnOf m qual (defArgs st) (defBody st) (defScope st) .none kV doc pm an cdv ct) ⟨us, []⟩ = pure (ps.zip us)) : Dm K C m qual st ps :=
  { f := f, fd := _, F := fun_mk (st := st) l c k, b := (fun_mk (st := st) l c k).binds h, mt := ⟨a, i, k⟩ }
end L2

set_option maxHeartbeats 4000000
namespace L2
open PySem PySem.Spec PyProof.Rows
/-- a def of a class, asked for by the class's name -/
structure ClsF (K : PySem.W.Frag) (C : Addr) (m : Str) (f : Addr) : Prop where
  ga : PySem.W.specialIn K (.ref C) "__getattribute__" = some (some (.builtin "type.__getattribute__"))
  rd : ∃ mc, PySem.W.readsIn K C mc = true ∧ PySem.W.findCls K (.ref C) mc m = some (.val (.ref f))
  kp : PySem.W.keepIn K (.ref f) = true
section
variable {X : Cx} {CX : CXT} {k : Nat} {f C : Addr} {fd : FuncData} {ps : List Str} {sp : Sp} {dvs : List V} {ds : List Value} {E : XK} {x m : Str} {p pos apos : Pos} {e : Expr} {es : List Expr} {t : TA}
/-- C.m(e, ..) -/
theorem pe_clsf {pl : Sem Bool} (hg : Gl X x) (hm : X.mg x = some (.ref C)) (c : ClsF X.K C m f) (F : FnOk X.prog X.w X.K X.mg X.base CX k f fd ps sp) (hr : Room k X.A) (hb : Binds X.K fd ps ds) (hd : Vals dvs ds) (hx : Passes CX X E) (ha : PA X (e :: es) t)
    (hdb : (x == ("__debug__" : Str)) = false := by decide) (hst : starEach (e :: es) X.env = (false, eval e X.env) :: starEach es X.env := by rfl) (hpl : (backTo pos (starEach es X.env)).any (·.1) = false := by rfl)
    (ht : eval (.Call (.Attribute (.Name x p) m apos) (e :: es) [] pos) X.env = (do
      let ov ← eval (.Name x p) X.env
      standAt apos.atName
      let (f, first) ← holding [ov] (getMethod ov m pl)
      callWith pos f first (backTo pos (starEach (e :: es) X.env)) (backToKw pos (keywordEach [] X.env))) := by rfl) :
    PE X (.Call (.Attribute (.Name x p) m apos) (e :: es) [] pos) (tCall sp dvs E t) := by
  intro pins s σ H Q I h
  refine PySem.W.methodCall_KW (pl := pl) (ld_glob I hg hm ?_ hdb) ht
  obtain ⟨mc, hrd, hf⟩ := c.rd
  refine PySem.W.method_cls I.kIn c.ga (PySem.W.cls_value I.kIn hrd hf rfl ?_)
  have I1 : Inv X pins σ H { s with toks := s.toks + 1 } := I.tok _
  refine PySem.W.callWith_K (first := []) (h₀ := X.base) I.ok.mod.kin c.kp (thn (ha pos pins _ σ H _ I1 h) fun us s2 ⟨vs, H2, I2, r, q2⟩ => ⟨I2.kIn, ?_⟩) hst hpl
  exact run_fn F hr hb hd hx I2 r q2
end
section
variable {X : Cx} {k : Nat} {f C : Addr} {fd : FuncData} {ps : List Str} {sp : Sp} {dvs : List V} {ds : List Value} {x m : Str} {p pos apos : Pos} {e o : Expr} {es : List Expr} {ta : TE} {t : TA}
/-- C(e, ..) in a try suite -/
theorem pxe_make (hn : NoX X) (M : Mk X.K C f) (F : FnOk X.prog X.w X.K X.mg X.base (CXE X.prog X.w) k f fd ps sp) (hr : Room (k + 1) X.A) (hg : Gl X x) (hm : X.mg x = some (.ref C)) (hb : Binds X.K fd ps ds) (hd : Vals dvs ds) (ha : PA X (e :: es) t)
    (hdb : (x == ("__debug__" : Str)) = false := by decide) (he : starEach (e :: es) X.env = (false, eval e X.env) :: starEach es X.env := by rfl) (hpl : (backTo pos (starEach es X.env)).any (·.1) = false := by rfl) :
    PXE X (.Call (.Name x p) (e :: es) [] pos) (fun E σ H Q => t σ H fun vs H1 => ∀ y dx, H1 y = none → H1 dx = none → dx ≠ y → sp (.ref y :: (vs ++ dvs)) (upd (upd H1 dx (.own y)) y (.ins C dx [])) (fun v H2 => v = .non ∧ Q (.ref y) H2) (E σ)) := by
  intro pins s σ H Q E I h
  refine wpAny_Call_Name_kw (ld_glob I hg hm ?_ hdb)
  refine PySem.W.callWith_K (h₀ := X.base) I.ok.mod.kin M.kp (xthn (ha pos pins s σ H _ I h) hn fun us s1 ⟨vs, H1, I1, r, q⟩ => ⟨I1.kIn, ?_⟩) he hpl
  have hq := q (s1.heap.objs.size + 1) s1.heap.objs.size (I1.hok.fresh (Nat.le_succ _)) (I1.hok.fresh (Nat.le_refl _)) (Nat.ne_of_lt (Nat.lt_succ_self _))
  have I2 := Inv.made (C := C) I1
  have r2 : Vals (V.ref (s1.heap.objs.size + 1) :: (vs ++ dvs)) (Value.ref (s1.heap.objs.size + 1) :: (us ++ ds)) := .cons rfl (r.append hd)
  have hl : (Value.ref (s1.heap.objs.size + 1) :: us ++ ds).length = ps.length := by
    have e := r2.length
    rw [F.len _ _ _ _ hq] at e
    exact e.symm
  refine wpAny_call (make_map (f := f) I1.kIn M.makes M.init (beq_iff_eq.mp M.fn) (codeAny_mono (F.run _ X.stack _ _ ⟨Value.ref (s1.heap.objs.size + 1) :: us, []⟩ (Value.ref (s1.heap.objs.size + 1) :: (us ++ ds)) _ _ (E σ) (hr.make C us []) (I2.env0.make C us []) (hb _ (Value.ref (s1.heap.objs.size + 1) :: us) I2.kIn hl) r2 hq) fun r s' hq' => ?_))
  cases r with
  | error ev => exact ⟨σ, _, _, I2, hq'⟩
  | ok fl =>
    cases fl with
    | ret u =>
      obtain ⟨v, H', I3, rv, ev, q3⟩ := I2.after hq'
      subst ev
      exact ⟨rv, ⟨V.ref (s1.heap.objs.size + 1), H', I3, rfl, q3⟩⟩
    | next => exact False.elim hq'
    | brk => exact False.elim hq'
    | cont => exact False.elim hq'
end
end L2

namespace L2
open PySem PySem.Spec PyProof.Rows
section
variable {X : Cx}
end
end L2

set_option maxHeartbeats 4000000
namespace Dy
open PySem PyProof.Rows
theorem entry_loop : entryFor table "dict.update.loop" = some Builtin.«dict.update.loop» := entryFor_of_tree (by kernel_rfl)
theorem plain_loop : plainId "dict.update.loop" = true := by decide +kernel
section
variable {prog : Program} {w : World} {A : Around} {E : Value → Shared → Prop} {s : Shared}
end
section
variable {prog : Program} {w : World} {A : Around} {R : Result → Shared → Prop} {I : Addr} {fp wr : List Addr} {G : Array GenState → Array GenState → Prop} {n : Nat} {P : Nat → Value → Prop} {St : Nat → Shared → Prop} {κ : Type} [DecidableEq κ] {knd : HeapKind prog w κ}
theorem atKey_take {L : List (κ × Addr × Value)} (nd : (L.map (·.1)).Nodup) {i : Nat} {x : κ × Addr × Value} (hx : L[i]? = some x) : atKey (L.take i) x.1 = none := by
  unfold atKey
  have : (L.take i).find? (fun y => decide (y.1 = x.1)) = none := by
    rw [List.find?_eq_none]
    intro y hy
    simp only [decide_eq_true_eq]
    intro e
    obtain ⟨j, hj⟩ := List.mem_iff_getElem?.mp hy
    rw [List.getElem?_take] at hj
    by_cases q : j < i
    · rw [if_pos q] at hj
      have := idxH_unique (xs := L) nd (i := j) (j := i) (k := x.1) (p := y.2) (q := x.2) (by rw [hj, ← e]) (by rw [hx])
      omega
    · rw [if_neg q] at hj; exact nomatch hj
  rw [this]; rfl
end
section
variable {prog : Program} {w : World} {A : Around} {E : Value → Shared → Prop} {s : Shared} {κ : Type} [DecidableEq κ] {knd : HeapKind prog w κ}
end
end Dy

namespace L2
open PySem PySem.Spec PyProof.Rows
section
variable {X : Cx} {pos : Pos}
end
end L2

namespace Dq
open PySem PySem.Spec PyProof.Rows
variable {prog : Program} {w : World} {A : Around} {E : Value → Shared → Prop} {s : Shared}
end Dq
namespace L2
open PySem PySem.Spec PyProof.Rows Bg Srt
section
variable {X : Cx}
end
end L2

namespace L2
open PySem PySem.Spec PyProof.Rows
section
variable {X : Cx} {pins : List (Addr × Obj)} {σ : St} {H : Hp} {s : Shared} {d : Addr} {kvs : List (Key × V)}
end
section
variable {X : Cx} {tg : Expr}
end
end L2

set_option maxHeartbeats 4100000
namespace L2
open PySem PySem.Spec PyProof.Rows

section
variable {prog : Program} {w : World} {A : Around} {R : Result → Shared → Prop} {I : Addr} {fp wr : List Addr} {n : Nat} {P : Nat → Value → Prop} {St : Nat → Heap → Prop} {kw : List (Str × Value)}
end
section
variable {prog : Program} {w : World} {A : Around} {E : Value → Shared → Prop} {s : Shared} {xs : Array (Int × Tok)} {l : Addr}
end
section
variable {X : Cx} {K : PySem.W.Frag}
end
end L2

namespace L2
open PySem PySem.Spec PyProof.Rows
section
variable {X : Cx}
end
end L2

namespace L2
open PySem PySem.Spec PyProof.Rows
end L2

namespace L2
open PySem PySem.Spec PyProof.Rows
end L2

namespace L2
open PySem PySem.Spec PyProof.Rows Bg
section
variable {X : Cx} {pins : List (Addr × Obj)} {σ : St} {H : Hp} {s : Shared} {d : Addr} {ts : List (Int × Int)}
end
section
variable {X : Cx} {tg : Expr}
end
end L2

set_option maxHeartbeats 4000000
namespace Dy
open PySem PyProof.Rows
section
variable {prog : Program} {w : World} {A : Around} {E : Value → Shared → Prop} {s : Shared} {κ : Type} [DecidableEq κ] {knd : HeapKind prog w κ}
end
end Dy
namespace L2
open PySem PySem.Spec PyProof.Rows Bg Srt
section
variable {X : Cx}
theorem dt_new {P : Program} {w : World} {H' : Hp} {h' : Heap} {a : Addr} {kvs : List (List Key × V)} {xs : List (List Key × Addr × Value)} (z : kvs.length ≤ sizeLine) (hd : (a == sysModules) = false) (rel : KT H' kvs xs) (dd : h'.DictOfH (tupleKind (mixKind P w)) a xs) :
    ObjOk P w H' h' a (.dT kvs) := by
  obtain ⟨o, es, ep, h1, h2, h3, h4, _, h5⟩ := dd
  exact ⟨z, hd, xs, rel, o, es, ep, h1, h2, h3, h4, h5⟩
end
section
variable {X : Cx} {pins : List (Addr × Obj)} {σ : St} {H : Hp} {s : Shared} {d : Addr} {ts : List (Int × Int)} {kvs : List (List Key × V)}
end
section
variable {X : Cx} {tg : Expr}
end
end L2

namespace L2
open PySem PySem.Spec PyProof.Rows
/-! ### for x, y in zip(xs, ys) -/
section
variable {X : Cx} {K : PySem.W.Frag}
theorem boot_zip : bootBuiltins "zip" = some (.type "zip") := by decide +kernel
end
end L2

set_option maxHeartbeats 4000000
namespace Zd
open PySem PyProof.Rows
theorem zip_getattr_none : typeLookup (.type "zip") "__getattr__" = pure none := am_miss_of_fast (by kernel_rfl)
theorem zip_keys_miss : typeLookup (.type "zip") "keys" = pure none := am_miss_of_fast (by kernel_rfl)
theorem entry_ga : entryFor table "zip.__getattribute__" = some Builtin.«object.__getattribute__» := entryFor_alias (id' := "object.__getattribute__") (by kernel_rfl) (by decide +kernel) (by decide +kernel) (by kernel_rfl)
theorem meets_miss (a : Addr) (fs : Array Value) (u : Tok) : Meets (Builtin.«object.__getattribute__» ⟨[.ref a, .str "keys" u], []⟩) (fun A R s => s.heap.get? a = some { cls := .type "zip", dict := none, data := .fields fs, slots := #[] } ∧ raisesAttr (.ref a) "keys" A R s) :=
  Meets.of_wp fun prog w A R s hs => by
    obtain ⟨hp, g, d, tk, os⟩ := s; obtain ⟨hx, hs⟩ := hs
    have hT : (⟨hp, g, d, tk, os⟩ : Shared).TypeIs (.ref a) "zip" := ⟨_, hx, rfl⟩
    have hm := zip_keys_miss
    have hname : (["__module__", "__name__", "__qualname__", "__doc__", "__annotations__"] : List Str).contains "keys" = false := by decide +kernel
    unfold Builtin.«object.__getattribute__»
    repeat (any_goals (first | assumption | wp_step))
    exact wpAny_raiseAttrError hs.1 hs.2 (attrMsg_fits (by decide +kernel) (by size_fits))
section
variable {prog : Program} {w : World} {A : Around} {E : Value → Shared → Prop} {s : Shared}
/-- a zip has no keys -/
theorem no_keys {a : Addr} {fs : Array Value} {Q : Option Value → Shared → Prop} (hx : s.heap.get? a = some { cls := .type "zip", dict := none, data := .fields fs, slots := #[] }) (hA : A.handled = none)
    (h : ∀ h' tk, (∀ b o, s.heap.get? b = some o → h'.get? b = some o) → Q none { s with heap := h', toks := tk }) : wpAny (model prog w) A (getAttr? (.ref a) "keys") Q E s := by
  obtain ⟨hp, g, d, tk, os⟩ := s
  have hT : ∀ tk', (⟨hp, g, d, tk', os⟩ : Shared).TypeIs (.ref a) "zip" := fun _ => ⟨_, hx, rfl⟩
  have f1 := sub_AttributeError; have f3 := F.slot_zip_getattribute.lookup; have f4 := F.slot_zip_getattribute.bind (.ref a); have f5 := zip_getattr_none
  unfold getAttr? getAttrBy? getAttrBy
  repeat (any_goals (first | assumption | exact hT _ | ((with_reducible show wpAny _ _ (call (Value.builtin "zip.__getattribute__") _ _) _ _ _); refine call_meets F.slot_zip_getattribute (hT _) entry_ga (F.args_zip_getattribute_2 _ _) (meets_miss a fs _) ⟨hx, hA, fun h' tk' e hx' => ?_⟩) | wp_step))
  obtain ⟨t', u', he⟩ := hx'.there; show wpAny _ _ (getattributeRaised _ _ _ _ _ _ _) _ _ _; unfold getattributeRaised
  repeat (any_goals (first | assumption | wp_step))
  exact h _ _ hx'.of.keeps
end
end Zd

set_option maxHeartbeats 4000000
namespace Zd
open PySem PyProof.Rows
/-- a zip whose tuple is still in use -/
abbrev Out (h : Heap) (n T : Nat) (b : Bool) : Prop := h.get? (n + 4) = some { cls := .type "zip", dict := none, data := .fields #[rawInt T, .bool b, .bool false, .ref (n + 2), .ref (n + 3)], slots := #[] }
section
variable {prog : Program} {w : World} {A : Around} {E : Value → Shared → Prop} {s : Shared}
theorem not_free {n T : Nat} {b : Bool} {oT : Obj} {Q : Bool → Shared → Prop} (hz : Out s.heap n T b) (hT : s.heap.get? T = some oT) (h : ∀ h', Out h' n T true → Heap.SameBut (n + 4) s.heap h' → Q false { s with heap := h' }) :
    wpAny (model prog w) A (Builtin.SmallTypes.ownedTupleIsFree (.ref (n + 4))) Q E s := by
  unfold Builtin.SmallTypes.ownedTupleIsFree
  refine wpAny_bind (wpAny_field hz rfl (x := rawInt T) rfl ?_)
  show wpAny _ _ (loadIfAlive ((T : Int).toNat) >>= _) _ _ _
  rw [Int.toNat_natCast]
  refine wpAny_bind (PySem.W.kdx_alive hT ?_)
  simp only [Option.isNone_some, if_false, Bool.false_eq_true]
  refine wpAny_bind (wpAny_field hz rfl (x := .bool b) rfl ?_)
  cases b with
  | true =>
    have e : (Value.bool true != Value.bool true) = false := by decide
    rw [e]
    simp only [if_false, Bool.false_eq_true]
    exact wpAny_pure (h s.heap hz ⟨rfl, fun _ _ => rfl⟩)
  | false =>
    have e : (Value.bool false != Value.bool true) = true := by decide
    rw [e]
    simp only [if_true]
    refine wpAny_bind (wpAny_setField_rec hz (by simp) fun h1 hz1 s1 => wpAny_pure (h h1 hz1 s1))
theorem more_item {n l1 l2 T k : Nat} {b : Bool} {oT : Obj} {xs ys : Array Value} {x y : Value} {Q : Option Value → Shared → Prop} (q1 : l1 < n) (q2 : l2 < n) (hz : Out s.heap n T b) (hT : s.heap.get? T = some oT)
    (hTI : IsPair s.heap (n + 2) (.ref n) (.ref (n + 1))) (h1 : s.heap.IsListIter n l1 k) (h2 : s.heap.IsListIter (n + 1) l2 k) (hl1 : s.heap.IsList l1 xs) (hl2 : s.heap.IsList l2 ys) (hx : xs[k]? = some x) (hy : ys[k]? = some y)
    (hQ : ∀ h', Out h' n T true → h'.IsListIter n l1 (k + 1) → h'.IsListIter (n + 1) l2 (k + 1) → IsPair h' s.heap.objs.size x y → (∀ e o, e ≠ n → e ≠ n + 1 → e ≠ n + 4 → s.heap.get? e = some o → h'.get? e = some o) → Q (some (.ref s.heap.objs.size)) { s with heap := h' }) :
    wpAny (model prog w) A (pyNext (.ref (n + 4))) Q E s := by
  have hTy : s.TypeIs (.ref (n + 4)) "zip" := ⟨_, hz, rfl⟩
  have d40 : (n + 4 : Nat) ≠ n := by omega
  have d41 : (n + 4 : Nat) ≠ n + 1 := by omega
  have d10 : (n + 1 : Nat) ≠ n := by omega
  have d01 : (n : Nat) ≠ n + 1 := by omega
  unfold pyNext
  refine wpAny_bind (wpAny_attempt (wpAny_callSpecial?_slot (name := Str.ofString "__next__") hTy F.slot_zip_next (wpAny_call_entry F.slot_zip_next hTy F.entry_zip_next ?_ (F.args_zip_next_1 _))))
  show wpAny _ _ (field (.ref (n + 4)) 2 >>= _) _ _ _
  refine wpAny_bind (wpAny_field hz rfl (x := .bool false) rfl ?_)
  show wpAny _ _ (field (.ref (n + 4)) 3 >>= _) _ _ _
  refine wpAny_bind (wpAny_field hz rfl (x := .ref (n + 2)) rfl (wpAny_bind (wpAny_seqItems hTI rfl ?_)))
  show wpAny _ _ (Builtin.SmallTypes.ownedTupleIsFree (.ref (n + 4)) >>= _) _ _ _
  refine wpAny_bind (not_free hz hT fun g1 z1 s1 => ?_)
  have k1 : ∀ e o, e ≠ n + 4 → s.heap.get? e = some o → g1.get? e = some o := fun e o he q => s1.extBut e o he q
  simp only [if_false, Bool.false_eq_true]
  refine wpAny_bind ?_
  try rw [← Array.forIn_toList]
  simp only [List.forIn_cons, List.forIn_nil]
  refine wpAny_bind (wpAny_bind (wpAny_holding ?_)); show wpAny _ _ (Builtin.SmallTypes.nextOf (.ref n) >>= _) _ _ _
  refine wpAny_bind (wpAny_nextOf_list_item (h1.at fun o q => k1 _ o (by omega) q) (hl1.at fun o q => k1 _ o (by omega) q) hx fun g2 i2 s2 => wpAny_pure (wpAny_pure ?_))
  have k2 : ∀ e o, e ≠ n + 4 → e ≠ n → s.heap.get? e = some o → g2.get? e = some o := fun e o he h0 q => s2.extBut e o h0 (k1 e o he q)
  refine wpAny_bind (wpAny_bind (wpAny_holding ?_)); show wpAny _ _ (Builtin.SmallTypes.nextOf (.ref (n + 1)) >>= _) _ _ _
  refine wpAny_bind (wpAny_nextOf_list_item (h2.at fun o q => k2 _ o (by omega) (by omega) q) (hl2.at fun o q => k2 _ o (by omega) (by omega) q) hy fun g3 i3 s3 => wpAny_pure (wpAny_pure (wpAny_pure ?_)))
  have k3 : ∀ e o, e ≠ n → e ≠ n + 1 → e ≠ n + 4 → s.heap.get? e = some o → g3.get? e = some o := fun e o a0 a1 a4 q => s3.extBut e o a1 (k2 e o a4 a0 q)
  have z3 : Out g3 n T true := s3.extBut (n + 4) _ d41 (s2.extBut (n + 4) _ d40 z1)
  have i2' : g3.IsListIter n l1 (k + 1) := i2.at fun o q => s3.extBut n _ d01 q
  have sz : g3.objs.size = s.heap.objs.size := by rw [s3.1, s2.1, s1.1]
  dsimp only
  refine wpAny_bind (wpAny_newTuple ?_ (by show 2 ≤ sizeLine; rw [sizeLine_eq]; decide))
  refine wpAny_pure ⟨_, rfl, wpAny_pure ?_⟩
  have up : ∀ {c : Nat} {o : Obj}, g3.get? c = some o → (g3.push { cls := .type "tuple", data := .seq #[x, y] }).get? c = some o := fun e => Heap.get?_push_of_some _ e
  have hp : IsPair (g3.push { cls := .type "tuple", data := .seq #[x, y] }) g3.objs.size x y := Heap.get?_push_size _ rfl
  rw [sz] at hp ⊢
  exact hQ _ (up z3) (i2'.at fun o q => up q) (i3.at fun o q => up q) hp fun e o a0 a1 a4 q => up (k3 e o a0 a1 a4 q)
theorem more_end {n l1 T k : Nat} {b : Bool} {oT : Obj} {xs : Array Value} {Q : Option Value → Shared → Prop} (hh : A.handled = none) (q1 : l1 < n) (hz : Out s.heap n T b) (hT : s.heap.get? T = some oT)
    (hTI : IsPair s.heap (n + 2) (.ref n) (.ref (n + 1))) (h1 : s.heap.IsListIter n l1 k) (hl1 : s.heap.IsList l1 xs) (hx : xs[k]? = none)
    (hQ : ∀ h', (∀ e o, e ≠ n → e ≠ n + 4 → s.heap.get? e = some o → h'.get? e = some o) → Q none { s with heap := h' }) :
    wpAny (model prog w) A (pyNext (.ref (n + 4))) Q E s := by
  have hTy : s.TypeIs (.ref (n + 4)) "zip" := ⟨_, hz, rfl⟩
  unfold pyNext
  refine wpAny_bind (wpAny_attempt (wpAny_callSpecial?_slot (name := Str.ofString "__next__") hTy F.slot_zip_next (wpAny_call_entry F.slot_zip_next hTy F.entry_zip_next ?_ (F.args_zip_next_1 _))))
  show wpAny _ _ (field (.ref (n + 4)) 2 >>= _) _ _ _
  refine wpAny_bind (wpAny_field hz rfl (x := .bool false) rfl ?_)
  show wpAny _ _ (field (.ref (n + 4)) 3 >>= _) _ _ _
  refine wpAny_bind (wpAny_field hz rfl (x := .ref (n + 2)) rfl (wpAny_bind (wpAny_seqItems hTI rfl ?_)))
  show wpAny _ _ (Builtin.SmallTypes.ownedTupleIsFree (.ref (n + 4)) >>= _) _ _ _
  refine wpAny_bind (not_free hz hT fun g1 z1 s1 => ?_)
  have k1 : ∀ e o, e ≠ n + 4 → s.heap.get? e = some o → g1.get? e = some o := fun e o he q => s1.extBut e o he q
  simp only [if_false, Bool.false_eq_true]
  refine wpAny_bind ?_
  try rw [← Array.forIn_toList]
  simp only [List.forIn_cons, List.forIn_nil]
  refine wpAny_bind (wpAny_bind (wpAny_holding ?_)); show wpAny _ _ (Builtin.SmallTypes.nextOf (.ref n) >>= _) _ _ _
  refine wpAny_bind (wpAny_nextOf_list_end (by simpa using hh) (h1.at fun o q => k1 _ o (by omega) q) (hl1.at fun o q => k1 _ o (by omega) q) hx fun g2 e s2 he => ?_)
  obtain ⟨oe, hoe, hce⟩ := he
  refine wpAny_bind (wpAny_isInstance (U := "StopIteration") (T := "StopIteration") (b := true) ⟨oe, hoe, hce⟩ isSubtype_stop ?_)
  exact wpAny_pure (hQ _ fun c o c0 c4 q => s2 c o c0 (k1 c o c4 q))
end
end Zd

set_option maxHeartbeats 4000000
namespace Zd
open PySem PyProof.Rows
section
variable {prog : Program} {w : World} {A : Around} {R : Result → Shared → Prop} {κ : Type} [DecidableEq κ] {knd : HeapKind prog w κ}
/-- the zip as it stands at turn i -/
def ZSt (n d i : Nat) (h : Heap) : Prop := (i = 0 ∧ IsZip h (n + 4) (n + 2) (n + 3) .none ∧ ∃ a b, IsPair h (n + 3) a b) ∨ (∃ (T : Nat) (b : Bool) (oT : Obj), Out h n T b ∧ h.get? T = some oT ∧ T ≠ d ∧ T ≠ n ∧ T ≠ n + 1 ∧ T ≠ n + 4)
theorem apart {n l1 l2 : Nat} (q1 : l1 < n) (q2 : l2 < n) : ZipApart (n + 4) (n + 2) (n + 3) n (n + 1) l1 l2 := by
  constructor <;> (intro z; have z' : (_ : Nat) = _ := z; omega)
theorem turn {n l1 l2 d i : Nat} {xs ys : Array Value} {x y : Value} {s : Shared} {E : Value → Shared → Prop} {Q : Option Value → Shared → Prop} (q1 : l1 < n) (q2 : l2 < n) (st : ZSt n d i s.heap) (nd : n + 4 < d) (ds : d < s.heap.objs.size)
    (hTI : IsPair s.heap (n + 2) (.ref n) (.ref (n + 1))) (h1 : s.heap.IsListIter n l1 i) (h2 : s.heap.IsListIter (n + 1) l2 i) (hl1 : s.heap.IsList l1 xs) (hl2 : s.heap.IsList l2 ys) (hx : xs[i]? = some x) (hy : ys[i]? = some y)
    (hQ : ∀ h', ZSt n d (i + 1) h' → IsPair h' (n + 2) (.ref n) (.ref (n + 1)) → h'.IsListIter n l1 (i + 1) → h'.IsListIter (n + 1) l2 (i + 1) → IsPair h' s.heap.objs.size x y → (∀ e o, e < n → s.heap.get? e = some o → h'.get? e = some o) → (∀ o, s.heap.get? d = some o → h'.get? d = some o) → Q (some (.ref s.heap.objs.size)) { s with heap := h' }) :
    wpAny (model prog w) A (pyNext (.ref (n + 4))) Q E s := by
  rcases st with ⟨rfl, hz, a, b, hTO⟩ | ⟨T, b, oT, hz, hT, nT, nT0, nT1, nT4⟩
  · refine wpAny_pyNext_zip_item (apart q1 q2) hz hTI hTO h1 h2 hl1 hl2 hx hy fun h' a1 a2 a3 a4 a5 a6 hk0 => ?_
    have hk : ∀ (c : Nat) (o : Obj), c ≠ n + 4 → c ≠ n + 3 → c ≠ n → c ≠ n + 1 → s.heap.get? c = some o → h'.get? c = some o := hk0
    refine hQ h' (.inr ⟨s.heap.objs.size, false, _, a1, a5, by omega, by omega, by omega, by omega⟩) (hk (n + 2) _ (by omega) (by omega) (by omega) (by omega) hTI) a3 a4 a5 (fun e o he q => hk e o (by omega) (by omega) (by omega) (by omega) q) fun o q => hk d o (by omega) (by omega) (by omega) (by omega) q
  · refine more_item q1 q2 hz hT hTI h1 h2 hl1 hl2 hx hy fun h' a1 a3 a4 a5 hk => ?_
    refine hQ h' (.inr ⟨T, true, oT, a1, hk T _ nT0 nT1 nT4 hT, nT, nT0, nT1, nT4⟩) (hk (n + 2) _ (by omega) (by omega) (by omega) hTI) a3 a4 a5 (fun e o he q => hk e o (by omega) (by omega) (by omega) q) fun o q => hk d o (by omega) (by omega) (by omega) q
/-- the dict is filled out of the zip -/
theorem fillZ {n l1 l2 d : Nat} {base : Heap} {xs ys : Array Value} (hh : A.handled = none) (hu : knd.room A.in1) (q1 : l1 < n) (q2 : l2 < n) (nd4 : n + 4 < d) (hb : base.objs.size = n) (L : List (κ × Addr × Value)) (nd : (L.map (·.1)).Nodup) (hz : L.length ≤ sizeLine)
    (hxs : xs.size = L.length) (hX : ∀ (i : Nat) (x : κ × Addr × Value), L[i]? = some x → xs[i]? = some (.ref x.2.1) ∧ ys[i]? = some x.2.2) (hl1 : base.IsList l1 xs) (hl2 : base.IsList l2 ys) (hK : ∀ h x, x ∈ L → (∀ b ob, base.get? b = some ob → h.get? b = some ob) → knd.is h x.1 x.2.1) :
    ∀ (k i : Nat) (s : Shared) (j : Int) (t : Tok), L.length - i = k → i ≤ L.length → (∀ b ob, base.get? b = some ob → s.heap.get? b = some ob) → d < s.heap.objs.size → ZSt n d i s.heap → IsPair s.heap (n + 2) (.ref n) (.ref (n + 1)) → s.heap.IsListIter n l1 i → s.heap.IsListIter (n + 1) l2 i → s.heap.DictOfH knd d (L.take i) →
      (∀ h' tk, h'.DictOfH knd d L → (∀ b ob, base.get? b = some ob → h'.get? b = some ob) → R (.ok (.ret .none)) { s with heap := h', toks := tk }) →
      codeAny (model prog w) A (.builtin "dict.update.loop" ⟨[.ref d, .ref (n + 4), .int j t, .none], []⟩) R s := by
  intro k
  induction k with
  | zero =>
    intro i s j t hk hi kp ds st hTI h1 h2 hD hR
    obtain rfl : i = L.length := by omega
    rw [List.take_length] at hD
    have e1 : xs[L.length]? = none := by rw [← hxs]; simp
    have L1 := hl1.at fun o q => kp _ o q
    have fin : ∀ h', (∀ e o, e ≠ n → e ≠ n + 3 → e ≠ n + 1 → e ≠ n + 4 → s.heap.get? e = some o → h'.get? e = some o) → R (.ok (.ret .none)) { s with heap := h' } := fun h' kk => by
      obtain ⟨o, es, ep, ho, hc, hd, he, his, hn⟩ := hD
      have kb : ∀ (b : Nat) ob, base.get? b = some ob → h'.get? b = some ob := fun b ob q => by
        have lb : (b : Nat) < n := by rw [← hb]; exact Heap.lt_size q
        exact kk b ob (by omega) (by omega) (by omega) (by omega) (kp b ob q)
      exact hR h' s.toks ⟨o, es, ep, kk d o (by omega) (by omega) (by omega) (by omega) ho, hc, hd, he, fun x hx => hK _ x hx kb, hn⟩ kb
    refine codeAny_builtin Dy.entry_loop ?_
    rw [Around.under_plainId Dy.plain_loop _]; show wpAny _ A.in1 (pyNext (.ref (n + 4)) >>= _) _ _ s
    rcases st with ⟨i0, hz0, a, b, hTO⟩ | ⟨T, b, oT, hz0, hT, nT, nT0, nT1, nT4⟩
    · refine wpAny_bind (wpAny_pyNext_zip_end (by simpa using hh) (apart q1 q2) hz0 hTI hTO h1 h2 L1 (hl2.at fun o q => kp _ o q) (.inl e1) fun h' kk => ?_)
      show wpAny _ _ (Builtin.Dict.addKeywords d [] >>= _) _ _ _
      exact wpAny_bind (wpAny_pure (wpAny_pure (fin h' fun e o a0 a3 a1 a4 q => kk e o a4 a3 a0 a1 q)))
    · refine wpAny_bind (more_end (by simpa using hh) q1 hz0 hT hTI h1 L1 e1 fun h' kk => ?_)
      show wpAny _ _ (Builtin.Dict.addKeywords d [] >>= _) _ _ _
      exact wpAny_bind (wpAny_pure (wpAny_pure (fin h' fun e o a0 _ _ a4 q => kk e o a0 a4 q)))
  | succ k ih =>
    intro i s j t hk hi kp ds st hTI h1 h2 hD hR
    have li : i < L.length := by omega
    obtain ⟨x, hx⟩ : ∃ x, L[i]? = some x := ⟨L[i], List.getElem?_eq_getElem li⟩
    obtain ⟨hx1, hx2⟩ := hX i x hx
    refine codeAny_builtin Dy.entry_loop ?_
    rw [Around.under_plainId Dy.plain_loop _]; show wpAny _ A.in1 (pyNext (.ref (n + 4)) >>= _) _ _ s
    refine wpAny_bind (turn q1 q2 st nd4 ds hTI h1 h2 (hl1.at fun o q => kp _ o q) (hl2.at fun o q => kp _ o q) hx1 hx2 fun h' st' hTI' h1' h2' hP kk kd => ?_)
    have kb : ∀ (b : Nat) ob, base.get? b = some ob → h'.get? b = some ob := fun b ob q => by
      have lb : (b : Nat) < n := by rw [← hb]; exact Heap.lt_size q
      exact kk b ob lb (kp b ob q)
    have hTy : Shared.TypeIs { s with heap := h' } (.ref s.heap.objs.size) "tuple" := ⟨_, hP, rfl⟩
    have hk1 := hK h' x (List.mem_of_getElem? hx) kb
    have hD' : h'.DictOfH knd d (L.take i) := by
      obtain ⟨o, es, ep, ho, hc, hd, he, his, hn⟩ := hD
      exact ⟨o, es, ep, kd o ho, hc, hd, he, fun y hy => hK _ y (List.mem_of_mem_take hy) kb, hn⟩
    refine wpAny_bind (wpAny_holding (wpAny_bind (wpAny_tryCatch ?_)))
    unfold Builtin.Dict.pairItems
    refine wpAny_bind (wpAny_typeOf hTy ?_)
    have e1 : ((Value.type "tuple" == Value.type "list") || (Value.type "tuple" == Value.type "tuple")) = true := by decide +kernel
    rw [if_pos e1]
    refine wpAny_bind (wpAny_seqItems hP rfl (wpAny_pure ?_))
    show wpAny _ _ (holding [Value.ref x.2.1, x.2.2] (dictSet d (.ref x.2.1) x.2.2)) _ _ _
    refine wpAny_holding (wpAny_dictSet_heap (hsz := by rw [List.length_take]; omega) hu hk1 hD' fun g2 hD2 sb => ?_)
    have hD3 : g2.DictOfH knd d (L.take (i + 1)) := by
      rw [storedH_new (Dy.atKey_take nd hx)] at hD2
      rw [List.take_add_one, hx]
      exact hD2
    have up : ∀ (c : Nat) (o : Obj), c ≠ d → h'.get? c = some o → g2.get? c = some o := fun c o hc q => by rw [sb.2 c hc]; exact q
    refine wpAny_pure ⟨plainId_quiet Dy.plain_loop _, ih (i + 1) _ _ _ (by omega) li (fun b ob q => ?_) ?_ ?_ ?_ ?_ ?_ hD3 fun h3 tk hD4 kb3 => hR h3 tk hD4 kb3⟩
    · have lb : b < n := by rw [← hb]; exact Heap.lt_size q
      have bd : (b : Nat) ≠ d := Nat.ne_of_lt (Nat.lt_trans lb (Nat.lt_of_le_of_lt (Nat.le_add_right n 4) nd4))
      exact up b ob bd (kb b ob q)
    · show d < g2.objs.size
      obtain ⟨o, _, _, ho, _⟩ := hD3
      exact Heap.lt_size ho
    · rcases st' with ⟨z, _⟩ | ⟨T, b, oT, hz0, hT, nT, nT0, nT1, nT4⟩
      · omega
      · exact .inr ⟨T, b, oT, up (n + 4) _ (by omega) hz0, up T _ nT hT, nT, nT0, nT1, nT4⟩
    · exact up (n + 2) _ (by omega) hTI'
    · exact h1'.at fun o q => up n o (by omega) q
    · exact h2'.at fun o q => up (n + 1) o (by omega) q
end
end Zd

set_option maxHeartbeats 4000000
namespace Zd
open PySem PyProof.Rows
section
variable {prog : Program} {w : World} {A : Around} {E : Value → Shared → Prop} {s : Shared} {κ : Type} [DecidableEq κ] {knd : HeapKind prog w κ}
/-- dict(a new zip), the keys new each -/
theorem of_zip {n l1 l2 : Nat} {base : Heap} {xs ys : Array Value} {L : List (κ × Addr × Value)} {Q : Value → Shared → Prop} (hh : A.handled = none) (hu : knd.room A.in1.in1) (q1 : l1 < n) (q2 : l2 < n) (hb : base.objs.size = n) (nd : (L.map (·.1)).Nodup) (hz : L.length ≤ sizeLine)
    (hxs : xs.size = L.length) (hX : ∀ (i : Nat) (x : κ × Addr × Value), L[i]? = some x → xs[i]? = some (.ref x.2.1) ∧ ys[i]? = some x.2.2) (hl1 : base.IsList l1 xs) (hl2 : base.IsList l2 ys) (hK : ∀ h x, x ∈ L → (∀ b ob, base.get? b = some ob → h.get? b = some ob) → knd.is h x.1 x.2.1)
    (kp : ∀ b ob, base.get? b = some ob → s.heap.get? b = some ob) (z : IsZip s.heap (n + 4) (n + 2) (n + 3) .none) (hTI : IsPair s.heap (n + 2) (.ref n) (.ref (n + 1))) (hTO : IsPair s.heap (n + 3) .none .none) (h1 : s.heap.IsListIter n l1 0) (h2 : s.heap.IsListIter (n + 1) l2 0)
    (h : ∀ (h' : Heap) (tk : Nat), h'.DictOfH knd s.heap.objs.size L → (∀ b ob, base.get? b = some ob → h'.get? b = some ob) → Q (.ref s.heap.objs.size) { s with heap := h', toks := tk }) :
    wpAny (model prog w) A (call (.type "dict") [.ref (n + 4)]) Q E s := by
  refine callType_codes (Q₁ := fun obj s₁ => obj = .ref s.heap.objs.size ∧ s₁ = { s with heap := s.heap.push { cls := .type "dict", data := .dict #[] } }) PySem.F.kt_called_dict (PySem.F.kt_typeCall_dict_1 _) PySem.F.entry_dict_init (kt_code_dict_new _ ⟨rfl, rfl⟩) ?_
  rintro obj s₁ ⟨rfl, rfl⟩
  have up : ∀ {c : Nat} {o : Obj}, s.heap.get? c = some o → (s.heap.push { cls := .type "dict", data := .dict #[] }).get? c = some o := fun e => Heap.get?_push_of_some _ e
  have hTd : Shared.TypeIs { s with heap := s.heap.push { cls := .type "dict", data := .dict #[] } } (.ref s.heap.objs.size) "dict" := ⟨_, Heap.get?_push_size _ rfl, rfl⟩
  have z1 : IsZip (s.heap.push { cls := .type "dict", data := .dict #[] }) (n + 4) (n + 2) (n + 3) .none := up z
  have hTz : Shared.TypeIs { s with heap := s.heap.push { cls := .type "dict", data := .dict #[] } } (.ref (n + 4)) "zip" := ⟨_, z1, rfl⟩
  refine ⟨hTd, PySem.F.args_dict_init_2 _ _, ?_⟩
  unfold Builtin.«dict.__init__»; refine wpAny_bind ?_
  unfold Builtin.Dict.selfAndRest; refine wpAny_bind (wpAny_notOrdered_dict hTd ?_)
  show wpAny _ _ (pure (s.heap.objs.size, [Value.ref (n + 4)])) _ _ _
  refine wpAny_pure ?_
  show wpAny _ _ (Builtin.Dict.updateFrom "dict.__init__" s.heap.objs.size (.ref (n + 4)) [] .none) _ _ _
  unfold Builtin.Dict.updateFrom; refine wpAny_bind (wpAny_typeOf hTz ?_)
  rw [if_pos (by decide)]
  refine wpAny_bind (no_keys z1 (by simp [hh]) fun g1 tk1 k1 => ?_)
  simp only [Option.isNone_none, if_true]
  refine wpAny_bind (wpAny_rule ?_)
  have nz : n + 4 < s.heap.objs.size := Heap.lt_size z
  have z2 : IsZip g1 (n + 4) (n + 2) (n + 3) .none := k1 _ _ z1
  have gd : g1.get? s.heap.objs.size = some { cls := .type "dict", data := .dict #[] } := k1 _ _ (Heap.get?_push_size _ rfl)
  have dl : s.heap.objs.size < g1.objs.size := Heap.lt_size gd
  refine wpAny_bind (wpAny_pyIter_zip (s := { s with heap := g1, toks := tk1 }) z2 ?_)
  refine wpAny_pure ⟨plainId_quiet Dy.plain_loop _, ?_⟩
  refine fillZ (knd := knd) (n := n) (d := s.heap.objs.size) (base := base) (xs := xs) (ys := ys) (by simp [hh]) hu q1 q2 nz hb L nd hz hxs hX hl1 hl2 hK L.length 0 _ _ _ (by omega) (Nat.zero_le _) (fun b ob q => k1 _ _ (up (kp b ob q))) dl (.inl ⟨rfl, z2, _, _, k1 _ _ (up hTO)⟩) (k1 _ _ (up hTI)) (h1.at fun o q => k1 _ _ (up q)) (h2.at fun o q => k1 _ _ (up q)) ?_ ?_
  · rw [List.take_zero]
    exact ⟨_, #[], _, gd, ⟨rfl, rfl, rfl⟩, rfl, rfl, fun x hx => absurd hx (by simp), List.nodup_nil⟩
  · intro g2 tk2 hD kb
    exact ⟨rfl, h g2 tk2 hD kb⟩
end
end Zd

set_option maxHeartbeats 4000000
namespace L2
open PySem PySem.Spec PyProof.Rows Bg
theorem boot_dictZ : bootBuiltins "dict" = some (.type "dict") := by decide +kernel
/-- a tuple that is a key -/
def KyL (H : Hp) (v : V) (k : List Key) : Prop := ∃ p, v = .ref p ∧ H p = some (.tup (k.map kV))
/-- dict(zip(a, b)), a a list of tuples that differ -/
def tDictZ (ta : TA) : TE := fun σ H Q => ta σ H fun vs H1 => ∃ (a b : Addr) (xs ys : List V) (ks : List (List Key)), vs = [.ref a, .ref b] ∧ H1 a = some (.lst xs) ∧ H1 b = some (.lst ys) ∧ Paired (KyL H1) xs ks ∧ ks.length = ys.length ∧ ks.Nodup ∧ ks.length ≤ 5000 ∧ ∀ p H', New H1 p (.dT (ks.zip ys)) H' → Q (.ref p) H'
theorem zip_kt {P : Program} {w : World} {H : Hp} {h : Heap} (hok : HOk P w H h) : ∀ {xs ys : List V} {ks : List (List Key)} {us vs : List Value}, Paired (KyL H) xs ks → Vals xs us → Vals ys vs → ks.length = ys.length →
    ∃ L : List (List Key × Addr × Value), KT H (ks.zip ys) L ∧ L.map (·.1) = ks ∧ us = L.map (fun x => Value.ref x.2.1) ∧ vs = L.map (fun x => x.2.2) := by
  intro xs ys ks us vs hp
  induction hp generalizing ys us vs with
  | nil =>
    intro hu hv hl
    cases hu
    cases ys with
    | nil => cases hv; exact ⟨[], .nil, rfl, rfl, rfl⟩
    | cons => cases hl
  | @cons x k xs ks a t ih =>
    intro hu hv hl
    cases hu with
    | @cons _ u _ us ru rus =>
      cases hv with
      | nil => cases hl
      | @cons y v _ vs rv rvs =>
        obtain ⟨L, kt, e1, e2, e3⟩ := ih rus rvs (Nat.succ.inj hl)
        obtain ⟨p, rfl, hp⟩ := a
        obtain rfl : u = Value.ref p := ru
        exact ⟨(k, p, v) :: L, .cons ⟨rfl, hp, rv⟩ kt, by rw [List.map_cons, e1], by rw [List.map_cons, ← e2], by rw [List.map_cons, ← e3]⟩
section
variable {X : Cx}
theorem pe_dictZ {l m : Expr} {ta : TA} {p p2 pos pos2 : Pos} (cm : X.calm = true) (hu : X.A.units + 2 < cLine) (hgd : Gl X "dict") (hmd : X.mg "dict" = none) (hg : Gl X "zip") (hm : X.mg "zip" = none) (ha : PA X [l, m] ta)
    (hs : starEach [l, m] X.env = [(false, eval l X.env), (false, eval m X.env)] := by rfl) (hs2 : starEach [m] X.env = [(false, eval m X.env)] := by rfl)
    (hs3 : starEach [Expr.Call (.Name "zip" p2) [l, m] [] pos2] X.env = [(false, eval (.Call (.Name "zip" p2) [l, m] [] pos2) X.env)] := by rfl) :
    PE X (.Call (.Name "dict" p) [.Call (.Name "zip" p2) [l, m] [] pos2] [] pos) (tDictZ ta) := by
  intro pins s σ H Q I h
  refine wpAny_Call_Name_kw (ld_blt I hgd hmd boot_dictZ ?_)
  refine PyProof.Rows.callWith_type1 ?_ (by rw [hs3]; rfl) (by rfl)
  rw [hs3]
  show wpAny _ _ (spliced [(false, eval (.Call (.Name "zip" p2) [l, m] [] pos2) X.env)]) _ _ _
  refine Calls.spliced_cons ?_
  refine wpAny_Call_Name_kw (ld_blt I hg hm boot_zip ?_)
  refine PyProof.Rows.callWith_type1 (thn (ha pos2 pins s σ H _ I h) fun us s1 ⟨vs, H1, I1, r1, q1⟩ => ?_) (by rw [hs, hs2]) (by rw [hs2]; rfl)
  obtain ⟨a, b, xs, ys, ks, e, hA, hB, pk, lk, nd, l5, q⟩ := q1
  subst e
  obtain ⟨u1, u2, rfl, r1, r2⟩ := vals2 r1
  cases r1
  cases r2
  obtain ⟨z1, its1, n1, rv1, o1⟩ := (show ObjOk X.prog X.w H1 s1.heap a (.lst xs) from I1.hok a _ hA)
  obtain ⟨z2, its2, n2, rv2, o2⟩ := (show ObjOk X.prog X.w H1 s1.heap b (.lst ys) from I1.hok b _ hB)
  obtain ⟨L, kt, e1, rfl, rfl⟩ := zip_kt I1.hok pk rv1 rv2 lk
  have L1 : s1.heap.IsList a (L.map fun x => Value.ref x.2.1).toArray := ⟨_, o1, rfl, _, rfl⟩
  have L2' : s1.heap.IsList b (L.map fun x => x.2.2).toArray := ⟨_, o2, rfl, _, rfl⟩
  have la : a < s1.heap.objs.size := Heap.lt_size o1
  have lb : b < s1.heap.objs.size := Heap.lt_size o2
  have lL : L.length = ks.length := by rw [← e1, List.length_map]
  refine call_zip_2 L1 L2' fun h' hz hTI hTO h1 h2 hsz hk => ?_
  refine Calls.spliced_nil ?_
  have hr : (tupleKind (mixKind X.prog X.w)).room X.A.in1.in1 := hu
  refine Zd.of_zip (s := { s1 with heap := h' }) (knd := tupleKind (mixKind X.prog X.w)) (n := s1.heap.objs.size) (base := s1.heap) (L := L) (I1.ok.hd cm) hr la lb rfl (by rw [e1]; exact nd) (by rw [sizeLine_eq]; omega) (by simp) (fun i x hx => ?_) L1 L2' (fun g x hx kb => ?_) hk hz hTI hTO h1 h2 fun g tk dd kb => ?_
  · rw [List.getElem?_toArray, List.getElem?_toArray, List.getElem?_map, List.getElem?_map, hx]
    exact ⟨rfl, rfl⟩
  · obtain ⟨i, hi⟩ := List.mem_iff_getElem?.mp hx
    obtain ⟨kv, hkv, a1, a2, a3⟩ := paired_getr kt hi
    obtain ⟨o, its, n, g1, g2, g3, g4⟩ := key_of I1.hok a2
    rw [← a1]
    exact ⟨o, its, n, kb _ _ g1, g2, g3, g4⟩
  · have lt : s1.heap.objs.size ≤ h'.objs.size := by rw [hsz]; exact Nat.le_add_right _ _
    have hf : H1 h'.objs.size = none := I1.hok.fresh lt
    have hs : (h'.objs.size == sysModules) = false := beq_eq_false_iff_ne.mpr (Ne.symm (Nat.ne_of_lt (Nat.lt_of_lt_of_le I1.big lt)))
    refine ⟨.ref h'.objs.size, _, I1.laid (t' := tk) (o := .dT (ks.zip ys)) (fun c o e => kb c o e) lt (dt_new (by rw [List.length_zip, sizeLine_eq]; omega) hs (kt.keeps fun c zs ec => ?_) dd), rfl, q _ _ (New.mk0 hf)⟩
    rw [upd_ne (ne_of_none ec hf)]
    exact ec
end
end L2

namespace L2
open PySem PySem.Spec PySem.Calls PyProof.Rows
/-- a def (or method) of the text that has defaults -/
structure FunD (K : PySem.W.Frag) (x qual : Str) (st : Stmt) (f : Addr) (fd : FuncData) : Prop where
  ex : ∃ (oc : Value) (od : Option Addr) (dV kV doc pm : Value) (an : Option Addr) (cdv ct : Value) (osl : Array (Option Value)),
    fd = PySem.W.fnOf x qual (defArgs st) (defBody st) (defScope st) dV kV doc pm an cdv ct ∧ K.lookup f = some ⟨oc, od, .func fd, osl⟩ ∧ PySem.W.codeIn K cdv qual = true
  kp : PySem.W.keepIn K (.ref f) = true
section
variable {P : Program} {w : World} {K : PySem.W.Frag} {mg : Str → Option Value} {base : Heap} {x qual : Str} {st : Stmt} {f : Addr} {fd : FuncData} {N ps : List Str} {k : Nat} {sp : Sp}
theorem FunD.ok (F : FunD K x qual st f fd) (S : FnScope N ps (defScope st)) (len : ∀ vs H Q E, sp vs H Q E → vs.length = ps.length)
    (hb : ∀ (cdv : Value) (A : Around) (outer : List Env) (s : Shared) (H : Hp) (vs : List V) (Q : VK) (E : XK), Room k (A.deeper (envOfC qual (defScope st) s.heap.objs.size f cdv)) → sp vs H Q E →
      ∃ t, PSs (cxOf CX0 P w K mg base N qual (defScope st) f cdv A outer s H E).nox (defBody st) t ∧ t { nx := fun _ H' => Q .non H', rt := Q } (start N vs) H) : FnOk P w K mg base CX0 (k + 1) f fd ps sp := by
  obtain ⟨_, _, _, _, _, _, _, cdv, _, _, rfl, lk, hcd⟩ := F.ex
  exact fn_of lk hcd S len fun A outer s H vs Q E hr hsp => (hb cdv A outer s H vs Q E hr hsp).imp fun t h => ⟨h.1.nox, h.2⟩
theorem FunD.okE (F : FunD K x qual st f fd) (S : FnScope N ps (defScope st)) (len : ∀ vs H Q E, sp vs H Q E → vs.length = ps.length)
    (hb : ∀ (cdv : Value) (A : Around) (outer : List Env) (s : Shared) (H : Hp) (vs : List V) (Q : VK) (E : XK), Room k (A.deeper (envOfC qual (defScope st) s.heap.objs.size f cdv)) → sp vs H Q E →
      ∃ t, PSs (cxOf (CXE P w) P w K mg base N qual (defScope st) f cdv A outer s H E) (defBody st) t ∧ t { nx := fun _ H' => Q .non H', rt := Q } (start N vs) H) : FnOk P w K mg base (CXE P w) (k + 1) f fd ps sp := by
  obtain ⟨_, _, _, _, _, _, _, cdv, _, _, rfl, lk, hcd⟩ := F.ex
  exact fn_of lk hcd S len fun A outer s H vs Q E hr hsp => hb cdv A outer s H vs Q E hr hsp
end
/-- a method whose last parameter is None if it is not given -/
structure DmD (K : PySem.W.Frag) (C : Addr) (m qual : Str) (st : Stmt) (ps : List Str) where
  f : Addr
  fd : FuncData
  F : FunD K m qual st f fd
  b : Binds K fd ps []
  b1 : Binds K fd ps [.none]
  mt : Meth K C m f
def dmd_mk {K : PySem.W.Frag} {C : Addr} {m qual : Str} {st : Stmt} {ps : List Str} {f T : Addr} {oc oT : Value} {od an dT : Option Addr} {osl sT : Array (Option Value)} {kV doc pm cdv ct : Value} {nT : Nat}
    (a : PySem.W.findIn K (.ref C) m = some (some (.ref f))) (i : PySem.W.isFn K (.ref f) = true)
    (l : K.lookup f = some ⟨oc, od, .func (PySem.W.fnOf m qual (defArgs st) (defBody st) (defScope st) (.ref T) kV doc pm an cdv ct), osl⟩) (c : PySem.W.codeIn K cdv qual = true) (k : PySem.W.keepIn K (.ref f) = true)
    (lT : K.lookup T = some ⟨oT, dT, .seq #[.none] nT, sT⟩)
    (h : ∀ (kV doc pm : Value) (an : Option Addr) (cdv ct : Value) (us : List Value), us.length = ps.length → ∃ g, bindArgs (PySem.W.fnOf m qual (defArgs st) (defBody st) (defScope st) (.ref T) kV doc pm an cdv ct) ⟨us, []⟩ = seqItems? (.ref T) >>= g ∧ g (some #[.none]) = pure (ps.zip us))
    (h1 : ∀ (kV doc pm : Value) (an : Option Addr) (cdv ct : Value) (us : List Value), us.length + 1 = ps.length → ∃ g, bindArgs (PySem.W.fnOf m qual (defArgs st) (defBody st) (defScope st) (.ref T) kV doc pm an cdv ct) ⟨us, []⟩ = seqItems? (.ref T) >>= g ∧ g (some #[.none]) = pure (ps.zip (us ++ [.none]))) : DmD K C m qual st ps :=
  { f := f, fd := _, F := ⟨⟨_, _, _, _, _, _, _, _, _, _, rfl, l, c⟩, k⟩,
    b := fun s us X hl => by
      rw [List.append_nil] at hl ⊢
      obtain ⟨g, e1, e2⟩ := h kV doc pm an cdv ct us hl
      exact BindsTo.of_defaults rfl (X _ _ lT) rfl e1 e2,
    b1 := fun s us X hl => by
      obtain ⟨g, e1, e2⟩ := h1 kV doc pm an cdv ct us (by rw [List.length_append] at hl; exact hl)
      exact BindsTo.of_defaults rfl (X _ _ lT) rfl e1 e2,
    mt := ⟨a, i, k⟩ }
/-- what isinstance asks of an instance of the class at C, and that C is one of D -/
structure IsQ (K : PySem.W.Frag) (C D : Addr) : Prop where
  ha : PySem.W.findIn K (.ref C) "__class__" = some (some (.builtin "object.__class__"))
  hn : PySem.W.specialIn K (.builtin "object.__class__") "__get__" = some (some (.builtin "getset_descriptor.__get__"))
  ht : PySem.W.takesIn K (.builtin "object.__class__") = some true
  hm : PySem.W.mroIn K C (.type "object") = some true
  is : PySem.W.kitOne K (.ref C) (.ref D) = some true
theorem IsQ.ty {K : PySem.W.Frag} {C D a dx : Addr} {H : Hp} {fs : List (Str × V)} (q : IsQ K C D) (c : Cls K C) (h : H a = some (.ins C dx fs)) : TyOf K H (.ref a) (.ref C) := .ins h c q.ha q.hn q.ht q.hm
theorem vals_non1 : Vals [V.non] [Value.none] := .cons (show RelV V.non Value.none from rfl) .nil
end L2


namespace K
open PySem L2 Lw Bg
def top (i : Nat) : Stmt := PySem.Challenge.pw_bagwood_k75_rounds_refused.main.body.getD i (.Pass ⟨0, 0, 0, 0⟩)
structure Cts (mg : Str → Option Value) where
  u_BEYOND_WEIGHTS : Value
  m_BEYOND_WEIGHTS : mg "BEYOND_WEIGHTS" = some u_BEYOND_WEIGHTS
  r_BEYOND_WEIGHTS : RelV (.int 1000000000000000000000000000000) u_BEYOND_WEIGHTS
  u_MOST_IN_A_BAG : Value
  m_MOST_IN_A_BAG : mg "MOST_IN_A_BAG" = some u_MOST_IN_A_BAG
  r_MOST_IN_A_BAG : RelV (.int 4) u_MOST_IN_A_BAG
theorem cts_mk {K : PySem.W.Frag} {h : Heap} {mg : Str → Option Value} {t_BEYOND_WEIGHTS : Tok} {t_MOST_IN_A_BAG : Tok} (X : K.In h) (G : h.Ns mainGlobals mg) (a_BEYOND_WEIGHTS : PySem.W.nsIn K mainGlobals "BEYOND_WEIGHTS" = some (some (Value.int 1000000000000000000000000000000 t_BEYOND_WEIGHTS))) (a_MOST_IN_A_BAG : PySem.W.nsIn K mainGlobals "MOST_IN_A_BAG" = some (some (Value.int 4 t_MOST_IN_A_BAG))) : Nonempty (Cts mg) :=
  ⟨{ u_BEYOND_WEIGHTS := _, m_BEYOND_WEIGHTS := PySem.W.mg_of X G a_BEYOND_WEIGHTS, r_BEYOND_WEIGHTS := ⟨_, rfl⟩, u_MOST_IN_A_BAG := _, m_MOST_IN_A_BAG := PySem.W.mg_of X G a_MOST_IN_A_BAG, r_MOST_IN_A_BAG := ⟨_, rfl⟩ }⟩
abbrev s_Question___init__ : Stmt := inClass (top 32) 0
theorem sc_Question___init__ : FnScope ["self", "graph", "leaf", "whole"] ["self", "graph", "leaf", "whole"] (defScope s_Question___init__) := ⟨rfl, rfl, rfl, by decide +kernel, rfl, by decide +kernel, by decide +kernel⟩
abbrev s_Rounds___init__ : Stmt := inClass (top 41) 0
theorem sc_Rounds___init__ : FnScope ["self", "graph", "costs"] ["self", "graph", "costs"] (defScope s_Rounds___init__) := ⟨rfl, rfl, rfl, by decide +kernel, rfl, by decide +kernel, by decide +kernel⟩
structure ObQuestion (K : PySem.W.Frag) (mg : Str → Option Value) where
  C : Addr
  cl : Cls K C
  m : mg "Question" = some (.ref C)
  d___init__ : Dm K C "__init__" "Question.__init__" s_Question___init__ ["self", "graph", "leaf", "whole"]
  cf___init__ : ClsF K C "__init__" d___init__.f
  mkd : Mk K C d___init__.f
theorem obQuestion_mk {K : PySem.W.Frag} {h : Heap} {mg : Str → Option Value} {C : Addr} {f___init__ : Addr} {od___init__ an___init__ : Option Addr} {sl___init__ : Array (Option Value)} {oc___init__ kV___init__ dc___init__ pm___init__ cd___init__ ct___init__ : Value} {mc___init__ : Value} (X : K.In h) (G : h.Ns mainGlobals mg)
    (a : PySem.W.nsIn K mainGlobals "Question" = some (some (.ref C)))
    (pg : PySem.W.plainGet K C Str.empty = true) (hd : PySem.W.hasDictIn K C = true) (po : PySem.W.plainOver K C = true) (sa : PySem.W.findIn K (.ref C) "__setattr__" = some (some (.builtin "object.__setattr__"))) (mk : PySem.W.makesIn K C = true) (kc : PySem.W.keepIn K (.ref C) = true)
    (a___init__ : PySem.W.findIn K (.ref C) "__init__" = some (some (.ref f___init__))) (i___init__ : PySem.W.isFn K (.ref f___init__) = true) (l___init__ : K.lookup f___init__ = some ⟨oc___init__, od___init__, .func (PySem.W.fnOf "__init__" "Question.__init__" (defArgs s_Question___init__) (defBody s_Question___init__) (defScope s_Question___init__) .none kV___init__ dc___init__ pm___init__ an___init__ cd___init__ ct___init__), sl___init__⟩) (c___init__ : PySem.W.codeIn K cd___init__ "Question.__init__" = true) (k___init__ : PySem.W.keepIn K (.ref f___init__) = true)
    (ga : PySem.W.specialIn K (.ref C) "__getattribute__" = some (some (.builtin "type.__getattribute__")))
    (rd___init__ : PySem.W.readsIn K C mc___init__ = true) (fc___init__ : PySem.W.findCls K (.ref C) mc___init__ "__init__" = some (.val (.ref f___init__))) : Nonempty (ObQuestion K mg) :=
  ⟨{ C := C,
     cl := ⟨pg, hd, po, sa⟩,
     m := PySem.W.mg_of X G a,
     d___init__ := dm_mk (st := s_Question___init__) (ps := ["self", "graph", "leaf", "whole"]) a___init__ i___init__ l___init__ c___init__ k___init__ (fun _ _ _ _ _ _ us hl => match us, hl with | [_, _, _, _], _ => rfl),
     cf___init__ := ⟨ga, ⟨mc___init__, rd___init__, fc___init__⟩, k___init__⟩,
     mkd := ⟨mk, a___init__, i___init__, kc⟩ }⟩
structure ObRounds (K : PySem.W.Frag) (mg : Str → Option Value) where
  C : Addr
  cl : Cls K C
  m : mg "Rounds" = some (.ref C)
  n_graph : NoAttr K C "graph"
  n_leaf : NoAttr K C "leaf"
  n_whole : NoAttr K C "whole"
  n_costs : NoAttr K C "costs"
  d___init__ : DmD K C "__init__" "Rounds.__init__" s_Rounds___init__ ["self", "graph", "costs"]
  q_Question : Addr
  mq_Question : mg "Question" = some (.ref q_Question)
  iq_Question : IsQ K C q_Question
  mkd : Mk K C d___init__.f
theorem obRounds_mk {K : PySem.W.Frag} {h : Heap} {mg : Str → Option Value} {C : Addr} {f___init__ : Addr} {od___init__ an___init__ : Option Addr} {sl___init__ : Array (Option Value)} {oc___init__ kV___init__ dc___init__ pm___init__ cd___init__ ct___init__ : Value} {T___init__ : Addr} {oT___init__ : Value} {dT___init__ : Option Addr} {sT___init__ : Array (Option Value)} {nT___init__ : Nat} {Q_Question : Addr} (X : K.In h) (G : h.Ns mainGlobals mg)
    (a : PySem.W.nsIn K mainGlobals "Rounds" = some (some (.ref C)))
    (pg : PySem.W.plainGet K C Str.empty = true) (hd : PySem.W.hasDictIn K C = true) (po : PySem.W.plainOver K C = true) (sa : PySem.W.findIn K (.ref C) "__setattr__" = some (some (.builtin "object.__setattr__"))) (mk : PySem.W.makesIn K C = true) (kc : PySem.W.keepIn K (.ref C) = true)
    (n_graph : PySem.W.findIn K (.ref C) "graph" = some none)
    (n_leaf : PySem.W.findIn K (.ref C) "leaf" = some none)
    (n_whole : PySem.W.findIn K (.ref C) "whole" = some none)
    (n_costs : PySem.W.findIn K (.ref C) "costs" = some none)
    (a___init__ : PySem.W.findIn K (.ref C) "__init__" = some (some (.ref f___init__))) (i___init__ : PySem.W.isFn K (.ref f___init__) = true) (l___init__ : K.lookup f___init__ = some ⟨oc___init__, od___init__, .func (PySem.W.fnOf "__init__" "Rounds.__init__" (defArgs s_Rounds___init__) (defBody s_Rounds___init__) (defScope s_Rounds___init__) (.ref T___init__) kV___init__ dc___init__ pm___init__ an___init__ cd___init__ ct___init__), sl___init__⟩) (c___init__ : PySem.W.codeIn K cd___init__ "Rounds.__init__" = true) (k___init__ : PySem.W.keepIn K (.ref f___init__) = true) (t___init__ : K.lookup T___init__ = some ⟨oT___init__, dT___init__, .seq #[.none] nT___init__, sT___init__⟩)
    (aq_Question : PySem.W.nsIn K mainGlobals "Question" = some (some (.ref Q_Question))) (iq_Question : IsQ K C Q_Question) : Nonempty (ObRounds K mg) :=
  ⟨{ C := C,
     cl := ⟨pg, hd, po, sa⟩,
     m := PySem.W.mg_of X G a,
     n_graph := n_graph,
     n_leaf := n_leaf,
     n_whole := n_whole,
     n_costs := n_costs,
     d___init__ := dmd_mk (st := s_Rounds___init__) (ps := ["self", "graph", "costs"]) a___init__ i___init__ l___init__ c___init__ k___init__ t___init__ (fun _ _ _ _ _ _ us hl => match us, hl with | [_, _, _], _ => ⟨_, rfl, rfl⟩) (fun _ _ _ _ _ _ us hl => match us, hl with | [_, _], _ => ⟨_, rfl, rfl⟩),
     q_Question := Q_Question, mq_Question := PySem.W.mg_of X G aq_Question, iq_Question := iq_Question,
     mkd := ⟨mk, a___init__, i___init__, kc⟩ }⟩
structure Cl (K : PySem.W.Frag) (mg : Str → Option Value) where
  BagError : Addr
  m_BagError : mg "BagError" = some (.ref BagError)
  NoGraph : Addr
  m_NoGraph : mg "NoGraph" = some (.ref NoGraph)
  NoPlace : Addr
  m_NoPlace : mg "NoPlace" = some (.ref NoPlace)
  NoTie : Addr
  m_NoTie : mg "NoTie" = some (.ref NoTie)
  NoBag : Addr
  m_NoBag : mg "NoBag" = some (.ref NoBag)
  NoTree : Addr
  m_NoTree : mg "NoTree" = some (.ref NoTree)
  NoOrder : Addr
  m_NoOrder : mg "NoOrder" = some (.ref NoOrder)
  NoPart : Addr
  m_NoPart : mg "NoPart" = some (.ref NoPart)
  NoSteps : Addr
  m_NoSteps : mg "NoSteps" = some (.ref NoSteps)
  TooWide : Addr
  m_TooWide : mg "TooWide" = some (.ref TooWide)
  NoColours : Addr
  m_NoColours : mg "NoColours" = some (.ref NoColours)
  NoWeights : Addr
  m_NoWeights : mg "NoWeights" = some (.ref NoWeights)
  NoNumber : Addr
  m_NoNumber : mg "NoNumber" = some (.ref NoNumber)
  NoName : Addr
  m_NoName : mg "NoName" = some (.ref NoName)
  NoText : Addr
  m_NoText : mg "NoText" = some (.ref NoText)
  NoRow : Addr
  m_NoRow : mg "NoRow" = some (.ref NoRow)
  k_NoWeights : Xk K NoWeights
  v_NoWeights : PySem.W.kitOne K (.ref NoWeights) (.type "ValueError") = some true
  q_NoWeights_BagError : PySem.W.kitOne K (.ref NoWeights) (.ref BagError) = some true
  x_NoWeights_BagError : PySem.W.exmOne K (.ref NoWeights) (.ref BagError) = some true
  q_NoWeights_NoGraph : PySem.W.kitOne K (.ref NoWeights) (.ref NoGraph) = some false
  x_NoWeights_NoGraph : PySem.W.exmOne K (.ref NoWeights) (.ref NoGraph) = some false
  q_NoWeights_NoPlace : PySem.W.kitOne K (.ref NoWeights) (.ref NoPlace) = some false
  x_NoWeights_NoPlace : PySem.W.exmOne K (.ref NoWeights) (.ref NoPlace) = some false
  q_NoWeights_NoTie : PySem.W.kitOne K (.ref NoWeights) (.ref NoTie) = some false
  x_NoWeights_NoTie : PySem.W.exmOne K (.ref NoWeights) (.ref NoTie) = some false
  q_NoWeights_NoBag : PySem.W.kitOne K (.ref NoWeights) (.ref NoBag) = some false
  x_NoWeights_NoBag : PySem.W.exmOne K (.ref NoWeights) (.ref NoBag) = some false
  q_NoWeights_NoTree : PySem.W.kitOne K (.ref NoWeights) (.ref NoTree) = some false
  x_NoWeights_NoTree : PySem.W.exmOne K (.ref NoWeights) (.ref NoTree) = some false
  q_NoWeights_NoOrder : PySem.W.kitOne K (.ref NoWeights) (.ref NoOrder) = some false
  x_NoWeights_NoOrder : PySem.W.exmOne K (.ref NoWeights) (.ref NoOrder) = some false
  q_NoWeights_NoPart : PySem.W.kitOne K (.ref NoWeights) (.ref NoPart) = some false
  x_NoWeights_NoPart : PySem.W.exmOne K (.ref NoWeights) (.ref NoPart) = some false
  q_NoWeights_NoSteps : PySem.W.kitOne K (.ref NoWeights) (.ref NoSteps) = some false
  x_NoWeights_NoSteps : PySem.W.exmOne K (.ref NoWeights) (.ref NoSteps) = some false
  q_NoWeights_TooWide : PySem.W.kitOne K (.ref NoWeights) (.ref TooWide) = some false
  x_NoWeights_TooWide : PySem.W.exmOne K (.ref NoWeights) (.ref TooWide) = some false
  q_NoWeights_NoColours : PySem.W.kitOne K (.ref NoWeights) (.ref NoColours) = some false
  x_NoWeights_NoColours : PySem.W.exmOne K (.ref NoWeights) (.ref NoColours) = some false
  q_NoWeights_NoWeights : PySem.W.kitOne K (.ref NoWeights) (.ref NoWeights) = some true
  x_NoWeights_NoWeights : PySem.W.exmOne K (.ref NoWeights) (.ref NoWeights) = some true
  q_NoWeights_NoNumber : PySem.W.kitOne K (.ref NoWeights) (.ref NoNumber) = some false
  x_NoWeights_NoNumber : PySem.W.exmOne K (.ref NoWeights) (.ref NoNumber) = some false
  q_NoWeights_NoName : PySem.W.kitOne K (.ref NoWeights) (.ref NoName) = some false
  x_NoWeights_NoName : PySem.W.exmOne K (.ref NoWeights) (.ref NoName) = some false
  q_NoWeights_NoText : PySem.W.kitOne K (.ref NoWeights) (.ref NoText) = some false
  x_NoWeights_NoText : PySem.W.exmOne K (.ref NoWeights) (.ref NoText) = some false
  q_NoWeights_NoRow : PySem.W.kitOne K (.ref NoWeights) (.ref NoRow) = some false
  x_NoWeights_NoRow : PySem.W.exmOne K (.ref NoWeights) (.ref NoRow) = some false
  k_NoTree : Xk K NoTree
  v_NoTree : PySem.W.kitOne K (.ref NoTree) (.type "ValueError") = some true
  q_NoTree_BagError : PySem.W.kitOne K (.ref NoTree) (.ref BagError) = some true
  x_NoTree_BagError : PySem.W.exmOne K (.ref NoTree) (.ref BagError) = some true
  q_NoTree_NoGraph : PySem.W.kitOne K (.ref NoTree) (.ref NoGraph) = some false
  x_NoTree_NoGraph : PySem.W.exmOne K (.ref NoTree) (.ref NoGraph) = some false
  q_NoTree_NoPlace : PySem.W.kitOne K (.ref NoTree) (.ref NoPlace) = some false
  x_NoTree_NoPlace : PySem.W.exmOne K (.ref NoTree) (.ref NoPlace) = some false
  q_NoTree_NoTie : PySem.W.kitOne K (.ref NoTree) (.ref NoTie) = some false
  x_NoTree_NoTie : PySem.W.exmOne K (.ref NoTree) (.ref NoTie) = some false
  q_NoTree_NoBag : PySem.W.kitOne K (.ref NoTree) (.ref NoBag) = some false
  x_NoTree_NoBag : PySem.W.exmOne K (.ref NoTree) (.ref NoBag) = some false
  q_NoTree_NoTree : PySem.W.kitOne K (.ref NoTree) (.ref NoTree) = some true
  x_NoTree_NoTree : PySem.W.exmOne K (.ref NoTree) (.ref NoTree) = some true
  q_NoTree_NoOrder : PySem.W.kitOne K (.ref NoTree) (.ref NoOrder) = some false
  x_NoTree_NoOrder : PySem.W.exmOne K (.ref NoTree) (.ref NoOrder) = some false
  q_NoTree_NoPart : PySem.W.kitOne K (.ref NoTree) (.ref NoPart) = some false
  x_NoTree_NoPart : PySem.W.exmOne K (.ref NoTree) (.ref NoPart) = some false
  q_NoTree_NoSteps : PySem.W.kitOne K (.ref NoTree) (.ref NoSteps) = some false
  x_NoTree_NoSteps : PySem.W.exmOne K (.ref NoTree) (.ref NoSteps) = some false
  q_NoTree_TooWide : PySem.W.kitOne K (.ref NoTree) (.ref TooWide) = some false
  x_NoTree_TooWide : PySem.W.exmOne K (.ref NoTree) (.ref TooWide) = some false
  q_NoTree_NoColours : PySem.W.kitOne K (.ref NoTree) (.ref NoColours) = some false
  x_NoTree_NoColours : PySem.W.exmOne K (.ref NoTree) (.ref NoColours) = some false
  q_NoTree_NoWeights : PySem.W.kitOne K (.ref NoTree) (.ref NoWeights) = some false
  x_NoTree_NoWeights : PySem.W.exmOne K (.ref NoTree) (.ref NoWeights) = some false
  q_NoTree_NoNumber : PySem.W.kitOne K (.ref NoTree) (.ref NoNumber) = some false
  x_NoTree_NoNumber : PySem.W.exmOne K (.ref NoTree) (.ref NoNumber) = some false
  q_NoTree_NoName : PySem.W.kitOne K (.ref NoTree) (.ref NoName) = some false
  x_NoTree_NoName : PySem.W.exmOne K (.ref NoTree) (.ref NoName) = some false
  q_NoTree_NoText : PySem.W.kitOne K (.ref NoTree) (.ref NoText) = some false
  x_NoTree_NoText : PySem.W.exmOne K (.ref NoTree) (.ref NoText) = some false
  q_NoTree_NoRow : PySem.W.kitOne K (.ref NoTree) (.ref NoRow) = some false
  x_NoTree_NoRow : PySem.W.exmOne K (.ref NoTree) (.ref NoRow) = some false
  k_NoSteps : Xk K NoSteps
  v_NoSteps : PySem.W.kitOne K (.ref NoSteps) (.type "ValueError") = some true
  q_NoSteps_BagError : PySem.W.kitOne K (.ref NoSteps) (.ref BagError) = some true
  x_NoSteps_BagError : PySem.W.exmOne K (.ref NoSteps) (.ref BagError) = some true
  q_NoSteps_NoGraph : PySem.W.kitOne K (.ref NoSteps) (.ref NoGraph) = some false
  x_NoSteps_NoGraph : PySem.W.exmOne K (.ref NoSteps) (.ref NoGraph) = some false
  q_NoSteps_NoPlace : PySem.W.kitOne K (.ref NoSteps) (.ref NoPlace) = some false
  x_NoSteps_NoPlace : PySem.W.exmOne K (.ref NoSteps) (.ref NoPlace) = some false
  q_NoSteps_NoTie : PySem.W.kitOne K (.ref NoSteps) (.ref NoTie) = some false
  x_NoSteps_NoTie : PySem.W.exmOne K (.ref NoSteps) (.ref NoTie) = some false
  q_NoSteps_NoBag : PySem.W.kitOne K (.ref NoSteps) (.ref NoBag) = some false
  x_NoSteps_NoBag : PySem.W.exmOne K (.ref NoSteps) (.ref NoBag) = some false
  q_NoSteps_NoTree : PySem.W.kitOne K (.ref NoSteps) (.ref NoTree) = some false
  x_NoSteps_NoTree : PySem.W.exmOne K (.ref NoSteps) (.ref NoTree) = some false
  q_NoSteps_NoOrder : PySem.W.kitOne K (.ref NoSteps) (.ref NoOrder) = some false
  x_NoSteps_NoOrder : PySem.W.exmOne K (.ref NoSteps) (.ref NoOrder) = some false
  q_NoSteps_NoPart : PySem.W.kitOne K (.ref NoSteps) (.ref NoPart) = some false
  x_NoSteps_NoPart : PySem.W.exmOne K (.ref NoSteps) (.ref NoPart) = some false
  q_NoSteps_NoSteps : PySem.W.kitOne K (.ref NoSteps) (.ref NoSteps) = some true
  x_NoSteps_NoSteps : PySem.W.exmOne K (.ref NoSteps) (.ref NoSteps) = some true
  q_NoSteps_TooWide : PySem.W.kitOne K (.ref NoSteps) (.ref TooWide) = some false
  x_NoSteps_TooWide : PySem.W.exmOne K (.ref NoSteps) (.ref TooWide) = some false
  q_NoSteps_NoColours : PySem.W.kitOne K (.ref NoSteps) (.ref NoColours) = some false
  x_NoSteps_NoColours : PySem.W.exmOne K (.ref NoSteps) (.ref NoColours) = some false
  q_NoSteps_NoWeights : PySem.W.kitOne K (.ref NoSteps) (.ref NoWeights) = some false
  x_NoSteps_NoWeights : PySem.W.exmOne K (.ref NoSteps) (.ref NoWeights) = some false
  q_NoSteps_NoNumber : PySem.W.kitOne K (.ref NoSteps) (.ref NoNumber) = some false
  x_NoSteps_NoNumber : PySem.W.exmOne K (.ref NoSteps) (.ref NoNumber) = some false
  q_NoSteps_NoName : PySem.W.kitOne K (.ref NoSteps) (.ref NoName) = some false
  x_NoSteps_NoName : PySem.W.exmOne K (.ref NoSteps) (.ref NoName) = some false
  q_NoSteps_NoText : PySem.W.kitOne K (.ref NoSteps) (.ref NoText) = some false
  x_NoSteps_NoText : PySem.W.exmOne K (.ref NoSteps) (.ref NoText) = some false
  q_NoSteps_NoRow : PySem.W.kitOne K (.ref NoSteps) (.ref NoRow) = some false
  x_NoSteps_NoRow : PySem.W.exmOne K (.ref NoSteps) (.ref NoRow) = some false
  k_TooWide : Xk K TooWide
  v_TooWide : PySem.W.kitOne K (.ref TooWide) (.type "ValueError") = some true
  q_TooWide_BagError : PySem.W.kitOne K (.ref TooWide) (.ref BagError) = some true
  x_TooWide_BagError : PySem.W.exmOne K (.ref TooWide) (.ref BagError) = some true
  q_TooWide_NoGraph : PySem.W.kitOne K (.ref TooWide) (.ref NoGraph) = some false
  x_TooWide_NoGraph : PySem.W.exmOne K (.ref TooWide) (.ref NoGraph) = some false
  q_TooWide_NoPlace : PySem.W.kitOne K (.ref TooWide) (.ref NoPlace) = some false
  x_TooWide_NoPlace : PySem.W.exmOne K (.ref TooWide) (.ref NoPlace) = some false
  q_TooWide_NoTie : PySem.W.kitOne K (.ref TooWide) (.ref NoTie) = some false
  x_TooWide_NoTie : PySem.W.exmOne K (.ref TooWide) (.ref NoTie) = some false
  q_TooWide_NoBag : PySem.W.kitOne K (.ref TooWide) (.ref NoBag) = some false
  x_TooWide_NoBag : PySem.W.exmOne K (.ref TooWide) (.ref NoBag) = some false
  q_TooWide_NoTree : PySem.W.kitOne K (.ref TooWide) (.ref NoTree) = some false
  x_TooWide_NoTree : PySem.W.exmOne K (.ref TooWide) (.ref NoTree) = some false
  q_TooWide_NoOrder : PySem.W.kitOne K (.ref TooWide) (.ref NoOrder) = some false
  x_TooWide_NoOrder : PySem.W.exmOne K (.ref TooWide) (.ref NoOrder) = some false
  q_TooWide_NoPart : PySem.W.kitOne K (.ref TooWide) (.ref NoPart) = some false
  x_TooWide_NoPart : PySem.W.exmOne K (.ref TooWide) (.ref NoPart) = some false
  q_TooWide_NoSteps : PySem.W.kitOne K (.ref TooWide) (.ref NoSteps) = some false
  x_TooWide_NoSteps : PySem.W.exmOne K (.ref TooWide) (.ref NoSteps) = some false
  q_TooWide_TooWide : PySem.W.kitOne K (.ref TooWide) (.ref TooWide) = some true
  x_TooWide_TooWide : PySem.W.exmOne K (.ref TooWide) (.ref TooWide) = some true
  q_TooWide_NoColours : PySem.W.kitOne K (.ref TooWide) (.ref NoColours) = some false
  x_TooWide_NoColours : PySem.W.exmOne K (.ref TooWide) (.ref NoColours) = some false
  q_TooWide_NoWeights : PySem.W.kitOne K (.ref TooWide) (.ref NoWeights) = some false
  x_TooWide_NoWeights : PySem.W.exmOne K (.ref TooWide) (.ref NoWeights) = some false
  q_TooWide_NoNumber : PySem.W.kitOne K (.ref TooWide) (.ref NoNumber) = some false
  x_TooWide_NoNumber : PySem.W.exmOne K (.ref TooWide) (.ref NoNumber) = some false
  q_TooWide_NoName : PySem.W.kitOne K (.ref TooWide) (.ref NoName) = some false
  x_TooWide_NoName : PySem.W.exmOne K (.ref TooWide) (.ref NoName) = some false
  q_TooWide_NoText : PySem.W.kitOne K (.ref TooWide) (.ref NoText) = some false
  x_TooWide_NoText : PySem.W.exmOne K (.ref TooWide) (.ref NoText) = some false
  q_TooWide_NoRow : PySem.W.kitOne K (.ref TooWide) (.ref NoRow) = some false
  x_TooWide_NoRow : PySem.W.exmOne K (.ref TooWide) (.ref NoRow) = some false
theorem cl_mk {K : PySem.W.Frag} {h : Heap} {mg : Str → Option Value} {BagError NoGraph NoPlace NoTie NoBag NoTree NoOrder NoPart NoSteps TooWide NoColours NoWeights NoNumber NoName NoText NoRow : Addr} (X : K.In h) (G : h.Ns mainGlobals mg)
    (a_BagError : PySem.W.nsIn K mainGlobals "BagError" = some (some (.ref BagError)))
    (a_NoGraph : PySem.W.nsIn K mainGlobals "NoGraph" = some (some (.ref NoGraph)))
    (a_NoPlace : PySem.W.nsIn K mainGlobals "NoPlace" = some (some (.ref NoPlace)))
    (a_NoTie : PySem.W.nsIn K mainGlobals "NoTie" = some (some (.ref NoTie)))
    (a_NoBag : PySem.W.nsIn K mainGlobals "NoBag" = some (some (.ref NoBag)))
    (a_NoTree : PySem.W.nsIn K mainGlobals "NoTree" = some (some (.ref NoTree)))
    (a_NoOrder : PySem.W.nsIn K mainGlobals "NoOrder" = some (some (.ref NoOrder)))
    (a_NoPart : PySem.W.nsIn K mainGlobals "NoPart" = some (some (.ref NoPart)))
    (a_NoSteps : PySem.W.nsIn K mainGlobals "NoSteps" = some (some (.ref NoSteps)))
    (a_TooWide : PySem.W.nsIn K mainGlobals "TooWide" = some (some (.ref TooWide)))
    (a_NoColours : PySem.W.nsIn K mainGlobals "NoColours" = some (some (.ref NoColours)))
    (a_NoWeights : PySem.W.nsIn K mainGlobals "NoWeights" = some (some (.ref NoWeights)))
    (a_NoNumber : PySem.W.nsIn K mainGlobals "NoNumber" = some (some (.ref NoNumber)))
    (a_NoName : PySem.W.nsIn K mainGlobals "NoName" = some (some (.ref NoName)))
    (a_NoText : PySem.W.nsIn K mainGlobals "NoText" = some (some (.ref NoText)))
    (a_NoRow : PySem.W.nsIn K mainGlobals "NoRow" = some (some (.ref NoRow)))
    (g_NoWeights : Xk K NoWeights)
    (t_NoWeights : [PySem.W.kitOne K (.ref NoWeights) (.type "ValueError"), PySem.W.kitOne K (.ref NoWeights) (.ref BagError), PySem.W.exmOne K (.ref NoWeights) (.ref BagError), PySem.W.kitOne K (.ref NoWeights) (.ref NoGraph), PySem.W.exmOne K (.ref NoWeights) (.ref NoGraph), PySem.W.kitOne K (.ref NoWeights) (.ref NoPlace), PySem.W.exmOne K (.ref NoWeights) (.ref NoPlace), PySem.W.kitOne K (.ref NoWeights) (.ref NoTie), PySem.W.exmOne K (.ref NoWeights) (.ref NoTie), PySem.W.kitOne K (.ref NoWeights) (.ref NoBag), PySem.W.exmOne K (.ref NoWeights) (.ref NoBag), PySem.W.kitOne K (.ref NoWeights) (.ref NoTree), PySem.W.exmOne K (.ref NoWeights) (.ref NoTree), PySem.W.kitOne K (.ref NoWeights) (.ref NoOrder), PySem.W.exmOne K (.ref NoWeights) (.ref NoOrder), PySem.W.kitOne K (.ref NoWeights) (.ref NoPart), PySem.W.exmOne K (.ref NoWeights) (.ref NoPart), PySem.W.kitOne K (.ref NoWeights) (.ref NoSteps), PySem.W.exmOne K (.ref NoWeights) (.ref NoSteps), PySem.W.kitOne K (.ref NoWeights) (.ref TooWide), PySem.W.exmOne K (.ref NoWeights) (.ref TooWide), PySem.W.kitOne K (.ref NoWeights) (.ref NoColours), PySem.W.exmOne K (.ref NoWeights) (.ref NoColours), PySem.W.kitOne K (.ref NoWeights) (.ref NoWeights), PySem.W.exmOne K (.ref NoWeights) (.ref NoWeights), PySem.W.kitOne K (.ref NoWeights) (.ref NoNumber), PySem.W.exmOne K (.ref NoWeights) (.ref NoNumber), PySem.W.kitOne K (.ref NoWeights) (.ref NoName), PySem.W.exmOne K (.ref NoWeights) (.ref NoName), PySem.W.kitOne K (.ref NoWeights) (.ref NoText), PySem.W.exmOne K (.ref NoWeights) (.ref NoText), PySem.W.kitOne K (.ref NoWeights) (.ref NoRow), PySem.W.exmOne K (.ref NoWeights) (.ref NoRow)] = [some true, some true, some true, some false, some false, some false, some false, some false, some false, some false, some false, some false, some false, some false, some false, some false, some false, some false, some false, some false, some false, some false, some false, some true, some true, some false, some false, some false, some false, some false, some false, some false, some false])
    (g_NoTree : Xk K NoTree)
    (t_NoTree : [PySem.W.kitOne K (.ref NoTree) (.type "ValueError"), PySem.W.kitOne K (.ref NoTree) (.ref BagError), PySem.W.exmOne K (.ref NoTree) (.ref BagError), PySem.W.kitOne K (.ref NoTree) (.ref NoGraph), PySem.W.exmOne K (.ref NoTree) (.ref NoGraph), PySem.W.kitOne K (.ref NoTree) (.ref NoPlace), PySem.W.exmOne K (.ref NoTree) (.ref NoPlace), PySem.W.kitOne K (.ref NoTree) (.ref NoTie), PySem.W.exmOne K (.ref NoTree) (.ref NoTie), PySem.W.kitOne K (.ref NoTree) (.ref NoBag), PySem.W.exmOne K (.ref NoTree) (.ref NoBag), PySem.W.kitOne K (.ref NoTree) (.ref NoTree), PySem.W.exmOne K (.ref NoTree) (.ref NoTree), PySem.W.kitOne K (.ref NoTree) (.ref NoOrder), PySem.W.exmOne K (.ref NoTree) (.ref NoOrder), PySem.W.kitOne K (.ref NoTree) (.ref NoPart), PySem.W.exmOne K (.ref NoTree) (.ref NoPart), PySem.W.kitOne K (.ref NoTree) (.ref NoSteps), PySem.W.exmOne K (.ref NoTree) (.ref NoSteps), PySem.W.kitOne K (.ref NoTree) (.ref TooWide), PySem.W.exmOne K (.ref NoTree) (.ref TooWide), PySem.W.kitOne K (.ref NoTree) (.ref NoColours), PySem.W.exmOne K (.ref NoTree) (.ref NoColours), PySem.W.kitOne K (.ref NoTree) (.ref NoWeights), PySem.W.exmOne K (.ref NoTree) (.ref NoWeights), PySem.W.kitOne K (.ref NoTree) (.ref NoNumber), PySem.W.exmOne K (.ref NoTree) (.ref NoNumber), PySem.W.kitOne K (.ref NoTree) (.ref NoName), PySem.W.exmOne K (.ref NoTree) (.ref NoName), PySem.W.kitOne K (.ref NoTree) (.ref NoText), PySem.W.exmOne K (.ref NoTree) (.ref NoText), PySem.W.kitOne K (.ref NoTree) (.ref NoRow), PySem.W.exmOne K (.ref NoTree) (.ref NoRow)] = [some true, some true, some true, some false, some false, some false, some false, some false, some false, some false, some false, some true, some true, some false, some false, some false, some false, some false, some false, some false, some false, some false, some false, some false, some false, some false, some false, some false, some false, some false, some false, some false, some false])
    (g_NoSteps : Xk K NoSteps)
    (t_NoSteps : [PySem.W.kitOne K (.ref NoSteps) (.type "ValueError"), PySem.W.kitOne K (.ref NoSteps) (.ref BagError), PySem.W.exmOne K (.ref NoSteps) (.ref BagError), PySem.W.kitOne K (.ref NoSteps) (.ref NoGraph), PySem.W.exmOne K (.ref NoSteps) (.ref NoGraph), PySem.W.kitOne K (.ref NoSteps) (.ref NoPlace), PySem.W.exmOne K (.ref NoSteps) (.ref NoPlace), PySem.W.kitOne K (.ref NoSteps) (.ref NoTie), PySem.W.exmOne K (.ref NoSteps) (.ref NoTie), PySem.W.kitOne K (.ref NoSteps) (.ref NoBag), PySem.W.exmOne K (.ref NoSteps) (.ref NoBag), PySem.W.kitOne K (.ref NoSteps) (.ref NoTree), PySem.W.exmOne K (.ref NoSteps) (.ref NoTree), PySem.W.kitOne K (.ref NoSteps) (.ref NoOrder), PySem.W.exmOne K (.ref NoSteps) (.ref NoOrder), PySem.W.kitOne K (.ref NoSteps) (.ref NoPart), PySem.W.exmOne K (.ref NoSteps) (.ref NoPart), PySem.W.kitOne K (.ref NoSteps) (.ref NoSteps), PySem.W.exmOne K (.ref NoSteps) (.ref NoSteps), PySem.W.kitOne K (.ref NoSteps) (.ref TooWide), PySem.W.exmOne K (.ref NoSteps) (.ref TooWide), PySem.W.kitOne K (.ref NoSteps) (.ref NoColours), PySem.W.exmOne K (.ref NoSteps) (.ref NoColours), PySem.W.kitOne K (.ref NoSteps) (.ref NoWeights), PySem.W.exmOne K (.ref NoSteps) (.ref NoWeights), PySem.W.kitOne K (.ref NoSteps) (.ref NoNumber), PySem.W.exmOne K (.ref NoSteps) (.ref NoNumber), PySem.W.kitOne K (.ref NoSteps) (.ref NoName), PySem.W.exmOne K (.ref NoSteps) (.ref NoName), PySem.W.kitOne K (.ref NoSteps) (.ref NoText), PySem.W.exmOne K (.ref NoSteps) (.ref NoText), PySem.W.kitOne K (.ref NoSteps) (.ref NoRow), PySem.W.exmOne K (.ref NoSteps) (.ref NoRow)] = [some true, some true, some true, some false, some false, some false, some false, some false, some false, some false, some false, some false, some false, some false, some false, some false, some false, some true, some true, some false, some false, some false, some false, some false, some false, some false, some false, some false, some false, some false, some false, some false, some false])
    (g_TooWide : Xk K TooWide)
    (t_TooWide : [PySem.W.kitOne K (.ref TooWide) (.type "ValueError"), PySem.W.kitOne K (.ref TooWide) (.ref BagError), PySem.W.exmOne K (.ref TooWide) (.ref BagError), PySem.W.kitOne K (.ref TooWide) (.ref NoGraph), PySem.W.exmOne K (.ref TooWide) (.ref NoGraph), PySem.W.kitOne K (.ref TooWide) (.ref NoPlace), PySem.W.exmOne K (.ref TooWide) (.ref NoPlace), PySem.W.kitOne K (.ref TooWide) (.ref NoTie), PySem.W.exmOne K (.ref TooWide) (.ref NoTie), PySem.W.kitOne K (.ref TooWide) (.ref NoBag), PySem.W.exmOne K (.ref TooWide) (.ref NoBag), PySem.W.kitOne K (.ref TooWide) (.ref NoTree), PySem.W.exmOne K (.ref TooWide) (.ref NoTree), PySem.W.kitOne K (.ref TooWide) (.ref NoOrder), PySem.W.exmOne K (.ref TooWide) (.ref NoOrder), PySem.W.kitOne K (.ref TooWide) (.ref NoPart), PySem.W.exmOne K (.ref TooWide) (.ref NoPart), PySem.W.kitOne K (.ref TooWide) (.ref NoSteps), PySem.W.exmOne K (.ref TooWide) (.ref NoSteps), PySem.W.kitOne K (.ref TooWide) (.ref TooWide), PySem.W.exmOne K (.ref TooWide) (.ref TooWide), PySem.W.kitOne K (.ref TooWide) (.ref NoColours), PySem.W.exmOne K (.ref TooWide) (.ref NoColours), PySem.W.kitOne K (.ref TooWide) (.ref NoWeights), PySem.W.exmOne K (.ref TooWide) (.ref NoWeights), PySem.W.kitOne K (.ref TooWide) (.ref NoNumber), PySem.W.exmOne K (.ref TooWide) (.ref NoNumber), PySem.W.kitOne K (.ref TooWide) (.ref NoName), PySem.W.exmOne K (.ref TooWide) (.ref NoName), PySem.W.kitOne K (.ref TooWide) (.ref NoText), PySem.W.exmOne K (.ref TooWide) (.ref NoText), PySem.W.kitOne K (.ref TooWide) (.ref NoRow), PySem.W.exmOne K (.ref TooWide) (.ref NoRow)] = [some true, some true, some true, some false, some false, some false, some false, some false, some false, some false, some false, some false, some false, some false, some false, some false, some false, some false, some false, some true, some true, some false, some false, some false, some false, some false, some false, some false, some false, some false, some false, some false, some false]) : Nonempty (Cl K mg) := by
  simp only [List.cons.injEq] at t_NoWeights
  obtain ⟨w_NoWeights, b_NoWeights_BagError, c_NoWeights_BagError, b_NoWeights_NoGraph, c_NoWeights_NoGraph, b_NoWeights_NoPlace, c_NoWeights_NoPlace, b_NoWeights_NoTie, c_NoWeights_NoTie, b_NoWeights_NoBag, c_NoWeights_NoBag, b_NoWeights_NoTree, c_NoWeights_NoTree, b_NoWeights_NoOrder, c_NoWeights_NoOrder, b_NoWeights_NoPart, c_NoWeights_NoPart, b_NoWeights_NoSteps, c_NoWeights_NoSteps, b_NoWeights_TooWide, c_NoWeights_TooWide, b_NoWeights_NoColours, c_NoWeights_NoColours, b_NoWeights_NoWeights, c_NoWeights_NoWeights, b_NoWeights_NoNumber, c_NoWeights_NoNumber, b_NoWeights_NoName, c_NoWeights_NoName, b_NoWeights_NoText, c_NoWeights_NoText, b_NoWeights_NoRow, c_NoWeights_NoRow, _⟩ := t_NoWeights
  simp only [List.cons.injEq] at t_NoTree
  obtain ⟨w_NoTree, b_NoTree_BagError, c_NoTree_BagError, b_NoTree_NoGraph, c_NoTree_NoGraph, b_NoTree_NoPlace, c_NoTree_NoPlace, b_NoTree_NoTie, c_NoTree_NoTie, b_NoTree_NoBag, c_NoTree_NoBag, b_NoTree_NoTree, c_NoTree_NoTree, b_NoTree_NoOrder, c_NoTree_NoOrder, b_NoTree_NoPart, c_NoTree_NoPart, b_NoTree_NoSteps, c_NoTree_NoSteps, b_NoTree_TooWide, c_NoTree_TooWide, b_NoTree_NoColours, c_NoTree_NoColours, b_NoTree_NoWeights, c_NoTree_NoWeights, b_NoTree_NoNumber, c_NoTree_NoNumber, b_NoTree_NoName, c_NoTree_NoName, b_NoTree_NoText, c_NoTree_NoText, b_NoTree_NoRow, c_NoTree_NoRow, _⟩ := t_NoTree
  simp only [List.cons.injEq] at t_NoSteps
  obtain ⟨w_NoSteps, b_NoSteps_BagError, c_NoSteps_BagError, b_NoSteps_NoGraph, c_NoSteps_NoGraph, b_NoSteps_NoPlace, c_NoSteps_NoPlace, b_NoSteps_NoTie, c_NoSteps_NoTie, b_NoSteps_NoBag, c_NoSteps_NoBag, b_NoSteps_NoTree, c_NoSteps_NoTree, b_NoSteps_NoOrder, c_NoSteps_NoOrder, b_NoSteps_NoPart, c_NoSteps_NoPart, b_NoSteps_NoSteps, c_NoSteps_NoSteps, b_NoSteps_TooWide, c_NoSteps_TooWide, b_NoSteps_NoColours, c_NoSteps_NoColours, b_NoSteps_NoWeights, c_NoSteps_NoWeights, b_NoSteps_NoNumber, c_NoSteps_NoNumber, b_NoSteps_NoName, c_NoSteps_NoName, b_NoSteps_NoText, c_NoSteps_NoText, b_NoSteps_NoRow, c_NoSteps_NoRow, _⟩ := t_NoSteps
  simp only [List.cons.injEq] at t_TooWide
  obtain ⟨w_TooWide, b_TooWide_BagError, c_TooWide_BagError, b_TooWide_NoGraph, c_TooWide_NoGraph, b_TooWide_NoPlace, c_TooWide_NoPlace, b_TooWide_NoTie, c_TooWide_NoTie, b_TooWide_NoBag, c_TooWide_NoBag, b_TooWide_NoTree, c_TooWide_NoTree, b_TooWide_NoOrder, c_TooWide_NoOrder, b_TooWide_NoPart, c_TooWide_NoPart, b_TooWide_NoSteps, c_TooWide_NoSteps, b_TooWide_TooWide, c_TooWide_TooWide, b_TooWide_NoColours, c_TooWide_NoColours, b_TooWide_NoWeights, c_TooWide_NoWeights, b_TooWide_NoNumber, c_TooWide_NoNumber, b_TooWide_NoName, c_TooWide_NoName, b_TooWide_NoText, c_TooWide_NoText, b_TooWide_NoRow, c_TooWide_NoRow, _⟩ := t_TooWide
  exact ⟨{ BagError := BagError, m_BagError := PySem.W.mg_of X G a_BagError, NoGraph := NoGraph, m_NoGraph := PySem.W.mg_of X G a_NoGraph, NoPlace := NoPlace, m_NoPlace := PySem.W.mg_of X G a_NoPlace, NoTie := NoTie, m_NoTie := PySem.W.mg_of X G a_NoTie, NoBag := NoBag, m_NoBag := PySem.W.mg_of X G a_NoBag, NoTree := NoTree, m_NoTree := PySem.W.mg_of X G a_NoTree, NoOrder := NoOrder, m_NoOrder := PySem.W.mg_of X G a_NoOrder, NoPart := NoPart, m_NoPart := PySem.W.mg_of X G a_NoPart, NoSteps := NoSteps, m_NoSteps := PySem.W.mg_of X G a_NoSteps, TooWide := TooWide, m_TooWide := PySem.W.mg_of X G a_TooWide, NoColours := NoColours, m_NoColours := PySem.W.mg_of X G a_NoColours, NoWeights := NoWeights, m_NoWeights := PySem.W.mg_of X G a_NoWeights, NoNumber := NoNumber, m_NoNumber := PySem.W.mg_of X G a_NoNumber, NoName := NoName, m_NoName := PySem.W.mg_of X G a_NoName, NoText := NoText, m_NoText := PySem.W.mg_of X G a_NoText, NoRow := NoRow, m_NoRow := PySem.W.mg_of X G a_NoRow, k_NoWeights := g_NoWeights, v_NoWeights := w_NoWeights, q_NoWeights_BagError := b_NoWeights_BagError, x_NoWeights_BagError := c_NoWeights_BagError, q_NoWeights_NoGraph := b_NoWeights_NoGraph, x_NoWeights_NoGraph := c_NoWeights_NoGraph, q_NoWeights_NoPlace := b_NoWeights_NoPlace, x_NoWeights_NoPlace := c_NoWeights_NoPlace, q_NoWeights_NoTie := b_NoWeights_NoTie, x_NoWeights_NoTie := c_NoWeights_NoTie, q_NoWeights_NoBag := b_NoWeights_NoBag, x_NoWeights_NoBag := c_NoWeights_NoBag, q_NoWeights_NoTree := b_NoWeights_NoTree, x_NoWeights_NoTree := c_NoWeights_NoTree, q_NoWeights_NoOrder := b_NoWeights_NoOrder, x_NoWeights_NoOrder := c_NoWeights_NoOrder, q_NoWeights_NoPart := b_NoWeights_NoPart, x_NoWeights_NoPart := c_NoWeights_NoPart, q_NoWeights_NoSteps := b_NoWeights_NoSteps, x_NoWeights_NoSteps := c_NoWeights_NoSteps, q_NoWeights_TooWide := b_NoWeights_TooWide, x_NoWeights_TooWide := c_NoWeights_TooWide, q_NoWeights_NoColours := b_NoWeights_NoColours, x_NoWeights_NoColours := c_NoWeights_NoColours, q_NoWeights_NoWeights := b_NoWeights_NoWeights, x_NoWeights_NoWeights := c_NoWeights_NoWeights, q_NoWeights_NoNumber := b_NoWeights_NoNumber, x_NoWeights_NoNumber := c_NoWeights_NoNumber, q_NoWeights_NoName := b_NoWeights_NoName, x_NoWeights_NoName := c_NoWeights_NoName, q_NoWeights_NoText := b_NoWeights_NoText, x_NoWeights_NoText := c_NoWeights_NoText, q_NoWeights_NoRow := b_NoWeights_NoRow, x_NoWeights_NoRow := c_NoWeights_NoRow, k_NoTree := g_NoTree, v_NoTree := w_NoTree, q_NoTree_BagError := b_NoTree_BagError, x_NoTree_BagError := c_NoTree_BagError, q_NoTree_NoGraph := b_NoTree_NoGraph, x_NoTree_NoGraph := c_NoTree_NoGraph, q_NoTree_NoPlace := b_NoTree_NoPlace, x_NoTree_NoPlace := c_NoTree_NoPlace, q_NoTree_NoTie := b_NoTree_NoTie, x_NoTree_NoTie := c_NoTree_NoTie, q_NoTree_NoBag := b_NoTree_NoBag, x_NoTree_NoBag := c_NoTree_NoBag, q_NoTree_NoTree := b_NoTree_NoTree, x_NoTree_NoTree := c_NoTree_NoTree, q_NoTree_NoOrder := b_NoTree_NoOrder, x_NoTree_NoOrder := c_NoTree_NoOrder, q_NoTree_NoPart := b_NoTree_NoPart, x_NoTree_NoPart := c_NoTree_NoPart, q_NoTree_NoSteps := b_NoTree_NoSteps, x_NoTree_NoSteps := c_NoTree_NoSteps, q_NoTree_TooWide := b_NoTree_TooWide, x_NoTree_TooWide := c_NoTree_TooWide, q_NoTree_NoColours := b_NoTree_NoColours, x_NoTree_NoColours := c_NoTree_NoColours, q_NoTree_NoWeights := b_NoTree_NoWeights, x_NoTree_NoWeights := c_NoTree_NoWeights, q_NoTree_NoNumber := b_NoTree_NoNumber, x_NoTree_NoNumber := c_NoTree_NoNumber, q_NoTree_NoName := b_NoTree_NoName, x_NoTree_NoName := c_NoTree_NoName, q_NoTree_NoText := b_NoTree_NoText, x_NoTree_NoText := c_NoTree_NoText, q_NoTree_NoRow := b_NoTree_NoRow, x_NoTree_NoRow := c_NoTree_NoRow, k_NoSteps := g_NoSteps, v_NoSteps := w_NoSteps, q_NoSteps_BagError := b_NoSteps_BagError, x_NoSteps_BagError := c_NoSteps_BagError, q_NoSteps_NoGraph := b_NoSteps_NoGraph, x_NoSteps_NoGraph := c_NoSteps_NoGraph, q_NoSteps_NoPlace := b_NoSteps_NoPlace, x_NoSteps_NoPlace := c_NoSteps_NoPlace, q_NoSteps_NoTie := b_NoSteps_NoTie, x_NoSteps_NoTie := c_NoSteps_NoTie, q_NoSteps_NoBag := b_NoSteps_NoBag, x_NoSteps_NoBag := c_NoSteps_NoBag, q_NoSteps_NoTree := b_NoSteps_NoTree, x_NoSteps_NoTree := c_NoSteps_NoTree, q_NoSteps_NoOrder := b_NoSteps_NoOrder, x_NoSteps_NoOrder := c_NoSteps_NoOrder, q_NoSteps_NoPart := b_NoSteps_NoPart, x_NoSteps_NoPart := c_NoSteps_NoPart, q_NoSteps_NoSteps := b_NoSteps_NoSteps, x_NoSteps_NoSteps := c_NoSteps_NoSteps, q_NoSteps_TooWide := b_NoSteps_TooWide, x_NoSteps_TooWide := c_NoSteps_TooWide, q_NoSteps_NoColours := b_NoSteps_NoColours, x_NoSteps_NoColours := c_NoSteps_NoColours, q_NoSteps_NoWeights := b_NoSteps_NoWeights, x_NoSteps_NoWeights := c_NoSteps_NoWeights, q_NoSteps_NoNumber := b_NoSteps_NoNumber, x_NoSteps_NoNumber := c_NoSteps_NoNumber, q_NoSteps_NoName := b_NoSteps_NoName, x_NoSteps_NoName := c_NoSteps_NoName, q_NoSteps_NoText := b_NoSteps_NoText, x_NoSteps_NoText := c_NoSteps_NoText, q_NoSteps_NoRow := b_NoSteps_NoRow, x_NoSteps_NoRow := c_NoSteps_NoRow, k_TooWide := g_TooWide, v_TooWide := w_TooWide, q_TooWide_BagError := b_TooWide_BagError, x_TooWide_BagError := c_TooWide_BagError, q_TooWide_NoGraph := b_TooWide_NoGraph, x_TooWide_NoGraph := c_TooWide_NoGraph, q_TooWide_NoPlace := b_TooWide_NoPlace, x_TooWide_NoPlace := c_TooWide_NoPlace, q_TooWide_NoTie := b_TooWide_NoTie, x_TooWide_NoTie := c_TooWide_NoTie, q_TooWide_NoBag := b_TooWide_NoBag, x_TooWide_NoBag := c_TooWide_NoBag, q_TooWide_NoTree := b_TooWide_NoTree, x_TooWide_NoTree := c_TooWide_NoTree, q_TooWide_NoOrder := b_TooWide_NoOrder, x_TooWide_NoOrder := c_TooWide_NoOrder, q_TooWide_NoPart := b_TooWide_NoPart, x_TooWide_NoPart := c_TooWide_NoPart, q_TooWide_NoSteps := b_TooWide_NoSteps, x_TooWide_NoSteps := c_TooWide_NoSteps, q_TooWide_TooWide := b_TooWide_TooWide, x_TooWide_TooWide := c_TooWide_TooWide, q_TooWide_NoColours := b_TooWide_NoColours, x_TooWide_NoColours := c_TooWide_NoColours, q_TooWide_NoWeights := b_TooWide_NoWeights, x_TooWide_NoWeights := c_TooWide_NoWeights, q_TooWide_NoNumber := b_TooWide_NoNumber, x_TooWide_NoNumber := c_TooWide_NoNumber, q_TooWide_NoName := b_TooWide_NoName, x_TooWide_NoName := c_TooWide_NoName, q_TooWide_NoText := b_TooWide_NoText, x_TooWide_NoText := c_TooWide_NoText, q_TooWide_NoRow := b_TooWide_NoRow, x_TooWide_NoRow := c_TooWide_NoRow }⟩
abbrev s_is_whole : Stmt := top 18
theorem sc_is_whole : FnScope ["thing"] ["thing"] (defScope s_is_whole) := ⟨rfl, rfl, rfl, by decide +kernel, rfl, by decide +kernel, by decide +kernel⟩
abbrev s_is_below : Stmt := top 19
theorem sc_is_below : FnScope ["n", "thing"] ["n", "thing"] (defScope s_is_below) := ⟨rfl, rfl, rfl, by decide +kernel, rfl, by decide +kernel, by decide +kernel⟩
abbrev s_is_set : Stmt := top 20
theorem sc_is_set : FnScope ["n", "places"] ["n", "places"] (defScope s_is_set) := ⟨rfl, rfl, rfl, by decide +kernel, rfl, by decide +kernel, by decide +kernel⟩
def spWhole (K : PySem.W.Frag) : Sp := fun vs H Q _ => ∃ (x : V) (t : Value) (bi bb : Bool), vs = [x] ∧ TyOf K H x t ∧ PySem.W.kitOne K t (.type "int") = some bi ∧ PySem.W.kitOne K t (.type "bool") = some bb ∧ Q (.bl (bi && !bb)) H
def spBelow : Sp := fun vs H Q _ => ∃ (n : Int) (o : Option Int), vs = [.int n, upV o] ∧ Q (.bl (belowF n o)) H
def spSet (K : PySem.W.Frag) : Sp := fun vs H Q _ => ∃ (n : Int) (a : Addr) (ns : List Int), vs = [.int n, .ref a] ∧ SqL K H a (ns.map V.int) ∧ ns.length ≤ 1000 ∧ ∀ H', Same H H' → Q (.bl (setF n ns)) H'
section
variable {P : Program} {w : World} {K : PySem.W.Frag} {mg : Str → Option Value} {base : Heap}
set_option maxHeartbeats 4000000 in
theorem ok_is_whole (B : Bl mg) (d_is_whole : Dn K mg "is_whole" s_is_whole ["thing"]) : FnOk P w K mg base CX0 1 d_is_whole.f d_is_whole.fd ["thing"] (spWhole K) := by
  refine d_is_whole.F.ok sc_is_whole (fun vs H Q E h => ?_) (fun cdv A outer s H vs Q E hr h => ?_)
  · obtain ⟨x, t, bi, bb, rfl, _⟩ := h
    rfl
  obtain ⟨x, t, bi, bb, rfl, ty, h1, h2, q⟩ := h
  refine ⟨_, (pss_one (ps_ret (pe_and (pe_callB (call_isinstK (K := K) rfl) rfl B.isinstance (by decide +kernel) (pa_cons (pv 0) (pa_cons (pe_bltn (v := .ty "int") (u := .type "int") rfl B.int (by decide +kernel) rfl) pa_nil))) (pe_one (pe_not (pe_callB (call_isinstK (K := K) rfl) rfl B.isinstance (by decide +kernel) (pa_cons (pv 0) (pa_cons (pe_bltn (v := .ty "bool") (u := .type "bool") rfl B.bool (by decide +kernel) rfl) pa_nil)))))))), ?_⟩
  refine ⟨_, rfl, _, _, _, _, _, rfl, rfl, ty, h1, _, rfl, ?_⟩
  cases bi with
  | true =>
    refine iteT ?_
    exact ⟨_, rfl, _, _, _, _, _, rfl, rfl, ty, h2, _, rfl, q⟩
  | false => exact iteF q
set_option maxHeartbeats 4000000 in
theorem ok_is_below (B : Bl mg) (d_is_whole : Dn K mg "is_whole" s_is_whole ["thing"]) (d_is_below : Dn K mg "is_below" s_is_below ["n", "thing"]) : FnOk P w K mg base CX0 2 d_is_below.f d_is_below.fd ["n", "thing"] spBelow := by
  have G_is_whole : FnOk P w K mg base CX0 1 _ _ _ _ := ok_is_whole B d_is_whole
  refine d_is_below.F.ok sc_is_below (fun vs H Q E h => ?_) (fun cdv A outer s H vs Q E hr h => ?_)
  · obtain ⟨n, i, rfl, _⟩ := h
    rfl
  obtain ⟨n, o, rfl, q⟩ := h
  refine ⟨_, (pss_one (ps_ret (pe_and (pe_call G_is_whole hr rfl d_is_whole.m d_is_whole.F.kp d_is_whole.b .nil pass0 (pa_cons (pv 1) pa_nil)) (pe_one (pe_chain op_le op_lt pe_int (pv 1) (pv 0)))))), ?_⟩
  cases o with
  | none => exact ⟨_, rfl, _, _, _, _, rfl, TyOf.non, kit_non_int, kit_non_bool, _, rfl, iteF q⟩
  | some i =>
    refine ⟨_, rfl, _, _, _, _, rfl, TyOf.int i, kit_int_int, kit_int_bool, _, rfl, ?_⟩
    refine iteT ?_
    refine ⟨_, rfl, _, _, rfl, rfl, _, rfl, ?_⟩
    refine ite2 (fun c => ?_) (fun c => ?_)
    · have c' : 0 ≤ i := of_decide_eq_true c
      refine ⟨_, rfl, _, _, rfl, rfl, ?_⟩
      have e : belowF n (some i) = decide (i < n) := by unfold belowF; simp [c']
      rw [e] at q; exact q
    · have c' : ¬ 0 ≤ i := of_decide_eq_false (Bool.eq_false_iff.mpr c)
      have e : belowF n (some i) = false := by unfold belowF; simp [c']
      rw [e] at q; exact q
set_option maxHeartbeats 4000000 in
theorem ok_is_set (B : Bl mg) (d_is_whole : Dn K mg "is_whole" s_is_whole ["thing"]) (d_is_below : Dn K mg "is_below" s_is_below ["n", "thing"]) (d_is_set : Dn K mg "is_set" s_is_set ["n", "places"]) : FnOk P w K mg base CX0 3 d_is_set.f d_is_set.fd ["n", "places"] (spSet K) := by
  have G_is_below : FnOk P w K mg base CX0 2 _ _ _ _ := ok_is_below B d_is_whole d_is_below
  refine d_is_set.F.ok sc_is_set (fun vs H Q E h => ?_) (fun cdv A outer s H vs Q E hr h => ?_)
  · obtain ⟨n, a, ns, rfl, _⟩ := h
    rfl
  obtain ⟨n, a, ns, rfl, hS, hz, q⟩ := h
  refine ⟨_, (pss_cons (ps_if (pt_not (pt_truthK (K := K) rfl (pe_callB (call_allK (K := K) rfl rfl) rfl B.all (by decide +kernel) (pa_cons (pe_lc ["v", "n"] [none, some 0]  (by kernel_rfl) rfl (pi_listK (K := K) rfl (pv 1)) (fun _ _ _ _ _ => (pg_name (i := 0) (show (["v", "n"] : List Str).Nodup by decide +kernel) rfl (Or.inl rfl))) (fun _ _ _ _ _ => pts_nil) (fun _ _ _ _ _ => (pe_call G_is_below hr rfl d_is_below.m d_is_below.F.kp d_is_below.b .nil pass0 (pa_cons (pv 1) (pa_cons (pv 0) pa_nil))))) pa_nil)) (fun _ => rfl)))
      (pss_one (ps_ret pe_bl))
      pss_nil)
      (pss_one (ps_ret (pe_callB (call_allK (K := K) rfl rfl) rfl B.all (by decide +kernel) (pa_cons (pe_lc ["k", "places"] [none, some 1]  (by kernel_rfl) rfl (pi_range2 rfl B.range (pa_cons pe_int (pa_cons (pe_callB (call_lenK (K := K) rfl) rfl B.len (by decide +kernel) (pa_cons (pv 1) pa_nil)) pa_nil))) (fun _ _ _ _ _ => (pg_name (i := 0) (show (["k", "places"] : List Str).Nodup by decide +kernel) rfl (Or.inl rfl))) (fun _ _ _ _ _ => pts_nil) (fun _ _ _ _ _ => (pe_cmpR op_lt (pe_ix (ix_listK (K := K) rfl) (pv 1) (pe_op op_sub (pv 0) pe_int) (fun _ _ => rfl)) (pe_ix (ix_listK (K := K) rfl) (pv 1) (pv 0) (fun _ _ => rfl)) (nomark _)))) pa_nil))))), ?_⟩
  refine ⟨_, rfl, a, rfl, ⟨_, hS⟩, ?_⟩
  refine lc_fmN (fun x => match x with | .int v => some (.bl (decide (0 ≤ v ∧ v < n))) | _ => none) hS (by rw [List.length_map]; exact hz) (fun x H1 N hx sm hN => ?_) (fun H1 p H1' sm hp => ?_)
  · obtain ⟨v, hv, rfl⟩ := List.mem_map.mp hx
    exact ⟨_, rfl, _, rfl, n, some v, rfl, hN H1 sm⟩
  have e1 : (ns.map V.int).filterMap (fun x => match x with | .int v => some (V.bl (decide (0 ≤ v ∧ v < n))) | _ => none) = (ns.map fun v => decide (0 ≤ v ∧ v < n)).map V.bl := by
    rw [List.map_map]
    exact fm_ints fun v _ => rfl
  rw [e1] at hp
  refine ⟨p, _, _, rfl, SqL.of hp.here, Truths.bls _, _, rfl, ?_⟩
  have s1 : Same H H1' := sm.trans hp.same
  have e2 : ((ns.map fun v => decide (0 ≤ v ∧ v < n)).all id) = ns.all fun v => decide (0 ≤ v ∧ v < n) := by rw [List.all_map]; rfl
  rw [e2]
  cases c : ns.all fun v => decide (0 ≤ v ∧ v < n) with
  | false =>
    refine iteT ?_
    have e : setF n ns = false := by unfold setF; rw [c]; rfl
    rw [e] at q
    exact q _ s1
  | true =>
    refine iteF ?_
    have hl : ((ns.map V.int).length : Int) = ns.length := by rw [List.length_map]
    refine ⟨_, rfl, a, _, rfl, .inl (s1.seq hS), 1, _, rfl, ⟨by decide, by decide, by omega, by omega⟩, ?_⟩
    have en : ((((ns.map V.int).length : Nat) : Int) - 1).toNat = ns.length - 1 := by rw [List.length_map]; omega
    rw [en]
    refine lc_fmRN (fun i => some (.bl (decide (ns.getD i 0 < ns.getD (i + 1) 0)))) (by omega) (fun i H2 N hi sm2 hN => ?_) (fun H2 p2 H2' sm2 hp2 => ?_)
    · refine ⟨_, rfl, _, rfl, _, _, rfl, rfl, a, _, _, _, rfl, rfl, sm2.seq (s1.seq hS), at_ints (by omega) (by omega), _, rfl, _, rfl, a, _, _, _, rfl, rfl, sm2.seq (s1.seq hS), at_ints (by omega) (by omega), _, _, rfl, rfl, ?_⟩
      have z1 : (1 + (i : Int) - 1).toNat = i := by omega
      have z2 : (1 + (i : Int)).toNat = i + 1 := by omega
      rw [z1, z2]
      exact hN H2 sm2
    · have e3 : (List.range (ns.length - 1)).filterMap (fun i => some (V.bl (decide (ns.getD i 0 < ns.getD (i + 1) 0)))) = ((List.range (ns.length - 1)).map fun i => decide (ns.getD i 0 < ns.getD (i + 1) 0)).map V.bl := by
        rw [List.map_map]
        exact fm_some fun _ _ => rfl
      rw [e3] at hp2
      refine ⟨p2, _, _, rfl, SqL.of hp2.here, Truths.bls _, ?_⟩
      have e : setF n ns = ((List.range (ns.length - 1)).map fun i => decide (ns.getD i 0 < ns.getD (i + 1) 0)).all id := by
        unfold setF riseF; rw [c, List.all_map]; rfl
      rw [e] at q
      exact q _ (s1.trans (sm2.trans hp2.same))
end

abbrev s_fault : Stmt := top 43
theorem sc_fault : FnScope ["graph", "rows", "told"] ["graph", "rows"] (defScope s_fault) := ⟨rfl, rfl, rfl, by decide +kernel, rfl, by decide +kernel, by decide +kernel⟩
abbrev s_row_fault : Stmt := top 44
theorem sc_row_fault : FnScope ["n", "rows", "k", "row"] ["n", "rows"] (defScope s_row_fault) := ⟨rfl, rfl, rfl, by decide +kernel, rfl, by decide +kernel, by decide +kernel⟩
abbrev s_is_up : Stmt := top 45
theorem sc_is_up : FnScope ["k", "up"] ["k", "up"] (defScope s_is_up) := ⟨rfl, rfl, rfl, by decide +kernel, rfl, by decide +kernel, by decide +kernel⟩
abbrev s_place_fault : Stmt := top 46
theorem sc_place_fault : FnScope ["n", "rows", "v"] ["n", "rows"] (defScope s_place_fault) := ⟨rfl, rfl, rfl, by decide +kernel, rfl, by decide +kernel, by decide +kernel⟩
abbrev s_tie_fault : Stmt := top 47
theorem sc_tie_fault : FnScope ["ties", "rows", "a", "b"] ["ties", "rows"] (defScope s_tie_fault) := ⟨rfl, rfl, rfl, by decide +kernel, rfl, by decide +kernel, by decide +kernel⟩
abbrev s_apart_fault : Stmt := top 48
theorem sc_apart_fault : FnScope ["n", "rows", "v", "tops"] ["n", "rows"] (defScope s_apart_fault) := ⟨rfl, rfl, rfl, by decide +kernel, rfl, by decide +kernel, by decide +kernel⟩
abbrev s_is_held : Stmt := top 49
theorem sc_is_held : FnScope ["rows", "up", "v"] ["rows", "up", "v"] (defScope s_is_held) := ⟨rfl, rfl, rfl, by decide +kernel, rfl, by decide +kernel, by decide +kernel⟩
def spUp : Sp := fun vs H Q _ => ∃ (k : Nat) (o : Option Int), vs = [.int k, upV o] ∧ Q (.bl (upOk k o)) H
def spRowFault (K : PySem.W.Frag) : Sp := fun vs H Q _ => ∃ (n : Nat) (a : Addr) (rs : List Row), vs = [.int n, .ref a] ∧ RowsAt K H a rs ∧
  ∀ v H', Same H H' → FltV H' v (match rowFaultF n rs with | some k => .row k | none => .ok) → Q v H'
def spPlaceFault (K : PySem.W.Frag) : Sp := fun vs H Q _ => ∃ (n : Nat) (a : Addr) (rs : List Row), vs = [.int n, .ref a] ∧ n ≤ 1000 ∧ RowsAt K H a rs ∧
  ∀ v H', Same H H' → FltV H' v (match placeFaultF n rs with | some k => .place k | none => .ok) → Q v H'
def spTieFault (K : PySem.W.Frag) : Sp := fun vs H Q _ => ∃ (t a : Addr) (ts : List (Int × Int)) (rs : List Row), vs = [.ref t, .ref a] ∧ TiesAt K H t ts ∧ RowsAt K H a rs ∧
  ∀ v H', Same H H' → FltV H' v (match tieFaultF ts rs with | some k => .tie k.1 k.2 | none => .ok) → Q v H'
def upsIn (rs : List Row) : Prop := ∀ k i, (rowAt rs k).1 = some i → k < rs.length → 0 ≤ i ∧ i < (rs.length : Int)
def spHeld (K : PySem.W.Frag) : Sp := fun vs H Q _ => ∃ (a : Addr) (rs : List Row) (u : Option Int) (v : Int), vs = [.ref a, upV u, .int v] ∧ RowsAt K H a rs ∧ (∀ i, u = some i → 0 ≤ i ∧ i < (rs.length : Int)) ∧ Q (.bl (heldF rs u v)) H
def spApart (K : PySem.W.Frag) : Sp := fun vs H Q _ => ∃ (n : Nat) (a : Addr) (rs : List Row), vs = [.int n, .ref a] ∧ n ≤ 1000 ∧ RowsAt K H a rs ∧ upsIn rs ∧
  ∀ v H', Same H H' → FltV H' v (match apartFaultF n rs with | some k => .apart k.1 k.2.1 k.2.2 | none => .ok) → Q v H'
def spFault (K : PySem.W.Frag) : Sp := fun vs H Q _ => ∃ (g : V) (n : Nat) (ts : List (Int × Int)) (a : Addr) (rs : List Row), vs = [g, .ref a] ∧ n ≤ 1000 ∧ GraphV K H g n ts ∧ RowsAt K H a rs ∧
  ∀ v H', Same H H' → FltV H' v (faultF n ts rs) → Q v H'
theorem ups_of {n : Int} {rs : List Row} (h : rowFaultF n rs = none) : upsIn rs := by
  unfold rowFaultF at h
  split at h
  · cases h
  · intro k i e hk
    have q := List.find?_eq_none.mp h k (List.mem_range.mpr hk)
    have q' : rowOk n rs k = true := by simpa using q
    unfold rowOk at q'
    rw [Bool.and_eq_true] at q'
    have u := q'.1
    unfold upOk at u
    rw [e] at u
    split at u
    · cases u
    · have u' : 0 ≤ i ∧ i < (k : Int) := of_decide_eq_true u
      omega
theorem tops_fm (rs : List Row) (v : Int) : (List.range rs.length).filterMap (fun i => if isTop rs v i then some (V.int i) else none) = (topsF rs v).map fun k => V.int (k : Nat) := by
  unfold topsF
  induction (List.range rs.length) with
  | nil => rfl
  | cons a r ih =>
    rw [List.filter_cons]
    cases c : isTop rs v a with
    | true => rw [List.filterMap_cons_some (by rw [if_pos c]), ih]; simp
    | false => rw [List.filterMap_cons_none (by rw [c]; rfl), ih]; simp
section
variable {P : Program} {w : World} {K : PySem.W.Frag} {mg : Str → Option Value} {base : Heap}
set_option maxHeartbeats 4000000 in
theorem ok_is_up (B : Bl mg) (d_is_whole : Dn K mg "is_whole" s_is_whole ["thing"]) (d_is_below : Dn K mg "is_below" s_is_below ["n", "thing"]) (d_is_up : Dn K mg "is_up" s_is_up ["k", "up"]) : FnOk P w K mg base CX0 3 d_is_up.f d_is_up.fd ["k", "up"] spUp := by
  have G_is_below : FnOk P w K mg base CX0 2 _ _ _ _ := ok_is_below B d_is_whole d_is_below
  refine d_is_up.F.ok sc_is_up (fun vs H Q E h => ?_) (fun cdv A outer s H vs Q E hr h => ?_)
  · obtain ⟨k, o, rfl, _⟩ := h
    rfl
  obtain ⟨k, o, rfl, q⟩ := h
  refine ⟨_, (pss_cons (ps_if (pt_cmpR op_eq (pv 0) pe_int (nomark _))
      (pss_one (ps_ret (pe_cmpR op_isN (pv 1) pe_non (nomark _))))
      pss_nil)
      (pss_one (ps_ret (pe_call G_is_below hr rfl d_is_below.m d_is_below.F.kp d_is_below.b .nil pass0 (pa_cons (pv 0) (pa_cons (pv 1) pa_nil)))))), ?_⟩
  refine ⟨_, rfl, rfl, _, rfl, ?_⟩
  refine ite2 (fun c => ?_) (fun c => ?_)
  · have c' : V.int (k : Int) = V.int 0 := of_decide_eq_true c
    have k0 : k = 0 := by
      have z : (k : Int) = 0 := by injection c'
      omega
    refine ⟨_, rfl, rfl, ?_⟩
    have e : upOk k o = decide (upV o = V.non) := by unfold upOk; rw [if_pos k0]; cases o <;> simp [upV]
    rw [e] at q
    exact q
  · have c' : ¬ V.int (k : Int) = V.int 0 := of_decide_eq_false (Bool.eq_false_iff.mpr c)
    have k0 : ¬ k = 0 := fun z => c' (by rw [z]; rfl)
    refine ⟨_, rfl, _, rfl, k, o, rfl, ?_⟩
    have e : upOk k o = belowF k o := by unfold upOk; rw [if_neg k0]
    rw [e] at q
    exact q
set_option maxHeartbeats 4000000 in
theorem ok_row_fault (B : Bl mg) (d_is_whole : Dn K mg "is_whole" s_is_whole ["thing"]) (d_is_below : Dn K mg "is_below" s_is_below ["n", "thing"]) (d_is_set : Dn K mg "is_set" s_is_set ["n", "places"]) (d_is_up : Dn K mg "is_up" s_is_up ["k", "up"]) (d_row_fault : Dn K mg "row_fault" s_row_fault ["n", "rows"]) : FnOk P w K mg base CX0 4 d_row_fault.f d_row_fault.fd ["n", "rows"] (spRowFault K) := by
  have G_is_up : FnOk P w K mg base CX0 3 _ _ _ _ := ok_is_up B d_is_whole d_is_below d_is_up
  have G_is_set : FnOk P w K mg base CX0 3 _ _ _ _ := ok_is_set B d_is_whole d_is_below d_is_set
  refine d_row_fault.F.ok sc_row_fault (fun vs H Q E h => ?_) (fun cdv A outer s H vs Q E hr h => ?_)
  · obtain ⟨n, a, rs, rfl, _⟩ := h
    rfl
  obtain ⟨n, a, rs, rfl, hR, q⟩ := h
  refine ⟨_, (pss_cons (ps_if (pt_not (pt_truthK (K := K) rfl (pv 1) (fun _ => rfl)))
      (pss_one (ps_ret (pe_tupN (pa_cons pe_str (pa_cons pe_int pa_nil)))))
      pss_nil)
      (pss_cons (ps_for PassesOwn.never rfl (pi_enum (K := K) rfl rfl B.enumerate (pa_cons (pv 1) pa_nil)) (pg_tupK (K := K) (n := 2) rfl rfl (pgs_cons (pg_name (i := 2) sc_row_fault.nd rfl (Or.inl rfl)) (pgs_cons (pg_name (i := 3) sc_row_fault.nd rfl (Or.inl rfl)) pgs_nil)))
      (pss_one (ps_if (PW.pt (pw_or (pt_not (pt_truthK (K := K) rfl (pe_call G_is_up hr rfl d_is_up.m d_is_up.F.kp d_is_up.b .nil pass0 (pa_cons (pv 2) (pa_cons (pe_ix (ix_tupK (K := K) rfl) (pv 3) pe_int (fun _ _ => rfl)) pa_nil))) (fun _ => rfl))) (pw_or1 (pt_not (pt_truthK (K := K) rfl (pe_call G_is_set hr rfl d_is_set.m d_is_set.F.kp d_is_set.b .nil pass0 (pa_cons (pv 0) (pa_cons (pe_ix (ix_tupK (K := K) rfl) (pv 3) pe_int (fun _ _ => rfl)) pa_nil))) (fun _ => rfl))))))
      (pss_one (ps_ret (pe_tupN (pa_cons pe_str (pa_cons (pv 2) pa_nil)))))
      pss_nil)))
      (pss_one (ps_ret pe_non)))), ?_⟩
  obtain ⟨xs, hx, hp, hz⟩ := id hR
  have hl : xs.length = rs.length := Paired.length hp
  refine ⟨_, rfl, _, .inl ⟨xs, hx, rfl⟩, ?_⟩
  cases xs with
  | nil =>
    cases hp
    refine iteT ?_
    refine ⟨(by show 2 ≤ 1000; decide), fun p H1 nw => ?_⟩
    exact q _ H1 nw.same ⟨p, rfl, nw.here⟩
  | cons x0 xr =>
    refine iteF ?_
    have hne : rs.isEmpty = false := by cases hp; rfl
    have ef : rowFaultF n rs = (List.range rs.length).find? fun k => !rowOk n rs k := by unfold rowFaultF; rw [hne]; rfl
    refine ⟨_, rfl, a, rfl, ⟨_, hx⟩, ?_⟩
    refine for_enum (xs := x0 :: xr) (fun i σ H2 => ∃ (kk rr : Option V), σ = [some (.int n), some (.ref a), kk, rr] ∧ Same H H2 ∧ (∀ j < i, rowOk n rs j = true)) ⟨none, none, rfl, Same.refl _, fun j hj => absurd hj (Nat.not_lt_zero _)⟩ (fun i σ H2 _ ⟨_, _, _, sm, _⟩ => sm.seq hx) ?_ ?_
    · rintro i x σ H2 p H3 hi ⟨kk, rr, rfl, sm, ok⟩ nw
      obtain ⟨r, hr1, ⟨pr, b, rfl, hT, hb, hbl⟩⟩ := paired_get hp hi
      have s3 : Same H H3 := sm.trans nw.same
      have er : rowAt rs i = r := rowAt_get hr1
      refine ⟨p, _, rfl, SqT.of nw.here, rfl, _, _, rfl, _, _, rfl, rfl, ?_⟩
      have il : i < rs.length := (List.getElem?_eq_some_iff.mp hr1).1
      have bad : rowOk n rs i = false → rowFaultF n rs = some i := fun c => by
        rw [ef]
        refine List.find?_range_eq_some.mpr ⟨by rw [c]; rfl, List.mem_range.mpr il, fun j hj => ?_⟩
        rw [ok j hj]; rfl
      have ret : ∀ H4 : Hp, Same H H4 → rowOk n rs i = false → ∀ p5 H5, New H4 p5 (.tup [.str "row", .int (i : Nat)]) H5 → Q (.ref p5) H5 := fun H4 s4 c p5 H5 n5 => by
        refine q _ H5 (s4.trans n5.same) ?_
        rw [bad c]
        exact ⟨p5, rfl, n5.here⟩
      refine ⟨_, rfl, _, rfl, pr, _, _, _, rfl, rfl, s3.tupq hT, rfl, i, r.1, rfl, _, rfl, ?_⟩
      cases c1 : upOk i r.1 with
      | false =>
        refine iteT ?_
        have cb : rowOk n rs i = false := by unfold rowOk; rw [er, c1]; rfl
        exact ⟨_, rfl, (by show 2 ≤ 1000; decide), ret H3 s3 cb⟩
      | true =>
        refine iteF ?_
        refine ⟨_, rfl, _, rfl, pr, _, _, _, rfl, rfl, s3.tupq hT, rfl, n, b, r.2, rfl, s3.seq hb, hbl, fun H4 s4 => ?_⟩
        refine ⟨_, rfl, ?_⟩
        cases c2 : setF n r.2 with
        | false =>
          refine iteT ?_
          have cb : rowOk n rs i = false := by unfold rowOk; rw [er, c1, c2]; rfl
          exact ⟨_, rfl, (by show 2 ≤ 1000; decide), ret H4 (s3.trans s4) cb⟩
        | true =>
          refine iteF ?_
          refine ⟨_, _, rfl, s3.trans s4, fun j hj => ?_⟩
          by_cases hji : j = i
          · subst hji; unfold rowOk; rw [er, c1, c2]; rfl
          · exact ok j (by omega)
    · rintro σ H2 ⟨kk, rr, rfl, sm, ok⟩
      have en : rowFaultF n rs = none := by
        rw [ef]
        refine List.find?_eq_none.mpr fun j hj => ?_
        rw [ok j (by rw [hl]; exact List.mem_range.mp hj)]; simp
      exact q _ H2 sm (by rw [en]; rfl)
set_option maxHeartbeats 4000000 in
theorem ok_place_fault (B : Bl mg) (d_place_fault : Dn K mg "place_fault" s_place_fault ["n", "rows"]) : FnOk P w K mg base CX0 2 d_place_fault.f d_place_fault.fd ["n", "rows"] (spPlaceFault K) := by
  refine d_place_fault.F.ok sc_place_fault (fun vs H Q E h => ?_) (fun cdv A outer s H vs Q E hr h => ?_)
  · obtain ⟨n, a, rs, rfl, _⟩ := h
    rfl
  obtain ⟨n, a, rs, rfl, hn, hR, q⟩ := h
  have hv : (A.deeper (PyProof.Rows.envOfC "place_fault" (defScope s_place_fault) s.heap.objs.size d_place_fault.f cdv)).units + 65 < cLine := by have := hr.un; omega
  refine ⟨_, (pss_cons (ps_for PassesOwn.never rfl (pi_range1 rfl B.range (pa_cons (pv 0) pa_nil)) (pg_name (i := 2) sc_place_fault.nd rfl (Or.inr rfl))
      (pss_one (ps_if (pt_not (pt_truthK (K := K) rfl (pe_callB (call_anyK (K := K) rfl rfl) rfl B.any (by decide +kernel) (pa_cons (pe_lc ["up", "places", "v"] [none, none, some 2]  (by kernel_rfl) rfl (pi_listK (K := K) rfl (pv 1)) (fun _ _ _ _ _ => (pg_tupK (K := K) (n := 2) rfl rfl (pgs_cons (pg_name (i := 0) (show (["up", "places", "v"] : List Str).Nodup by decide +kernel) rfl (Or.inl rfl)) (pgs_cons (pg_name (i := 1) (show (["up", "places", "v"] : List Str).Nodup by decide +kernel) rfl (Or.inl rfl)) pgs_nil)))) (fun _ _ _ _ _ => pts_nil) (fun _ _ _ _ _ => (pe_cmpR (op_inDK (K := K) rfl hv) (pv 2) (pv 1) (by with_unfolding_all rfl)))) pa_nil)) (fun _ => rfl)))
      (pss_one (ps_ret (pe_tupN (pa_cons pe_str (pa_cons (pv 2) pa_nil)))))
      pss_nil)))
      (pss_one (ps_ret pe_non))), ?_⟩
  obtain ⟨xs, hx, hp, hz⟩ := id hR
  have hl : xs.length = rs.length := Paired.length hp
  refine ⟨_, rfl, _, rfl, by omega, by omega, ?_⟩
  have en : ((n : Nat) : Int).toNat = n := by omega
  rw [en]
  refine for_range (n := n) (fun i σ H2 => ∃ vv : Option V, σ = [some (.int n), some (.ref a), vv] ∧ Same H H2 ∧ ∀ j < i, rs.any (has (j : Nat)) = true) ⟨none, rfl, Same.refl _, fun j hj => absurd hj (Nat.not_lt_zero _)⟩ ?_ ?_
  · rintro i σ H2 hi ⟨vv, rfl, sm, ok⟩
    refine ⟨_, rfl, a, rfl, ⟨_, sm.seq hx⟩, ?_⟩
    refine lc_ixN (fun j => some (.bl (has (0 + (i : Int)) (rowAt rs j)))) (sm.seq hx) (by omega) (fun j x H3 N hj s3 hN => ?_) (fun H3 p H4 s3 nw => ?_)
    · obtain ⟨r, hr1, ⟨pr, b, rfl, hT, hb, hbl⟩⟩ := paired_get hp hj
      have s4 := sm.trans s3
      rw [rowAt_get hr1] at hN
      exact ⟨pr, _, rfl, s4.tupq hT, rfl, _, _, rfl, _, _, rfl, rfl, _, rfl, _, rfl, inInts (s4.seq hb) (hN H3 s3)⟩
    · have e1 : (List.range xs.length).filterMap (fun j => some (V.bl (has (0 + (i : Int)) (rowAt rs j)))) = ((List.range rs.length).map fun j => has (0 + (i : Int)) (rowAt rs j)).map V.bl := by
        rw [hl, List.map_map]
        exact fm_some fun _ _ => rfl
      rw [e1] at nw
      have e2 := any_range rs (has (0 + (i : Int)))
      refine ⟨p, _, _, rfl, SqL.of nw.here, Truths.bls _, _, rfl, ?_⟩
      rw [e2]
      have s4 := sm.trans (s3.trans nw.same)
      have ei : (0 + (i : Int)) = ((i : Nat) : Int) := by omega
      rw [ei]
      cases c : rs.any (has ((i : Nat) : Int)) with
      | false =>
        refine iteT ?_
        refine ⟨_, rfl, (by show 2 ≤ 1000; decide), fun p5 H5 n5 => ?_⟩
        refine q _ H5 (s4.trans n5.same) ?_
        have ef : placeFaultF n rs = some i := List.find?_range_eq_some.mpr ⟨by rw [c]; rfl, List.mem_range.mpr hi, fun j hj => by rw [ok j hj]; rfl⟩
        rw [ef]
        exact ⟨p5, rfl, n5.here⟩
      | true =>
        refine iteF ?_
        refine ⟨_, rfl, s4, fun j hj => ?_⟩
        by_cases hji : j = i
        · subst hji; exact c
        · exact ok j (by omega)
  · rintro σ H2 ⟨vv, rfl, sm, ok⟩
    have ef : placeFaultF n rs = none := List.find?_eq_none.mpr fun j hj => by rw [ok j (List.mem_range.mp hj)]; simp
    exact q _ H2 sm (by rw [ef]; rfl)
set_option maxHeartbeats 4000000 in
theorem ok_tie_fault (B : Bl mg) (d_tie_fault : Dn K mg "tie_fault" s_tie_fault ["ties", "rows"]) : FnOk P w K mg base CX0 2 d_tie_fault.f d_tie_fault.fd ["ties", "rows"] (spTieFault K) := by
  refine d_tie_fault.F.ok sc_tie_fault (fun vs H Q E h => ?_) (fun cdv A outer s H vs Q E hr h => ?_)
  · obtain ⟨t, a, ts, rs, rfl, _⟩ := h
    rfl
  obtain ⟨t, a, ts, rs, rfl, hT, hR, q⟩ := h
  have hv : (A.deeper (PyProof.Rows.envOfC "tie_fault" (defScope s_tie_fault) s.heap.objs.size d_tie_fault.f cdv)).units + 65 < cLine := by have := hr.un; omega
  refine ⟨_, (pss_cons (ps_for PassesOwn.never rfl (pi_listK (K := K) rfl (pv 0)) (pg_tupK (K := K) (n := 2) rfl rfl (pgs_cons (pg_name (i := 2) sc_tie_fault.nd rfl (Or.inr rfl)) (pgs_cons (pg_name (i := 3) sc_tie_fault.nd rfl (Or.inr rfl)) pgs_nil)))
      (pss_one (ps_if (pt_not (pt_truthK (K := K) rfl (pe_callB (call_anyK (K := K) rfl rfl) rfl B.any (by decide +kernel) (pa_cons (pe_lc ["up", "places", "a", "b"] [none, none, some 2, some 3]  (by kernel_rfl) rfl (pi_listK (K := K) rfl (pv 1)) (fun _ _ _ _ _ => (pg_tupK (K := K) (n := 2) rfl rfl (pgs_cons (pg_name (i := 0) (show (["up", "places", "a", "b"] : List Str).Nodup by decide +kernel) rfl (Or.inl rfl)) (pgs_cons (pg_name (i := 1) (show (["up", "places", "a", "b"] : List Str).Nodup by decide +kernel) rfl (Or.inl rfl)) pgs_nil)))) (fun _ _ _ _ _ => pts_nil) (fun _ _ _ _ _ => (pe_and (pe_cmpR (op_inDK (K := K) rfl hv) (pv 2) (pv 1) (by with_unfolding_all rfl)) (pe_one (pe_cmpR (op_inDK (K := K) rfl hv) (pv 3) (pv 1) (by with_unfolding_all rfl)))))) pa_nil)) (fun _ => rfl)))
      (pss_one (ps_ret (pe_tupN (pa_cons pe_str (pa_cons (pv 2) (pa_cons (pv 3) pa_nil))))))
      pss_nil)))
      (pss_one (ps_ret pe_non))), ?_⟩
  obtain ⟨xs, hx, hp, hz⟩ := id hR
  obtain ⟨ys, hy, hq, hzt⟩ := id hT
  have hl : xs.length = rs.length := Paired.length hp
  have hlt : ys.length = ts.length := Paired.length hq
  let pt : Int × Int → Bool := fun t => rs.any fun r => has t.1 r && has t.2 r
  have ef : tieFaultF ts rs = ts.find? fun t => !pt t := rfl
  refine ⟨_, rfl, t, rfl, ⟨_, hy⟩, ?_⟩
  refine for_list (xs := ys) (fun i σ H2 => ∃ aa bb : Option V, σ = [some (.ref t), some (.ref a), aa, bb] ∧ Same H H2 ∧ ∀ j z, j < i → ts[j]? = some z → pt z = true) ⟨none, none, rfl, Same.refl _, fun j z hj => absurd hj (Nat.not_lt_zero _)⟩ (fun i σ H2 _ ⟨_, _, _, sm, _⟩ => sm.seq hy) ?_ ?_
  · rintro i x σ H2 hi ⟨aa, bb, rfl, sm, ok⟩
    obtain ⟨tt, ht1, ⟨p0, rfl, hT0⟩⟩ := paired_get hq hi
    refine ⟨p0, _, rfl, sm.tupq hT0, rfl, _, _, rfl, _, _, rfl, rfl, ?_⟩
    refine ⟨_, rfl, a, rfl, ⟨_, sm.seq hx⟩, ?_⟩
    refine lc_ixN (fun j => some (.bl (has tt.1 (rowAt rs j) && has tt.2 (rowAt rs j)))) (sm.seq hx) (by omega) (fun j x H3 N hj s3 hN => ?_) (fun H3 p H4 s3 nw => ?_)
    · obtain ⟨r, hr1, ⟨pr, b, rfl, hTr, hb, hbl⟩⟩ := paired_get hp hj
      have s4 := sm.trans s3
      rw [rowAt_get hr1] at hN
      refine ⟨pr, _, rfl, s4.tupq hTr, rfl, _, _, rfl, _, _, rfl, rfl, _, rfl, _, rfl, inInts (s4.seq hb) ⟨_, rfl, ?_⟩⟩
      cases c : decide (tt.1 ∈ r.2) with
      | false =>
        refine iteF ?_
        have z := hN H3 s3
        have ez : (has tt.1 r && has tt.2 r) = false := by unfold has; rw [c]; rfl
        rw [ez] at z; exact z
      | true =>
        refine iteT ?_
        have z := hN H3 s3
        have ez : (has tt.1 r && has tt.2 r) = decide (tt.2 ∈ r.2) := by unfold has; rw [c]; rfl
        rw [ez] at z
        exact ⟨_, rfl, _, rfl, inInts (s4.seq hb) z⟩
    · have e1 : (List.range xs.length).filterMap (fun j => some (V.bl (has tt.1 (rowAt rs j) && has tt.2 (rowAt rs j)))) = ((List.range rs.length).map fun j => (fun r => has tt.1 r && has tt.2 r) (rowAt rs j)).map V.bl := by
        rw [hl, List.map_map]
        exact fm_some fun _ _ => rfl
      rw [e1] at nw
      have e2 := any_range rs (fun r => has tt.1 r && has tt.2 r)
      refine ⟨p, _, _, rfl, SqL.of nw.here, Truths.bls _, _, rfl, ?_⟩
      rw [e2]
      have s4 := sm.trans (s3.trans nw.same)
      cases c : rs.any fun r => has tt.1 r && has tt.2 r with
      | false =>
        refine iteT ?_
        refine ⟨_, rfl, _, rfl, (by show 3 ≤ 1000; decide), fun p5 H5 n5 => ?_⟩
        refine q _ H5 (s4.trans n5.same) ?_
        have ef2 : tieFaultF ts rs = some tt := find_at ht1 (by show (!pt tt) = true; show (!(rs.any fun r => has tt.1 r && has tt.2 r)) = true; rw [c]; rfl) fun j z hj hz => by show (!pt z) = false; rw [ok j z hj hz]; rfl
        rw [ef2]
        exact ⟨p5, rfl, n5.here⟩
      | true =>
        refine iteF ?_
        refine ⟨_, _, rfl, s4, fun j z hj hz => ?_⟩
        by_cases hji : j = i
        · subst hji
          rw [ht1] at hz; cases hz
          exact c
        · exact ok j z (by omega) hz
  · rintro σ H2 ⟨aa, bb, rfl, sm, ok⟩
    have ef2 : tieFaultF ts rs = none := List.find?_eq_none.mpr fun z hz => by
      obtain ⟨j, hj, rfl⟩ := List.getElem_of_mem hz
      have := ok j ts[j] (by rw [hlt]; exact hj) (List.getElem?_eq_getElem hj)
      show ¬ (!pt ts[j]) = true
      rw [this]; simp
    exact q _ H2 sm (by rw [ef2]; rfl)
set_option maxHeartbeats 4000000 in
theorem ok_is_held (B : Bl mg) (d_is_held : Dn K mg "is_held" s_is_held ["rows", "up", "v"]) : FnOk P w K mg base CX0 1 d_is_held.f d_is_held.fd ["rows", "up", "v"] (spHeld K) := by
  refine d_is_held.F.ok sc_is_held (fun vs H Q E h => ?_) (fun cdv A outer s H vs Q E hr h => ?_)
  · obtain ⟨a, rs, u, v, rfl, _⟩ := h
    rfl
  obtain ⟨a, rs, u, v, rfl, hR, hu, q⟩ := h
  have hv : (A.deeper (PyProof.Rows.envOfC "is_held" (defScope s_is_held) s.heap.objs.size d_is_held.f cdv)).units + 65 < cLine := by have := hr.un; omega
  refine ⟨_, (pss_one (ps_ret (pe_and (pe_cmpR op_notN (pv 1) pe_non (nomark _)) (pe_one (pe_cmpR (op_inDK (K := K) rfl hv) (pv 2) (pe_ix (ix_tupK (K := K) rfl) (pe_ix (ix_listK (K := K) rfl) (pv 0) (pv 1) (fun _ _ => rfl)) pe_int (fun _ _ => rfl)) (by with_unfolding_all rfl)))))), ?_⟩
  obtain ⟨xs, hx, hp, hz⟩ := id hR
  have hl : xs.length = rs.length := Paired.length hp
  refine ⟨_, rfl, rfl, _, rfl, ?_⟩
  cases u with
  | none => exact iteF q
  | some i =>
    obtain ⟨i0, i1⟩ := hu i rfl
    refine iteT ?_
    have il : i.toNat < rs.length := by omega
    obtain ⟨x, hx1, ⟨pr, b, rfl, hT, hb, hbl⟩⟩ := paired_getr hp (rowAt_lt il)
    have ei : i = ((i.toNat : Nat) : Int) := by omega
    have hat : atI xs i = some (.ref pr) := by rw [ei]; exact atI_nat hx1
    exact ⟨_, rfl, _, rfl, _, rfl, a, _, _, _, rfl, rfl, hx, hat, pr, _, _, _, rfl, rfl, hT, rfl, inInts hb q⟩
set_option maxHeartbeats 4000000 in
theorem ok_apart_fault (B : Bl mg) (d_is_held : Dn K mg "is_held" s_is_held ["rows", "up", "v"]) (d_apart_fault : Dn K mg "apart_fault" s_apart_fault ["n", "rows"]) : FnOk P w K mg base CX0 2 d_apart_fault.f d_apart_fault.fd ["n", "rows"] (spApart K) := by
  have G_is_held : FnOk P w K mg base CX0 1 _ _ _ _ := ok_is_held B d_is_held
  refine d_apart_fault.F.ok sc_apart_fault (fun vs H Q E h => ?_) (fun cdv A outer s H vs Q E hr h => ?_)
  · obtain ⟨n, a, rs, rfl, _⟩ := h
    rfl
  obtain ⟨n, a, rs, rfl, hn, hR, hU, q⟩ := h
  have hv : (A.deeper (PyProof.Rows.envOfC "apart_fault" (defScope s_apart_fault) s.heap.objs.size d_apart_fault.f cdv)).units + 65 < cLine := by have := hr.un; omega
  refine ⟨_, (pss_cons (ps_for PassesOwn.never rfl (pi_range1 rfl B.range (pa_cons (pv 0) pa_nil)) (pg_name (i := 2) sc_apart_fault.nd rfl (Or.inr rfl))
      (pss_cons (ps_setLC (i := 3) ["k", "row", "v", "rows"] [none, none, some 2, some 1] sc_apart_fault.nd rfl rfl (by kernel_rfl) rfl (pi_enum (K := K) rfl rfl B.enumerate (pa_cons (pv 1) pa_nil)) (fun _ _ _ _ _ => (pg_tupK (K := K) (n := 2) rfl rfl (pgs_cons (pg_name (i := 0) (show (["k", "row", "v", "rows"] : List Str).Nodup by decide +kernel) rfl (Or.inl rfl)) (pgs_cons (pg_name (i := 1) (show (["k", "row", "v", "rows"] : List Str).Nodup by decide +kernel) rfl (Or.inl rfl)) pgs_nil)))) (fun _ _ _ _ _ => (pts_one (PW.pt (pw_and (pt_cmpR (op_inDK (K := K) rfl hv) (pv 2) (pe_ix (ix_tupK (K := K) rfl) (pv 1) pe_int (fun _ _ => rfl)) (by with_unfolding_all rfl)) (pw_and1 (pt_not (pt_truthK (K := K) rfl (pe_call G_is_held hr rfl d_is_held.m d_is_held.F.kp d_is_held.b .nil pass0 (pa_cons (pv 3) (pa_cons (pe_ix (ix_tupK (K := K) rfl) (pv 1) pe_int (fun _ _ => rfl)) (pa_cons (pv 2) pa_nil)))) (fun _ => rfl)))))))) (fun _ _ _ _ _ => (pv 0)) (by rfl))
      (pss_one (ps_if (pt_cmpR op_gt (pe_callB (call_lenK (K := K) rfl) rfl B.len (by decide +kernel) (pa_cons (pv 3) pa_nil)) pe_int (nomark _))
      (pss_one (ps_ret (pe_tupN (pa_cons pe_str (pa_cons (pv 2) (pa_cons (pe_ix (ix_listK (K := K) rfl) (pv 3) pe_int (fun _ _ => rfl)) (pa_cons (pe_ix (ix_listK (K := K) rfl) (pv 3) pe_int (fun _ _ => rfl)) pa_nil)))))))
      pss_nil))))
      (pss_one (ps_ret pe_non))), ?_⟩
  obtain ⟨xs, hx, hp, hz⟩ := id hR
  have hl : xs.length = rs.length := Paired.length hp
  refine ⟨_, rfl, _, rfl, by omega, by omega, ?_⟩
  have en : ((n : Nat) : Int).toNat = n := by omega
  rw [en]
  refine for_range (n := n) (fun i σ H2 => ∃ vv tt : Option V, σ = [some (.int n), some (.ref a), vv, tt] ∧ Same H H2 ∧ ∀ j < i, apartAt rs ((j : Nat) : Int) = none) ⟨none, none, rfl, Same.refl _, fun j hj => absurd hj (Nat.not_lt_zero _)⟩ ?_ ?_
  · rintro i σ H2 hi ⟨vv, tt, rfl, sm, ok⟩
    have ei : (0 + (i : Int)) = ((i : Nat) : Int) := by omega
    refine ⟨_, rfl, a, rfl, ⟨_, sm.seq hx⟩, ?_⟩
    refine lc_enum (fun j _ => if isTop rs ((i : Nat) : Int) j then some (.int j) else none) (sm.seq hx) (by omega) (fun j x H3 p H0 N hj s3 nw hN => ?_) (fun H3 p H4 s3 nw => ?_)
    · obtain ⟨r, hr1, ⟨pr, b, rfl, hT, hb, hbl⟩⟩ := paired_get hp hj
      have s4 : Same H H0 := sm.trans (s3.trans nw.same)
      have jl : j < rs.length := (List.getElem?_eq_some_iff.mp hr1).1
      have er := rowAt_get hr1
      have hN' := hN H0 (s3.trans nw.same)
      refine ⟨p, _, rfl, SqT.of nw.here, rfl, _, _, rfl, _, _, rfl, rfl, _, rfl, _, rfl, pr, _, _, _, rfl, rfl, s4.tupq hT, rfl, inInts (s4.seq hb) ⟨_, rfl, ?_⟩⟩
      rw [ei]
      cases c : decide (((i : Nat) : Int) ∈ r.2) with
      | false =>
        refine iteF (iteF ?_)
        have ez : isTop rs ((i : Nat) : Int) j = false := by unfold isTop has; rw [er, c]; rfl
        rw [ez] at hN'; exact hN'
      | true =>
        refine iteT ?_
        refine ⟨_, rfl, _, rfl, pr, _, _, _, rfl, rfl, s4.tupq hT, rfl, _, rfl, a, rs, r.1, _, rfl, hR.same s4, (fun u hu => hU j u (by rw [er]; exact hu) jl), _, rfl, ?_⟩
        have ez : isTop rs ((i : Nat) : Int) j = !heldF rs r.1 ((i : Nat) : Int) := by unfold isTop has; rw [er, c]; rfl
        rw [ez] at hN'
        cases c2 : heldF rs r.1 ((i : Nat) : Int) with
        | true => rw [c2] at hN'; exact iteF hN'
        | false => rw [c2] at hN'; exact iteT ⟨_, rfl, hN'⟩
    · have e1 : (List.range xs.length).filterMap (fun j => (xs[j]?).bind fun _ => if isTop rs ((i : Nat) : Int) j then some (V.int j) else none) = (topsF rs ((i : Nat) : Int)).map fun k => V.int (k : Nat) := by
        rw [← tops_fm, hl]
        refine fm_congr fun j hj => ?_
        have jl : j < xs.length := by rw [hl]; exact List.mem_range.mp hj
        rw [List.getElem?_eq_getElem jl]; rfl
      rw [e1] at nw
      have s4 := sm.trans (s3.trans nw.same)
      refine ⟨_, rfl, p, _, rfl, .inl (SqL.of nw.here), _, _, rfl, rfl, _, rfl, ?_⟩
      refine ite2 (fun c => ?_) (fun c => ?_)
      · have c' : (1 : Int) < (((topsF rs ((i : Nat) : Int)).map fun k => V.int (k : Nat)).length : Nat) := of_decide_eq_true c
        rw [List.length_map] at c'
        obtain ⟨j, k, rest, et⟩ : ∃ j k rest, topsF rs ((i : Nat) : Int) = j :: k :: rest := by
          match topsF rs ((i : Nat) : Int), c' with
          | [], c' => exact absurd c' (by simp)
          | [_], c' => exact absurd c' (by simp)
          | j :: k :: rest, _ => exact ⟨j, k, rest, rfl⟩
        rw [et] at nw
        refine ⟨_, rfl, _, rfl, p, _, _, _, rfl, rfl, SqL.of nw.here, (show atI _ (0 : Int) = _ from atI_nat (j := 0) rfl), _, rfl, p, _, _, _, rfl, rfl, SqL.of nw.here, (show atI _ (1 : Int) = _ from atI_nat (j := 1) rfl), (by show 4 ≤ 1000; decide), fun p5 H5 n5 => ?_⟩
        refine q _ H5 (s4.trans n5.same) ?_
        have ea : apartAt rs ((i : Nat) : Int) = some (j, k) := by unfold apartAt; rw [et]
        have ef : apartFaultF n rs = some (i, j, k) := findSome_range hi (by rw [ea]; rfl) fun m hm => by rw [ok m hm]; rfl
        rw [ef]
        refine ⟨p5, rfl, ?_⟩
        rw [n5.here, ei]
      · have c' : ¬ (1 : Int) < (((topsF rs ((i : Nat) : Int)).map fun k => V.int (k : Nat)).length : Nat) := of_decide_eq_false (Bool.eq_false_iff.mpr c)
        rw [List.length_map] at c'
        refine ⟨_, _, rfl, s4, fun m hm => ?_⟩
        by_cases hmi : m = i
        · subst hmi
          unfold apartAt
          match topsF rs ((m : Nat) : Int), c' with
          | [], _ => rfl
          | [_], _ => rfl
          | _ :: _ :: _, c' => exact absurd (show (1 : Int) < _ by simp only [List.length_cons]; omega) c'
        · exact ok m (by omega)
  · rintro σ H2 ⟨vv, tt, rfl, sm, ok⟩
    have ef : apartFaultF n rs = none := findSome_range_none fun m hm => by rw [ok m hm]; rfl
    exact q _ H2 sm (by rw [ef]; rfl)
set_option maxHeartbeats 4000000 in
theorem ok_fault (B : Bl mg) (d_is_whole : Dn K mg "is_whole" s_is_whole ["thing"]) (d_is_below : Dn K mg "is_below" s_is_below ["n", "thing"]) (d_is_set : Dn K mg "is_set" s_is_set ["n", "places"]) (d_is_up : Dn K mg "is_up" s_is_up ["k", "up"]) (d_row_fault : Dn K mg "row_fault" s_row_fault ["n", "rows"]) (d_place_fault : Dn K mg "place_fault" s_place_fault ["n", "rows"]) (d_tie_fault : Dn K mg "tie_fault" s_tie_fault ["ties", "rows"]) (d_is_held : Dn K mg "is_held" s_is_held ["rows", "up", "v"]) (d_apart_fault : Dn K mg "apart_fault" s_apart_fault ["n", "rows"]) (d_fault : Dn K mg "fault" s_fault ["graph", "rows"]) : FnOk P w K mg base CX0 5 d_fault.f d_fault.fd ["graph", "rows"] (spFault K) := by
  have G_row_fault : FnOk P w K mg base CX0 4 _ _ _ _ := ok_row_fault B d_is_whole d_is_below d_is_set d_is_up d_row_fault
  have G_place_fault : FnOk P w K mg base CX0 4 _ _ _ _ := (ok_place_fault B d_place_fault).mono (by decide)
  have G_tie_fault : FnOk P w K mg base CX0 4 _ _ _ _ := (ok_tie_fault B d_tie_fault).mono (by decide)
  have G_apart_fault : FnOk P w K mg base CX0 4 _ _ _ _ := (ok_apart_fault B d_is_held d_apart_fault).mono (by decide)
  refine d_fault.F.ok sc_fault (fun vs H Q E h => ?_) (fun cdv A outer s H vs Q E hr h => ?_)
  · obtain ⟨g, n, ts, a, rs, rfl, _⟩ := h
    rfl
  obtain ⟨g, n, ts, a, rs, rfl, hn, hG, hR, q⟩ := h
  refine ⟨_, (pss_cons (ps_set (i := 2) sc_fault.nd rfl (Or.inl rfl) (pe_call G_row_fault hr rfl d_row_fault.m d_row_fault.F.kp d_row_fault.b .nil pass0 (pa_cons (pe_ix (ix_tupK (K := K) rfl) (pv 0) pe_int (fun _ _ => rfl)) (pa_cons (pv 1) pa_nil))))
      (pss_cut (ps_if (pt_cmpR op_isN (pv 2) pe_non (nomark _))
      (pss_one (ps_set (i := 2) sc_fault.nd rfl (Or.inl rfl) (pe_call G_place_fault hr rfl d_place_fault.m d_place_fault.F.kp d_place_fault.b .nil pass0 (pa_cons (pe_ix (ix_tupK (K := K) rfl) (pv 0) pe_int (fun _ _ => rfl)) (pa_cons (pv 1) pa_nil)))))
      pss_nil)
      (pss_cut (ps_if (pt_cmpR op_isN (pv 2) pe_non (nomark _))
      (pss_one (ps_set (i := 2) sc_fault.nd rfl (Or.inl rfl) (pe_call G_tie_fault hr rfl d_tie_fault.m d_tie_fault.F.kp d_tie_fault.b .nil pass0 (pa_cons (pe_ix (ix_tupK (K := K) rfl) (pv 0) pe_int (fun _ _ => rfl)) (pa_cons (pv 1) pa_nil)))))
      pss_nil)
      (pss_cut (ps_if (pt_cmpR op_isN (pv 2) pe_non (nomark _))
      (pss_one (ps_set (i := 2) sc_fault.nd rfl (Or.inl rfl) (pe_call G_apart_fault hr rfl d_apart_fault.m d_apart_fault.F.kp d_apart_fault.b .nil pass0 (pa_cons (pe_ix (ix_tupK (K := K) rfl) (pv 0) pe_int (fun _ _ => rfl)) (pa_cons (pv 1) pa_nil)))))
      pss_nil)
      (pss_one (ps_ret (pv 2))))))), ?_⟩
  obtain ⟨pg, tl, rfl, hT, hTs⟩ := id hG
  refine ⟨_, rfl, pg, _, _, _, rfl, rfl, hT, rfl, _, rfl, n, a, rs, rfl, hR, fun v1 H1 s1 f1 => ?_⟩
  refine ⟨fun σ' H' => ∃ v, σ' = [some (.ref pg), some (.ref a), some v] ∧ Same H H' ∧ FltV H' v (match rowFaultF n rs with | some k => .row k | none => (match placeFaultF n rs with | some v => .place v | none => .ok)), ?_, ?_⟩
  · refine ⟨_, rfl, rfl, _, rfl, ?_⟩
    cases c : rowFaultF n rs with
    | some k =>
      rw [c] at f1
      obtain ⟨p, rfl, e⟩ := id f1
      exact iteF ⟨_, rfl, s1, f1⟩
    | none =>
      rw [c] at f1
      cases (show v1 = V.non from f1)
      refine iteT ?_
      refine ⟨_, rfl, pg, _, _, _, rfl, rfl, s1.tupq hT, rfl, _, rfl, n, a, rs, rfl, hn, hR.same s1, fun v2 H2 s2 f2 => ?_⟩
      exact ⟨v2, rfl, s1.trans s2, f2⟩
  rintro σ2 H2 ⟨v2, rfl, s2, f2⟩
  refine ⟨fun σ' H' => ∃ v, σ' = [some (.ref pg), some (.ref a), some v] ∧ Same H H' ∧ FltV H' v (match rowFaultF n rs with | some k => .row k | none => (match placeFaultF n rs with | some v => .place v | none => (match tieFaultF ts rs with | some t => .tie t.1 t.2 | none => .ok))), ?_, ?_⟩
  · refine ⟨_, rfl, rfl, _, rfl, ?_⟩
    cases c : rowFaultF n rs with
    | some k =>
      rw [c] at f2
      obtain ⟨p, rfl, e⟩ := id f2
      exact iteF ⟨_, rfl, s2, f2⟩
    | none =>
      rw [c] at f2
      cases c2 : placeFaultF n rs with
      | some k =>
        rw [c2] at f2
        obtain ⟨p, rfl, e⟩ := id f2
        exact iteF ⟨_, rfl, s2, f2⟩
      | none =>
        rw [c2] at f2
        cases (show v2 = V.non from f2)
        refine iteT ?_
        refine ⟨_, rfl, pg, _, _, _, rfl, rfl, s2.tupq hT, rfl, _, rfl, tl, a, ts, rs, rfl, hTs.same s2, hR.same s2, fun v3 H3 s3 f3 => ?_⟩
        exact ⟨v3, rfl, s2.trans s3, f3⟩
  rintro σ3 H3 ⟨v3, rfl, s3, f3⟩
  refine ⟨fun σ' H' => ∃ v, σ' = [some (.ref pg), some (.ref a), some v] ∧ Same H H' ∧ FltV H' v (faultF n ts rs), ?_, ?_⟩
  · refine ⟨_, rfl, rfl, _, rfl, ?_⟩
    unfold faultF
    cases c : rowFaultF n rs with
    | some k =>
      rw [c] at f3
      obtain ⟨p, rfl, e⟩ := id f3
      exact iteF ⟨_, rfl, s3, f3⟩
    | none =>
      rw [c] at f3
      cases c2 : placeFaultF n rs with
      | some k =>
        rw [c2] at f3
        obtain ⟨p, rfl, e⟩ := id f3
        exact iteF ⟨_, rfl, s3, f3⟩
      | none =>
        rw [c2] at f3
        cases c3 : tieFaultF ts rs with
        | some k =>
          rw [c3] at f3
          obtain ⟨p, rfl, e⟩ := id f3
          exact iteF ⟨_, rfl, s3, f3⟩
        | none =>
          rw [c3] at f3
          cases (show v3 = V.non from f3)
          refine iteT ?_
          refine ⟨_, rfl, pg, _, _, _, rfl, rfl, s3.tupq hT, rfl, _, rfl, n, a, rs, rfl, hn, hR.same s3, ups_of c, fun v4 H4 s4 f4 => ?_⟩
          exact ⟨v4, rfl, s3.trans s4, f4⟩
  rintro σ4 H4 ⟨v4, rfl, s4, f4⟩
  exact ⟨_, rfl, q v4 H4 s4 f4⟩
end

def lessF (xs ys : List Int) : List Int := xs.filter fun v => !decide (v ∈ ys)

abbrev s_less : Stmt := top 23
theorem sc_less : FnScope ["one", "other"] ["one", "other"] (defScope s_less) := ⟨rfl, rfl, rfl, by decide +kernel, rfl, by decide +kernel, by decide +kernel⟩
section
variable {P : Program} {w : World} {K : PySem.W.Frag} {mg : Str → Option Value} {base : Heap}
end

/-- a step -/
inductive Stp where
  | leaf
  | inn (v : Int)
  | tie (a b : Int)
  | out (v : Int)
  | join
deriving DecidableEq
def Stp.vs : Stp → List V
  | .leaf => [.str "leaf"]
  | .inn v => [.str "in", .int v]
  | .tie a b => [.str "tie", .int a, .int b]
  | .out v => [.str "out", .int v]
  | .join => [.str "join"]
def Stp.d : Stp → PyData
  | .leaf => .tuple [.str "leaf"]
  | .inn v => .tuple [.str "in", .int v]
  | .tie a b => .tuple [.str "tie", .int a, .int b]
  | .out v => .tuple [.str "out", .int v]
  | .join => .tuple [.str "join"]
def Stp.word : Stp → Str
  | .leaf => "leaf"
  | .inn _ => "in"
  | .tie _ _ => "tie"
  | .out _ => "out"
  | .join => "join"
def Stp.need : Stp → Nat
  | .leaf => 0
  | .join => 2
  | _ => 1
def StpV (K : PySem.W.Frag) (H : Hp) (v : V) (s : Stp) : Prop := ∃ p, v = .ref p ∧ SqT K H p s.vs
theorem StpV.same {K : PySem.W.Frag} {H H' : Hp} {v : V} {s : Stp} (e : Same H H') (h : StpV K H v s) : StpV K H' v s := by
  obtain ⟨p, rfl, h⟩ := h
  exact ⟨p, rfl, e.tupq h⟩
theorem StpV.isD {K : PySem.W.Frag} {H : Hp} {v : V} {s : Stp} (h : StpV K H v s) : IsD K H v s.d := by
  obtain ⟨p, rfl, h⟩ := h
  cases s with
  | leaf => exact .tup h (.cons (.str _) .nil)
  | inn v => exact .tup h (.cons (.str _) (.cons (.int _) .nil))
  | tie a b => exact .tup h (.cons (.str _) (.cons (.int _) (.cons (.int _) .nil)))
  | out v => exact .tup h (.cons (.str _) (.cons (.int _) .nil))
  | join => exact .tup h (.cons (.str _) .nil)
theorem used_leaf : valV usedF (.inr "leaf") = some (.int 0) := by decide +kernel
theorem used_in : valV usedF (.inr "in") = some (.int 1) := by decide +kernel
theorem used_tie : valV usedF (.inr "tie") = some (.int 1) := by decide +kernel
theorem used_out : valV usedF (.inr "out") = some (.int 1) := by decide +kernel
theorem used_join : valV usedF (.inr "join") = some (.int 2) := by decide +kernel
theorem used_at (s : Stp) : valV usedF (.inr s.word) = some (.int (s.need : Int)) := by
  cases s with
  | leaf => exact used_leaf
  | inn v => exact used_in
  | tie a b => exact used_tie
  | out v => exact used_out
  | join => exact used_join
theorem word_at (s : Stp) : atI s.vs ((0 : Nat) : Int) = some (.str s.word) := by cases s <;> rfl
theorem str_ok : ∀ x ∈ ["leaf", "in", "tie", "out", "join"], PyData.strOk (Str.ofString x) = true := by decide +kernel
theorem stp_can (s : Stp) : s.d.canLay0 = true := by
  have h := str_ok
  cases s with
  | leaf => simp [Stp.d, PyData.canLay0, PyData.canLayAll0, h]
  | inn v => simp [Stp.d, PyData.canLay0, PyData.canLayAll0, h]
  | tie a b => simp [Stp.d, PyData.canLay0, PyData.canLayAll0, h]
  | out v => simp [Stp.d, PyData.canLay0, PyData.canLayAll0, h]
  | join => simp [Stp.d, PyData.canLay0, PyData.canLayAll0, h]
theorem stp_depth (s : Stp) : s.d.depth ≤ 1 := by cases s <;> simp [Stp.d, PyData.depth, PyData.depthAll]
theorem shaped_stp (s : Stp) : SeqAt.shaped s.d = true := by
  unfold SeqAt.shaped
  rw [stp_can, Bool.true_and]
  exact decide_eq_true (by have := stp_depth s; omega)
theorem shaped_stps (ss : List Stp) : SeqAt.shaped (.list (ss.map Stp.d)) = true := by
  unfold SeqAt.shaped
  rw [PyData.canLay0, can_all stp_can, PyData.depth, Bool.true_and]
  exact decide_eq_true (by have := depth_all stp_depth ss; omega)
def Stp.tag : Stp → Nat
  | .leaf => 0
  | .inn _ => 1
  | .tie _ _ => 2
  | .out _ => 3
  | .join => 4
def Stp.args : Stp → List Int
  | .leaf => []
  | .inn v => [v]
  | .tie a b => [a, b]
  | .out v => [v]
  | .join => []
def wordT (i : Nat) : Str := Str.ofString (["leaf", "in", "tie", "out", "join"].getD i "")
theorem wordT_eq : ∀ i, i < 5 → ∀ j, j < 5 → (wordT i == wordT j) = decide (i = j) := by decide +kernel
theorem word_tag (s : Stp) : s.word = wordT s.tag := by cases s <;> rfl
theorem tag_lt (s : Stp) : s.tag < 5 := by cases s <;> simp [Stp.tag]
theorem stp_d (s : Stp) : s.d = .tuple (.str s.word :: s.args.map PyData.int) := by cases s <;> rfl
theorem stp_eq {s t : Stp} (h : s.tag = t.tag) (a : s.args = t.args) : s = t := by
  cases s <;> cases t <;> simp_all [Stp.tag, Stp.args]
theorem eqvAll_ints : ∀ xs ys : List Int, PyData.eqvAll (xs.map PyData.int) (ys.map PyData.int) = decide (xs = ys)
  | [], [] => by simp [PyData.eqvAll]
  | [], _ :: _ => by simp [PyData.eqvAll]
  | _ :: _, [] => by simp [PyData.eqvAll]
  | x :: xs, y :: ys => by
    rw [List.map_cons, List.map_cons, PyData.eqvAll, eqvAll_ints xs ys, PyData.eqv, Bool.eq_iff_iff]
    simp
theorem eqv_stp (s t : Stp) : PyData.eqv s.d t.d = decide (s = t) := by
  rw [stp_d, stp_d, PyData.eqv, PyData.eqvAll, eqvAll_ints, PyData.eqv, word_tag, word_tag, wordT_eq _ (tag_lt s) _ (tag_lt t), Bool.eq_iff_iff, Bool.and_eq_true, decide_eq_true_iff, decide_eq_true_iff, decide_eq_true_iff]
  exact ⟨fun h => stp_eq h.1 h.2, fun h => by rw [h]; exact ⟨rfl, rfl⟩⟩
theorem any_stp (ss : List Stp) (t : Stp) : (ss.map Stp.d).any (fun e => PyData.eqv e t.d) = decide (t ∈ ss) := by
  rw [List.any_map, Bool.eq_iff_iff, List.any_eq_true, decide_eq_true_iff]
  constructor
  · rintro ⟨x, hx, e⟩
    have : PyData.eqv x.d t.d = true := e
    rw [eqv_stp] at this
    exact of_decide_eq_true this ▸ hx
  · exact fun h => ⟨t, h, by show PyData.eqv t.d t.d = true; rw [eqv_stp]; exact decide_eq_true rfl⟩

end K


namespace K
open PySem L2 Lw Bg
abbrev natV (l : List Nat) : List V := l.map fun (x : Nat) => V.int (x : Int)





/-! rows put together with the one they hang on, where one bag lies within the other -/

section
variable {P : Program} {w : World} {K : PySem.W.Frag} {mg : Str → Option Value} {base : Heap}
end

end K


namespace K
open PySem L2 Lw Bg
abbrev s_joint : Stmt := top 22
theorem sc_joint : FnScope ["one", "other"] ["one", "other"] (defScope s_joint) := ⟨rfl, rfl, rfl, by decide +kernel, rfl, by decide +kernel, by decide +kernel⟩
theorem upF_congr {p q : Int → Bool} (h : ∀ v, 0 ≤ v → v < 16 → p v = q v) : upF p = upF q := by
  unfold upF
  refine List.filter_congr fun v hv => ?_
  obtain ⟨i, hi, rfl⟩ := List.mem_map.mp hv
  have := List.mem_range.mp hi
  exact h _ (by omega) (by omega)
def jointF (xs ys : List Int) : List Int := upF fun v => decide (v ∈ xs ∨ v ∈ ys)
def spJoint (K : PySem.W.Frag) : Sp := fun vs H Q _ => ∃ (a b : Addr) (xs ys : List Int), vs = [.ref a, .ref b] ∧ SqL K H a (xs.map V.int) ∧ SqL K H b (ys.map V.int) ∧ Small xs ∧ Small ys ∧
  ∀ H0 p H', Same H H0 → New H0 p (.lst ((jointF xs ys).map V.int)) H' → Q (.ref p) H'
section
variable {P : Program} {w : World} {K : PySem.W.Frag} {mg : Str → Option Value} {base : Heap}
set_option maxHeartbeats 4000000 in
theorem ok_joint (B : Bl mg) (d_joint : Dn K mg "joint" s_joint ["one", "other"]) : FnOk P w K mg base CX0 1 d_joint.f d_joint.fd ["one", "other"] (spJoint K) := by
  refine d_joint.F.ok sc_joint (fun vs H Q E h => ?_) (fun cdv A outer s H vs Q E hr h => ?_)
  · obtain ⟨a, b, xs, ys, rfl, _⟩ := h
    rfl
  obtain ⟨a, b, xs, ys, rfl, hA, hB, sA, sB, q⟩ := h
  refine ⟨_, (pss_one (ps_ret (pe_callB (call_sortedS (w := w) rfl rfl) rfl B.sorted (by decide +kernel) (pa_cons (pe_op (op_orS (w := w) rfl) (pe_callTy (call_setS (K := K) (w := w) rfl rfl rfl) rfl B.set (by decide +kernel) (pa_cons (pv 0) pa_nil)) (pe_callTy (call_setS (K := K) (w := w) rfl rfl rfl) rfl B.set (by decide +kernel) (pa_cons (pv 1) pa_nil))) pa_nil)))), ?_⟩
  refine ⟨_, rfl, a, xs, rfl, hA, sA, fun p1 L1 H1 n1 m1 => ?_⟩
  refine ⟨_, rfl, b, ys, rfl, n1.same.seq hB, sB, fun p2 L2 H2 n2 m2 => ?_⟩
  refine ⟨p1, p2, L1, L2, rfl, rfl, n2.ne n1.here, n2.same _ _ n1.here, n2.here, fun p3 L H3 n3 m3 => ?_⟩
  refine ⟨p3, false, L, rfl, n3.here, fun p4 H4 n4 => ?_⟩
  have e : (upF fun v => decide (v.toNat ∈ L)) = jointF xs ys := upF_congr fun v h0 h1 => by
    have ev : ((v.toNat : Nat) : Int) = v := by omega
    rw [decide_eq_decide, m3 v.toNat, m1 v.toNat, m2 v.toNat, ev]
  rw [e] at n4
  exact q H3 p4 H4 (n1.same.trans (n2.same.trans n3.same)) n4
end

end K


namespace K
open PySem L2 Lw Bg
def spLessT (K : PySem.W.Frag) : Sp := fun vs H Q _ => ∃ (a b : Addr) (xs ys : List Int), vs = [.ref a, .ref b] ∧ SqT K H a (xs.map V.int) ∧ SqL K H b (ys.map V.int) ∧ xs.length ≤ 1000 ∧
  ∀ H0 p H', Same H H0 → New H0 p (.lst ((lessF xs ys).map V.int)) H' → Q (.ref p) H'
section
variable {P : Program} {w : World} {K : PySem.W.Frag} {mg : Str → Option Value} {base : Heap}
set_option maxHeartbeats 4000000 in
theorem ok_lessT (B : Bl mg) (d_less : Dn K mg "less" s_less ["one", "other"]) : FnOk P w K mg base CX0 1 d_less.f d_less.fd ["one", "other"] (spLessT K) := by
  refine d_less.F.ok sc_less (fun vs H Q E h => ?_) (fun cdv A outer s H vs Q E hr h => ?_)
  · obtain ⟨a, b, xs, ys, rfl, _⟩ := h
    rfl
  obtain ⟨a, b, xs, ys, rfl, hA, hB, hz, q⟩ := h
  have hv : (A.deeper (PyProof.Rows.envOfC "less" (defScope s_less) s.heap.objs.size d_less.f cdv)).units + 65 < cLine := by have := hr.un; omega
  refine ⟨_, (pss_one (ps_ret (pe_lc ["v", "other"] [none, some 1]  (by kernel_rfl) rfl (pi_tupK (K := K) rfl (pv 0)) (fun _ _ _ _ _ => (pg_name (i := 0) (show (["v", "other"] : List Str).Nodup by decide +kernel) rfl (Or.inl rfl))) (fun _ _ _ _ _ => (pts_one (pt_cmpR (op_notInDK (K := K) rfl hv) (pv 0) (pv 1) (by with_unfolding_all rfl)))) (fun _ _ _ _ _ => (pv 0))))), ?_⟩
  refine ⟨_, rfl, a, rfl, ⟨_, hA⟩, ?_⟩
  refine lc_fmTN (fun x => match x with | .int v => if !decide (v ∈ ys) then some (.int v) else none | _ => none) hA (by rw [List.length_map]; exact hz) (fun x H1 N hx sm hN => ?_) (fun H1 p H1' sm hp => ?_)
  · obtain ⟨v, hv, rfl⟩ := List.mem_map.mp hx
    have hN' := hN H1 sm
    refine ⟨_, rfl, _, rfl, notInInts (sm.seq hB) ⟨_, rfl, ?_⟩⟩
    dsimp only at hN'
    cases c : decide (v ∈ ys) with
    | true => rw [c] at hN'; exact iteF hN'
    | false => rw [c] at hN'; exact iteT ⟨_, rfl, hN'⟩
  · have e : (xs.map V.int).filterMap (fun x => match x with | .int v => if !decide (v ∈ ys) then some (V.int v) else none | _ => none) = (lessF xs ys).map V.int := fm_filter fun v _ => rfl
    rw [e] at hp
    exact q _ _ _ sm hp
end

end K


namespace K
open PySem L2 Lw Bg
def spLessO (K : PySem.W.Frag) : Sp := fun vs H Q _ => ∃ (a b : Addr) (xs ys : List Int), vs = [.ref a, .ref b] ∧ SqL K H a (xs.map V.int) ∧ SqT K H b (ys.map V.int) ∧ xs.length ≤ 1000 ∧
  ∀ H0 p H', Same H H0 → New H0 p (.lst ((lessF xs ys).map V.int)) H' → Q (.ref p) H'
theorem inV_ints (v : Int) : ∀ ys : List Int, inV (.int v) (ys.map V.int) = decide (v ∈ ys)
  | [] => rfl
  | y :: r => by
    have ih := inV_ints v r
    unfold inV at ih ⊢
    rw [List.map_cons, List.any_cons, ih, Bool.eq_iff_iff, Bool.or_eq_true, decide_eq_true_iff, decide_eq_true_iff, List.mem_cons]
    have : eqV (V.int y) (V.int v) = decide (y = v) := rfl
    rw [this, decide_eq_true_iff]
    exact or_congr_left eq_comm
theorem flat_ints (ys : List Int) : (ys.map V.int).all flatV = true := List.all_eq_true.mpr fun x hx => by
  obtain ⟨y, _, rfl⟩ := List.mem_map.mp hx
  rfl
section
variable {P : Program} {w : World} {K : PySem.W.Frag} {mg : Str → Option Value} {base : Heap}
set_option maxHeartbeats 4000000 in
theorem ok_lessO (B : Bl mg) (d_less : Dn K mg "less" s_less ["one", "other"]) : FnOk P w K mg base CX0 1 d_less.f d_less.fd ["one", "other"] (spLessO K) := by
  refine d_less.F.ok sc_less (fun vs H Q E h => ?_) (fun cdv A outer s H vs Q E hr h => ?_)
  · obtain ⟨a, b, xs, ys, rfl, _⟩ := h
    rfl
  obtain ⟨a, b, xs, ys, rfl, hA, hB, hz, q⟩ := h
  refine ⟨_, (pss_one (ps_ret (pe_lc ["v", "other"] [none, some 1]  (by kernel_rfl) rfl (pi_listK (K := K) rfl (pv 0)) (fun _ _ _ _ _ => (pg_name (i := 0) (show (["v", "other"] : List Str).Nodup by decide +kernel) rfl (Or.inl rfl))) (fun _ _ _ _ _ => (pts_one (pt_cmpR (op_notInSK (K := K) rfl) (pv 0) (pv 1) (by with_unfolding_all rfl)))) (fun _ _ _ _ _ => (pv 0))))), ?_⟩
  refine ⟨_, rfl, a, rfl, ⟨_, hA⟩, ?_⟩
  refine lc_fmN (fun x => match x with | .int v => if !decide (v ∈ ys) then some (.int v) else none | _ => none) hA (by rw [List.length_map]; exact hz) (fun x H1 N hx sm hN => ?_) (fun H1 p H1' sm hp => ?_)
  · obtain ⟨v, hv, rfl⟩ := List.mem_map.mp hx
    have hN' := hN H1 sm
    refine ⟨_, rfl, _, rfl, b, _, rfl, .inr (sm.tupq hB), rfl, flat_ints _, _, rfl, ?_⟩
    rw [if_pos rfl, inV_ints]
    dsimp only at hN'
    cases c : decide (v ∈ ys) with
    | true => rw [c] at hN'; exact iteF hN'
    | false => rw [c] at hN'; exact iteT ⟨_, rfl, hN'⟩
  · have e : (xs.map V.int).filterMap (fun x => match x with | .int v => if !decide (v ∈ ys) then some (V.int v) else none | _ => none) = (lessF xs ys).map V.int := fm_filter fun v _ => rfl
    rw [e] at hp
    exact q _ _ _ sm hp
end

end K


namespace K
open PySem L2 Lw Bg
theorem FnOk.either {P : Program} {w : World} {K : PySem.W.Frag} {mg : Str → Option Value} {base : Heap} {CX : CXT} {k : Nat} {f : Addr} {fd : FuncData} {ps : List Str} {sp sp' : Sp} (F : FnOk P w K mg base CX k f fd ps sp) (G : FnOk P w K mg base CX k f fd ps sp') : FnOk P w K mg base CX k f fd ps (fun vs H Q E => sp vs H Q E ∨ sp' vs H Q E) :=
  ⟨fun vs H Q E h => h.elim (F.len vs H Q E) (G.len vs H Q E), fun A outer s H args us vs Q E hr he hb hv hs => hs.elim (F.run A outer s H args us vs Q E hr he hb hv) (G.run A outer s H args us vs Q E hr he hb hv)⟩

theorem eqv_tie (s t : Int × Int) : PyData.eqv (tieD s) (tieD t) = decide (s = t) := by
  unfold tieD
  rw [PyData.eqv]
  have e := PySem.W.ked_eqvAll [s.1, s.2] [t.1, t.2]
  have e' : PyData.eqvAll [.int s.1, .int s.2] [.int t.1, .int t.2] = decide ([s.1, s.2] = [t.1, t.2]) := e
  rw [e']
  obtain ⟨a, b⟩ := s
  obtain ⟨c, d⟩ := t
  simp
theorem any_tie (ts : List (Int × Int)) (t : Int × Int) : (ts.map tieD).any (fun e => PyData.eqv e (tieD t)) = decide (t ∈ ts) := by
  rw [List.any_map]
  rw [Bool.eq_iff_iff, List.any_eq_true, decide_eq_true_iff]
  constructor
  · rintro ⟨s, hs, e⟩
    have : PyData.eqv (tieD s) (tieD t) = true := e
    rw [eqv_tie] at this
    rw [← of_decide_eq_true this]; exact hs
  · intro h
    exact ⟨t, h, by show PyData.eqv (tieD t) (tieD t) = true; rw [eqv_tie]; simp⟩
theorem shaped_tie (t : Int × Int) : SeqAt.shaped (tieD t) = true := by
  unfold SeqAt.shaped
  rw [can_tie, Bool.true_and]
  exact decide_eq_true (by have := depth_tie t; omega)

abbrev s_bag_behind : Stmt := top 57
theorem sc_bag_behind : FnScope ["graph", "done", "step", "used", "kind", "bag", "v"] ["graph", "done", "step", "used"] (defScope s_bag_behind) := ⟨rfl, rfl, rfl, by decide +kernel, rfl, by decide +kernel, by decide +kernel⟩
def bagF (n : Nat) (ts : List (Int × Int)) (done : List Stp) (s : Stp) (used : List (List Int)) : Option (List Int) :=
  match s with
  | .leaf => some []
  | .inn v => if (0 ≤ v ∧ v < (n : Int)) ∧ v ∉ used.getD 0 [] ∧ Stp.out v ∉ done then some (jointF (used.getD 0 []) [v]) else none
  | .tie a b => if (a, b) ∈ ts ∧ lessF [a, b] (used.getD 0 []) = [] ∧ Stp.tie a b ∉ done then some (used.getD 0 []) else none
  | .out v => if v ∈ used.getD 0 [] ∧ Stp.out v ∉ done then some (lessF (used.getD 0 []) [v]) else none
  | .join => if used.getD 0 [] = used.getD 1 [] then some (used.getD 0 []) else none
def BagN (K : PySem.W.Frag) (H : Hp) (ux : List V) (H' : Hp) (v : V) : Option (List Int) → Prop
  | none => v = .non
  | some b => ∃ p, v = .ref p ∧ SqL K H' p (b.map V.int) ∧ (H p = none ∨ V.ref p ∈ ux)
theorem atI_mem {ux : List V} {k : Nat} {v : V} (h : atI ux (k : Int) = some v) : v ∈ ux := by
  obtain ⟨j, _, e, _⟩ := atI_get h
  exact List.mem_of_getElem? e
def spBagB (K : PySem.W.Frag) : Sp := fun vs H Q _ => ∃ (g : V) (n : Nat) (ts : List (Int × Int)) (dn st us : Addr) (ds ux : List V) (done : List Stp) (s : Stp) (used : List (List Int)), vs = [g, .ref dn, .ref st, .ref us] ∧ GraphV K H g n ts ∧ n ≤ 10 ∧ SqL K H dn ds ∧ Paired (StpV K H) ds done ∧ SqT K H st s.vs ∧ SqL K H us ux ∧ Paired (LstV K H) ux used ∧ s.need ≤ used.length ∧ (∀ b ∈ used, Small b ∧ b.length ≤ 1000) ∧
  ∀ r H', Same H H' → BagN K H ux H' r (bagF n ts done s used) → Q r H'
theorem ne_word {i j : Nat} (hi : i < 5) (hj : j < 5) (h : i ≠ j) : decide (V.str (wordT i) = V.str (wordT j)) = false := decide_eq_false fun e => by
  have e' : wordT i = wordT j := by injection e
  have := wordT_eq i hi j hj
  rw [e', beq_self_eq_true, decide_eq_false h] at this
  cases this
theorem w10 : decide (V.str (Str.ofString "in") = V.str (Str.ofString "leaf")) = false := ne_word (i := 1) (j := 0) (by decide) (by decide) (by decide)
theorem w20 : decide (V.str (Str.ofString "tie") = V.str (Str.ofString "leaf")) = false := ne_word (i := 2) (j := 0) (by decide) (by decide) (by decide)
theorem w21 : decide (V.str (Str.ofString "tie") = V.str (Str.ofString "in")) = false := ne_word (i := 2) (j := 1) (by decide) (by decide) (by decide)
theorem w30 : decide (V.str (Str.ofString "out") = V.str (Str.ofString "leaf")) = false := ne_word (i := 3) (j := 0) (by decide) (by decide) (by decide)
theorem w31 : decide (V.str (Str.ofString "out") = V.str (Str.ofString "in")) = false := ne_word (i := 3) (j := 1) (by decide) (by decide) (by decide)
theorem w32 : decide (V.str (Str.ofString "out") = V.str (Str.ofString "tie")) = false := ne_word (i := 3) (j := 2) (by decide) (by decide) (by decide)
theorem w40 : decide (V.str (Str.ofString "join") = V.str (Str.ofString "leaf")) = false := ne_word (i := 4) (j := 0) (by decide) (by decide) (by decide)
theorem w41 : decide (V.str (Str.ofString "join") = V.str (Str.ofString "in")) = false := ne_word (i := 4) (j := 1) (by decide) (by decide) (by decide)
theorem w42 : decide (V.str (Str.ofString "join") = V.str (Str.ofString "tie")) = false := ne_word (i := 4) (j := 2) (by decide) (by decide) (by decide)
theorem w43 : decide (V.str (Str.ofString "join") = V.str (Str.ofString "out")) = false := ne_word (i := 4) (j := 3) (by decide) (by decide) (by decide)
theorem used0 {K : PySem.W.Frag} {H : Hp} {ux : List V} {used : List (List Int)} {k : Nat} (p : Paired (LstV K H) ux used) (h : k < used.length) : ∃ b, atI ux (k : Int) = some (.ref b) ∧ SqL K H b ((used.getD k []).map V.int) ∧ used.getD k [] ∈ used := by
  obtain ⟨x, hx, ⟨b, rfl, hb⟩⟩ := paired_getr p (List.getElem?_eq_getElem h)
  refine ⟨b, atI_nat hx, ?_, ?_⟩
  · rw [List.getD_eq_getElem?_getD, List.getElem?_eq_getElem h]; exact hb
  · rw [List.getD_eq_getElem?_getD, List.getElem?_eq_getElem h]; exact List.getElem_mem h
theorem notInStp {K : PySem.W.Frag} {H : Hp} {dn st : Addr} {ds : List V} {done : List Stp} {s : Stp} {Q : VK} (hD : SqL K H dn ds) (pD : Paired (StpV K H) ds done) (hS : SqT K H st s.vs) (q : Q (.bl (!decide (s ∈ done))) H) : rInD K true (.ref st) (.ref dn) H Q := by
  refine ⟨s.d, done.map Stp.d, StpV.isD ⟨st, rfl, hS⟩, .lst hD (isDs_of (fun _ _ h => StpV.isD h) pD), shaped_stp _, shaped_stps _, ?_⟩
  rw [if_pos rfl, any_stp]
  exact q
section
variable {P : Program} {w : World} {K : PySem.W.Frag} {mg : Str → Option Value} {base : Heap}
set_option maxHeartbeats 8000000 in
theorem ok_bag_behind (B : Bl mg) (d_is_whole : Dn K mg "is_whole" s_is_whole ["thing"]) (d_is_below : Dn K mg "is_below" s_is_below ["n", "thing"]) (d_joint : Dn K mg "joint" s_joint ["one", "other"]) (d_less : Dn K mg "less" s_less ["one", "other"]) (d_bag_behind : Dn K mg "bag_behind" s_bag_behind ["graph", "done", "step", "used"]) : FnOk P w K mg base CX0 3 d_bag_behind.f d_bag_behind.fd ["graph", "done", "step", "used"] (spBagB K) := by
  have G_is_below : FnOk P w K mg base CX0 2 _ _ _ _ := ok_is_below B d_is_whole d_is_below
  have G_joint : FnOk P w K mg base CX0 2 _ _ _ _ := (ok_joint B d_joint).mono (by decide)
  have G_less : FnOk P w K mg base CX0 2 _ _ _ _ := (FnOk.either (ok_lessT B d_less) (ok_lessO B d_less)).mono (by decide)
  refine d_bag_behind.F.ok sc_bag_behind (fun vs H Q E h => ?_) (fun cdv A outer s H vs Q E hr h => ?_)
  · obtain ⟨g, n, ts, dn, st, us, ds, ux, done, s, used, rfl, _⟩ := h
    rfl
  obtain ⟨g, n, ts, dn, st, us, ds, ux, done, sp, used, rfl, hG, n10, hD, pD, hS, hU, pU, nu, sm, q⟩ := h
  have hu : (A.deeper (PyProof.Rows.envOfC "bag_behind" (defScope s_bag_behind) s.heap.objs.size d_bag_behind.f cdv)).units + 64 < cLine := by have := hr.un; omega
  have hv : (A.deeper (PyProof.Rows.envOfC "bag_behind" (defScope s_bag_behind) s.heap.objs.size d_bag_behind.f cdv)).units + 65 < cLine := by have := hr.un; omega
  obtain ⟨pg, ta, rfl, hP, hT⟩ := id hG
  refine ⟨_, (pss_cons (ps_set (i := 4) sc_bag_behind.nd rfl (Or.inl rfl) (pe_ix (ix_tupK (K := K) rfl) (pv 2) pe_int (fun _ _ => rfl)))
      (pss_cons (ps_if (pt_cmpR op_eq (pv 4) pe_str (nomark _))
      (pss_one (ps_ret (pe_lstN pa_nil)))
      pss_nil)
      (pss_cons (ps_set (i := 5) sc_bag_behind.nd rfl (Or.inl rfl) (pe_ix (ix_listK (K := K) rfl) (pv 3) pe_int (fun _ _ => rfl)))
      (pss_cons (ps_if (pt_cmpR op_eq (pv 4) pe_str (nomark _))
      (pss_cons (ps_set (i := 6) sc_bag_behind.nd rfl (Or.inl rfl) (pe_ix (ix_tupK (K := K) rfl) (pv 2) pe_int (fun _ _ => rfl)))
      (pss_one (ps_ret (pe_ifExp (PW.pt (pw_and (pt_truthK (K := K) rfl (pe_call G_is_below hr rfl d_is_below.m d_is_below.F.kp d_is_below.b .nil pass0 (pa_cons (pe_ix (ix_tupK (K := K) rfl) (pv 0) pe_int (fun _ _ => rfl)) (pa_cons (pv 6) pa_nil))) (fun _ => rfl)) (pw_and (pt_cmpR (op_notInDK (K := K) rfl hv) (pv 6) (pv 5) (by with_unfolding_all rfl)) (pw_and1 (pt_cmpR (op_notInDK (K := K) rfl hv) (pe_tupN (pa_cons pe_str (pa_cons (pv 6) pa_nil))) (pv 1) (by with_unfolding_all rfl)))))) (pe_call G_joint hr rfl d_joint.m d_joint.F.kp d_joint.b .nil pass0 (pa_cons (pv 5) (pa_cons (pe_lstN (pa_cons (pv 6) pa_nil)) pa_nil))) pe_non))))
      pss_nil)
      (pss_cons (ps_if (pt_cmpR op_eq (pv 4) pe_str (nomark _))
      (pss_one (ps_ret (pe_ifExp (PW.pt (pw_and (pt_cmpR (op_inDK (K := K) rfl hv) (pe_slice (sl_tupN (K := K) rfl) (pv 2) (po_some pe_int) po_none) (pe_ix (ix_tupK (K := K) rfl) (pv 0) pe_int (fun _ _ => rfl)) (by with_unfolding_all rfl)) (pw_and (pt_not (pt_truthK (K := K) rfl (pe_call G_less hr rfl d_less.m d_less.F.kp d_less.b .nil pass0 (pa_cons (pe_slice (sl_tupN (K := K) rfl) (pv 2) (po_some pe_int) po_none) (pa_cons (pv 5) pa_nil))) (fun _ => rfl))) (pw_and1 (pt_cmpR (op_notInDK (K := K) rfl hv) (pv 2) (pv 1) (by with_unfolding_all rfl)))))) (pv 5) pe_non)))
      pss_nil)
      (pss_cons (ps_if (pt_cmpR op_eq (pv 4) pe_str (nomark _))
      (pss_one (ps_ret (pe_ifExp (PW.pt (pw_and (pt_cmpR (op_inDK (K := K) rfl hv) (pe_ix (ix_tupK (K := K) rfl) (pv 2) pe_int (fun _ _ => rfl)) (pv 5) (by with_unfolding_all rfl)) (pw_and1 (pt_cmpR (op_notInDK (K := K) rfl hv) (pv 2) (pv 1) (by with_unfolding_all rfl))))) (pe_call G_less hr rfl d_less.m d_less.F.kp d_less.b .nil pass0 (pa_cons (pv 5) (pa_cons (pe_slice (sl_tupN (K := K) rfl) (pv 2) (po_some pe_int) po_none) pa_nil))) pe_non)))
      pss_nil)
      (pss_one (ps_ret (pe_ifExp (pt_cmpR (op_eqDK (K := K) rfl hu) (pv 5) (pe_ix (ix_listK (K := K) rfl) (pv 3) pe_int (fun _ _ => rfl)) (nomark _)) (pv 5) pe_non))))))))), ?_⟩
  cases sp with
  | leaf =>
    refine ⟨_, rfl, st, _, _, _, rfl, rfl, hS, rfl, ?_⟩
    refine ⟨_, rfl, rfl, _, rfl, ?_⟩
    rw [decide_eq_true rfl]
    exact iteT ⟨(by show 0 ≤ 1000; decide), fun p1 H1 n1 => q _ H1 n1.same ⟨p1, rfl, SqL.of n1.here, .inl n1.fresh⟩⟩
  | inn v =>
    obtain ⟨b0, a0, hb0, m0⟩ := used0 (k := 0) pU nu
    obtain ⟨sm0, l0⟩ := sm _ m0
    refine ⟨_, rfl, st, _, _, _, rfl, rfl, hS, rfl, ?_⟩
    refine ⟨_, rfl, rfl, _, rfl, ?_⟩
    rw [w10]
    refine iteF ?_
    refine ⟨_, rfl, us, _, _, _, rfl, rfl, hU, a0, ?_⟩
    refine ⟨_, rfl, rfl, _, rfl, ?_⟩
    rw [decide_eq_true rfl]
    refine iteT ⟨_, rfl, st, _, _, _, rfl, rfl, hS, rfl, ?_⟩
    refine ⟨_, rfl, pg, _, _, _, rfl, rfl, hP, rfl, _, rfl, (n : Int), some v, rfl, _, rfl, ?_⟩
    have eb : belowF (n : Int) (some v) = decide (0 ≤ v ∧ v < (n : Int)) := rfl
    rw [eb]
    have no : ∀ {H'}, Same H H' → ¬ ((0 ≤ v ∧ v < (n : Int)) ∧ v ∉ used.getD 0 [] ∧ Stp.out v ∉ done) → Q .non H' := fun s c => q _ _ s (by
      unfold bagF
      dsimp only
      rw [if_neg c]
      exact rfl)
    by_cases c1 : 0 ≤ v ∧ v < (n : Int)
    · rw [decide_eq_true c1]
      refine iteT ⟨_, rfl, _, rfl, notInInts hb0 ⟨_, rfl, ?_⟩⟩
      by_cases c2 : v ∈ used.getD 0 []
      · rw [decide_eq_true c2]
        exact iteF (iteF (no (Same.refl _) fun h => h.2.1 c2))
      · rw [decide_eq_false c2]
        refine iteT ⟨_, rfl, (by show 2 ≤ 1000; decide), fun p2 H2 n2 => ?_⟩
        refine ⟨_, rfl, notInStp (s := .out v) (n2.same.seq hD) (Paired.mapP pD fun _ _ h => StpV.same n2.same h) (SqT.of n2.here) ⟨_, rfl, ?_⟩⟩
        by_cases c3 : Stp.out v ∈ done
        · rw [decide_eq_true c3]
          exact iteF (no n2.same fun h => h.2.2 c3)
        · rw [decide_eq_false c3]
          refine iteT ⟨_, rfl, _, rfl, (by show 1 ≤ 1000; decide), fun p3 H3 n3 => ?_⟩
          refine ⟨b0, p3, _, [v], rfl, (n2.same.trans n3.same).seq hb0, SqL.of n3.here, sm0, fun x hx => by rw [List.mem_singleton.mp hx]; omega, fun H4 p5 H5 s4 n5 => ?_⟩
          refine q _ H5 (n2.same.trans (n3.same.trans (s4.trans n5.same))) ?_
          unfold bagF
          dsimp only
          rw [if_pos ⟨c1, c2, c3⟩]
          exact ⟨p5, rfl, SqL.of n5.here, .inl ((n2.same.trans (n3.same.trans s4)).free n5.fresh)⟩
    · rw [decide_eq_false c1]
      exact iteF (iteF (no (Same.refl _) fun h => c1 h.1))
  | tie x y =>
    obtain ⟨b0, a0, hb0, m0⟩ := used0 (k := 0) pU nu
    refine ⟨_, rfl, st, _, _, _, rfl, rfl, hS, rfl, ?_⟩
    refine ⟨_, rfl, rfl, _, rfl, ?_⟩
    rw [w20]
    refine iteF ?_
    refine ⟨_, rfl, us, _, _, _, rfl, rfl, hU, a0, ?_⟩
    refine ⟨_, rfl, rfl, _, rfl, ?_⟩
    rw [w21]
    refine iteF ?_
    refine ⟨_, rfl, rfl, _, rfl, ?_⟩
    rw [decide_eq_true rfl]
    have no : ∀ {H'}, Same H H' → ¬ ((x, y) ∈ ts ∧ lessF [x, y] (used.getD 0 []) = [] ∧ Stp.tie x y ∉ done) → Q .non H' := fun s c => q _ _ s (by
      unfold bagF
      dsimp only
      rw [if_neg c]
      exact rfl)
    refine iteT ⟨_, rfl, _, rfl, st, _, rfl, hS, fun h => absurd h.1 (by show ¬ HT.sIx 3 0 (some 1) = 0; decide), fun p1 H1 n1 => ?_⟩
    refine ⟨_, rfl, pg, _, _, _, rfl, rfl, n1.same.tupq hP, rfl, tieD (x, y), ts.map tieD, TieV.isD ⟨p1, rfl, SqT.of n1.here⟩, (hT.same n1.same).isD, shaped_tie _, shaped_ties _, _, rfl, ?_⟩
    rw [if_neg Bool.false_ne_true, any_tie]
    by_cases c1 : (x, y) ∈ ts
    · rw [decide_eq_true c1]
      refine iteT ⟨_, rfl, _, rfl, st, _, rfl, n1.same.tupq hS, fun h => absurd h.1 (by show ¬ HT.sIx 3 0 (some 1) = 0; decide), fun p2 H2 n2 => ?_⟩
      have s2 := n1.same.trans n2.same
      refine ⟨_, rfl, .inl ⟨p2, b0, [x, y], _, rfl, SqT.of n2.here, s2.seq hb0, (by show 2 ≤ 1000; decide), fun H4 p5 H5 s4 n5 => ?_⟩⟩
      have s5 := s2.trans (s4.trans n5.same)
      refine ⟨_, .inl ⟨_, SqL.of n5.here, rfl⟩, ?_⟩
      by_cases c2 : lessF [x, y] (used.getD 0 []) = []
      · rw [c2]
        refine iteT ⟨_, rfl, _, rfl, notInStp (s := .tie x y) (s5.seq hD) (Paired.mapP pD fun _ _ h => StpV.same s5 h) (s5.tupq hS) ⟨_, rfl, ?_⟩⟩
        by_cases c3 : Stp.tie x y ∈ done
        · rw [decide_eq_true c3]
          exact iteF (no s5 fun h => h.2.2 c3)
        · rw [decide_eq_false c3]
          refine iteT ⟨_, rfl, q _ H5 s5 ?_⟩
          unfold bagF
          dsimp only
          rw [if_pos ⟨c1, c2, c3⟩]
          exact ⟨b0, rfl, s5.seq hb0, .inr (atI_mem a0)⟩
      · have e : ((lessF [x, y] (used.getD 0 [])).map V.int).isEmpty = false := by
          cases c4 : lessF [x, y] (used.getD 0 []) with
          | nil => exact absurd c4 c2
          | cons _ _ => rfl
        rw [e]
        exact iteF (iteF (no s5 fun h => c2 h.2.1))
    · rw [decide_eq_false c1]
      exact iteF (iteF (no n1.same fun h => c1 h.1))
  | out v =>
    obtain ⟨b0, a0, hb0, m0⟩ := used0 (k := 0) pU nu
    refine ⟨_, rfl, st, _, _, _, rfl, rfl, hS, rfl, ?_⟩
    refine ⟨_, rfl, rfl, _, rfl, ?_⟩
    rw [w30]
    refine iteF ?_
    refine ⟨_, rfl, us, _, _, _, rfl, rfl, hU, a0, ?_⟩
    refine ⟨_, rfl, rfl, _, rfl, ?_⟩
    rw [w31]
    refine iteF ?_
    refine ⟨_, rfl, rfl, _, rfl, ?_⟩
    rw [w32]
    refine iteF ?_
    refine ⟨_, rfl, rfl, _, rfl, ?_⟩
    rw [decide_eq_true rfl]
    have no : ∀ {H'}, Same H H' → ¬ (v ∈ used.getD 0 [] ∧ Stp.out v ∉ done) → Q .non H' := fun s c => q _ _ s (by
      unfold bagF
      dsimp only
      rw [if_neg c]
      exact rfl)
    refine iteT ⟨_, rfl, st, _, _, _, rfl, rfl, hS, rfl, _, rfl, inInts hb0 ⟨_, rfl, ?_⟩⟩
    by_cases c1 : v ∈ used.getD 0 []
    · rw [decide_eq_true c1]
      refine iteT ⟨_, rfl, _, rfl, notInStp (s := .out v) hD pD hS ⟨_, rfl, ?_⟩⟩
      by_cases c2 : Stp.out v ∈ done
      · rw [decide_eq_true c2]
        exact iteF (no (Same.refl _) fun h => h.2 c2)
      · rw [decide_eq_false c2]
        refine iteT ⟨_, rfl, _, rfl, _, rfl, st, _, rfl, hS, fun h => absurd h.1 (by show ¬ HT.sIx 2 0 (some 1) = 0; decide), fun p2 H2 n2 => ?_⟩
        refine .inr ⟨b0, p2, _, [v], rfl, n2.same.seq hb0, SqT.of n2.here, (sm _ m0).2, fun H4 p5 H5 s4 n5 => ?_⟩
        refine q _ H5 (n2.same.trans (s4.trans n5.same)) ?_
        unfold bagF
        dsimp only
        rw [if_pos ⟨c1, c2⟩]
        exact ⟨p5, rfl, SqL.of n5.here, .inl ((n2.same.trans s4).free n5.fresh)⟩
    · rw [decide_eq_false c1]
      exact iteF (iteF (no (Same.refl _) fun h => c1 h.1))
  | join =>
    obtain ⟨b0, a0, hb0, m0⟩ := used0 (k := 0) pU (Nat.lt_of_lt_of_le (by decide) nu)
    obtain ⟨b1, a1, hb1, m1⟩ := used0 (k := 1) pU (Nat.lt_of_lt_of_le (by decide) nu)
    refine ⟨_, rfl, st, _, _, _, rfl, rfl, hS, rfl, ?_⟩
    refine ⟨_, rfl, rfl, _, rfl, ?_⟩
    rw [w40]
    refine iteF ?_
    refine ⟨_, rfl, us, _, _, _, rfl, rfl, hU, a0, ?_⟩
    refine ⟨_, rfl, rfl, _, rfl, ?_⟩
    rw [w41]
    refine iteF ?_
    refine ⟨_, rfl, rfl, _, rfl, ?_⟩
    rw [w42]
    refine iteF ?_
    refine ⟨_, rfl, rfl, _, rfl, ?_⟩
    rw [w43]
    refine iteF ?_
    refine ⟨_, rfl, _, rfl, us, _, _, _, rfl, rfl, hU, a1, _, _, .lst hb0 (IsDs.ints _), .lst hb1 (IsDs.ints _), shaped_ints _, shaped_ints _, _, rfl, ?_⟩
    rw [if_neg Bool.false_ne_true, eqv_ints]
    by_cases c : used.getD 0 [] = used.getD 1 []
    · rw [decide_eq_true c]
      refine iteT ⟨_, rfl, q _ H (Same.refl _) ?_⟩
      unfold bagF
      dsimp only
      rw [if_pos c]
      exact ⟨b0, rfl, hb0, .inr (atI_mem a0)⟩
    · rw [decide_eq_false c]
      refine iteF (q _ H (Same.refl _) ?_)
      unfold bagF
      dsimp only
      rw [if_neg c]
      exact rfl
end

end K


namespace K
open PySem L2 Lw Bg
abbrev s_run : Stmt := top 56
theorem sc_run : FnScope ["graph", "steps", "tops", "feeds", "pile", "k", "step", "left", "bag"] ["graph", "steps"] (defScope s_run) := ⟨rfl, rfl, rfl, by decide +kernel, rfl, by decide +kernel, by decide +kernel⟩
structure RS where
  tops : List (List Int)
  feeds : List (List Nat)
  pile : List Nat
def leftR (s : Stp) (r : RS) : Nat := r.pile.length - s.need
def usedR (s : Stp) (r : RS) : List (List Int) := (r.pile.drop (leftR s r)).map fun j => r.tops.getD j []
def stepR (n : Nat) (ts : List (Int × Int)) (ss : List Stp) (k : Nat) (r : RS) : Option RS :=
  if (ss.getD k .leaf).need ≤ r.pile.length then
    (bagF n ts (ss.take k) (ss.getD k .leaf) (usedR (ss.getD k .leaf) r)).map fun b => ⟨r.tops ++ [b], r.feeds ++ [r.pile.drop (leftR (ss.getD k .leaf) r)], r.pile.take (leftR (ss.getD k .leaf) r) ++ [k]⟩
  else none
def runR (n : Nat) (ts : List (Int × Int)) (ss : List Stp) : Nat → RS × Bool
  | 0 => (⟨[], [], []⟩, true)
  | k + 1 => if (runR n ts ss k).2 = true then
      match stepR n ts ss k (runR n ts ss k).1 with
      | some r => (r, true)
      | none => ((runR n ts ss k).1, false)
    else ((runR n ts ss k).1, false)
def endR (n : Nat) (ts : List (Int × Int)) (ss : List Stp) : RS := (runR n ts ss ss.length).1
theorem run_stop {n : Nat} {ts : List (Int × Int)} {ss : List Stp} {k : Nat} (h : (runR n ts ss k).2 = false) : ∀ m, k ≤ m → runR n ts ss m = ((runR n ts ss k).1, false)
  | 0, hm => by
    have : k = 0 := by omega
    subst this
    exact Prod.ext rfl h
  | m + 1, hm => by
    by_cases c : k = m + 1
    · subst c
      exact Prod.ext rfl h
    · have ih := run_stop h m (by omega)
      show (if (runR n ts ss m).2 = true then _ else _) = _
      rw [ih]
      rfl
structure RunI (i : Nat) (r : RS) : Prop where
  tl : r.tops.length = i
  fl : r.feeds.length = i
  pl : r.pile.length ≤ i
  lt : ∀ j ∈ r.pile, j < i
  sm : ∀ b ∈ r.tops, Small b ∧ b.length ≤ 1000
  ff : ∀ f ∈ r.feeds, f.length ≤ 2
theorem bag_small {n : Nat} {ts : List (Int × Int)} {done : List Stp} {s : Stp} {used : List (List Int)} {b : List Int} (n10 : n ≤ 10) (sm : ∀ b ∈ used, Small b ∧ b.length ≤ 1000) (h : bagF n ts done s used = some b) : Small b ∧ b.length ≤ 1000 := by
  have g : ∀ k, Small (used.getD k []) ∧ (used.getD k []).length ≤ 1000 := fun k => by
    by_cases c : k < used.length
    · rw [List.getD_eq_getElem?_getD, List.getElem?_eq_getElem c]
      exact sm _ (List.getElem_mem c)
    · rw [List.getD_eq_getElem?_getD, List.getElem?_eq_none (by omega)]
      exact ⟨fun x hx => absurd hx List.not_mem_nil, by decide⟩
  unfold bagF at h
  cases s with
  | leaf =>
    have : b = [] := (Option.some.inj h).symm
    subst this
    exact ⟨fun x hx => absurd hx List.not_mem_nil, by decide⟩
  | inn v =>
    dsimp only at h
    split at h
    · rw [← Option.some.inj h]
      refine ⟨fun x hx => ?_, ?_⟩
      · obtain ⟨h1, h2, _⟩ := mem_upF.mp hx
        exact ⟨h1, h2⟩
      · unfold jointF upF
        exact Nat.le_trans (List.length_filter_le _ _) (by rw [List.length_map, List.length_range]; decide)
    · cases h
  | tie x y =>
    dsimp only at h
    split at h
    · rw [← Option.some.inj h]; exact g 0
    · cases h
  | out v =>
    dsimp only at h
    split at h
    · rw [← Option.some.inj h]
      exact ⟨fun x hx => (g 0).1 x (List.mem_filter.mp hx).1, Nat.le_trans (List.length_filter_le _ _) (g 0).2⟩
    · cases h
  | join =>
    dsimp only at h
    split at h
    · rw [← Option.some.inj h]; exact g 0
    · cases h
theorem run_inv {n : Nat} {ts : List (Int × Int)} {ss : List Stp} (n10 : n ≤ 10) : ∀ {i : Nat}, (runR n ts ss i).2 = true → RunI i (runR n ts ss i).1
  | 0, _ => ⟨rfl, rfl, Nat.le_refl _, fun j h => absurd h List.not_mem_nil, fun b h => absurd h List.not_mem_nil, fun b h => absurd h List.not_mem_nil⟩
  | i + 1, h => by
    have e : runR n ts ss (i + 1) = if (runR n ts ss i).2 = true then
      (match stepR n ts ss i (runR n ts ss i).1 with
      | some r => (r, true)
      | none => ((runR n ts ss i).1, false))
    else ((runR n ts ss i).1, false) := rfl
    rw [e] at h ⊢
    by_cases c : (runR n ts ss i).2 = true
    · have I := run_inv n10 c
      rw [if_pos c] at h ⊢
      cases d : stepR n ts ss i (runR n ts ss i).1 with
      | none => rw [d] at h; cases h
      | some r =>
        dsimp only
        unfold stepR at d
        split at d
        · obtain ⟨b, hb, er⟩ := Option.map_eq_some_iff.mp d
          rw [← er]
          have sb := bag_small n10 (fun x hx => by
            obtain ⟨j, hj, e⟩ := List.mem_map.mp hx
            have jl := I.lt j (List.mem_of_mem_drop hj)
            rw [← e, List.getD_eq_getElem?_getD, List.getElem?_eq_getElem (by rw [I.tl]; exact jl)]
            exact I.sm _ (List.getElem_mem _)) hb
          refine ⟨?_, ?_, ?_, fun j hj => ?_, fun x hx => ?_, fun f hf => ?_⟩
          · show (_ ++ [b]).length = _
            rw [List.length_append, I.tl]; rfl
          · show (_ ++ [_]).length = _
            rw [List.length_append, I.fl]; rfl
          · show (_ ++ [i]).length ≤ _
            rw [List.length_append, List.length_take]
            have := I.pl
            show min _ _ + 1 ≤ _
            omega
          · rcases List.mem_append.mp hj with hj | hj
            · have := I.lt j (List.mem_of_mem_take hj)
              omega
            · rw [List.mem_singleton.mp hj]; omega
          · rcases List.mem_append.mp hx with hx | hx
            · exact I.sm x hx
            · rw [List.mem_singleton.mp hx]; exact sb
          · rcases List.mem_append.mp hf with hf | hf
            · exact I.ff f hf
            · rw [List.mem_singleton.mp hf, List.length_drop]
              unfold leftR
              have : (ss.getD i .leaf).need ≤ 2 := by cases ss.getD i .leaf <;> simp [Stp.need]
              omega
        · cases d
    · rw [if_neg c] at h
      cases h
theorem run_go {n : Nat} {ts : List (Int × Int)} {ss : List Stp} {i : Nat} {r : RS} (c : (runR n ts ss i).2 = true) (d : stepR n ts ss i (runR n ts ss i).1 = some r) : runR n ts ss (i + 1) = (r, true) := by
  show (if (runR n ts ss i).2 = true then _ else _) = _
  rw [if_pos c, d]
theorem run_end {n : Nat} {ts : List (Int × Int)} {ss : List Stp} {i : Nat} (il : i < ss.length) (c : (runR n ts ss i).2 = true) (d : stepR n ts ss i (runR n ts ss i).1 = none) : endR n ts ss = (runR n ts ss i).1 := by
  have e : runR n ts ss (i + 1) = ((runR n ts ss i).1, false) := by
    show (if (runR n ts ss i).2 = true then _ else _) = _
    rw [if_pos c, d]
  unfold endR
  rw [run_stop (k := i + 1) (by rw [e]) ss.length il, e]

end K


namespace K
open PySem L2 Lw Bg
def BagL (ex : List Addr) (K : PySem.W.Frag) (H : Hp) (v : V) (b : List Int) : Prop := ∃ p, v = .ref p ∧ SqL K H p (b.map V.int) ∧ p ∉ ex
theorem BagL.same {ex : List Addr} {K : PySem.W.Frag} {H H' : Hp} {v : V} {b : List Int} (s : Same H H') (h : BagL ex K H v b) : BagL ex K H' v b := by
  obtain ⟨p, e, q, n⟩ := h
  exact ⟨p, e, s.seq q, n⟩
theorem BagL.l {ex : List Addr} {K : PySem.W.Frag} {H : Hp} {v : V} {b : List Int} (h : BagL ex K H v b) : LstV K H v b := by
  obtain ⟨p, e, q, n⟩ := h
  exact ⟨p, e, q⟩
theorem sql_chg {K : PySem.W.Frag} {H H' : Hp} {a p : Addr} {o : HO} {xs : List V} (c : Chg H a o H') (n : p ≠ a) (h : SqL K H p xs) : SqL K H' p xs := by
  rcases h with h | h
  · refine .inl ?_
    rcases h with h | ⟨u, h⟩
    · exact .inl ((c.rest p n).trans h)
    · exact .inr ⟨u, (c.rest p n).trans h⟩
  · exact .inr h
theorem BagL.chg {ex : List Addr} {K : PySem.W.Frag} {H H' : Hp} {a : Addr} {o : HO} {v : V} {b : List Int} (c : Chg H a o H') (ha : a ∈ ex) (h : BagL ex K H v b) : BagL ex K H' v b := by
  obtain ⟨p, e, q, n⟩ := h
  exact ⟨p, e, sql_chg c (fun z => n (z ▸ ha)) q, n⟩
def NatL (ex : List Addr) (H : Hp) (q : Addr) (f : List Nat) : Prop := H q = some (.lst (natV f)) ∧ q ∉ ex
theorem NatL.same {ex : List Addr} {H H' : Hp} {q : Addr} {f : List Nat} (s : Same H H') (h : NatL ex H q f) : NatL ex H' q f := ⟨s _ _ h.1, h.2⟩
theorem NatL.chg {ex : List Addr} {H H' : Hp} {a : Addr} {o : HO} {q : Addr} {f : List Nat} (c : Chg H a o H') (ha : a ∈ ex) (h : NatL ex H q f) : NatL ex H' q f := ⟨(c.rest q fun z => h.2 (z ▸ ha)).trans h.1, h.2⟩
theorem cut_take (xs : List V) (k : Nat) (h : k ≤ xs.length) : cutV xs none (some (k : Int)) = xs.take k := by
  unfold cutV
  have e1 : HT.sIx xs.length xs.length (some (k : Int)) = k := by
    show min _ _ = k
    simp
    omega
  have e2 : HT.sIx xs.length 0 none = 0 := rfl
  rw [e1, e2, List.drop_zero, Nat.sub_zero]
theorem cut_drop (xs : List V) (k : Nat) (h : k ≤ xs.length) : cutV xs (some (k : Int)) none = xs.drop k := by
  unfold cutV
  have e1 : HT.sIx xs.length 0 (some (k : Int)) = k := by
    show min _ _ = k
    simp
    omega
  have e2 : HT.sIx xs.length xs.length none = xs.length := rfl
  rw [e1, e2, List.take_of_length_le (by rw [List.length_drop]; omega)]
theorem pairedTake {α β : Type} {R : α → β → Prop} : ∀ {xs : List α} {ys : List β} (i : Nat), Paired R xs ys → Paired R (xs.take i) (ys.take i)
  | _, _, 0, _ => .nil
  | _, _, _ + 1, .nil => .nil
  | _, _, i + 1, .cons q r => .cons q (pairedTake i r)
def BagX (ex : List Addr) (K : PySem.W.Frag) (H : Hp) (v : V) : Option (List Int) → Prop
  | none => v = .non
  | some b => BagL ex K H v b
theorem used_pair {ex : List Addr} {K : PySem.W.Frag} {H : Hp} {vt : List V} {tops : List (List Int)} (p : Paired (BagL ex K H) vt tops) : ∀ l : List Nat, (∀ j ∈ l, j < tops.length) → Paired (LstV K H) (l.map fun j => vt.getD j .non) (l.map fun j => tops.getD j [])
  | [], _ => .nil
  | j :: r, h => by
    have jl := h j List.mem_cons_self
    obtain ⟨x, hx, hb⟩ := paired_getr p (List.getElem?_eq_getElem jl)
    refine .cons ?_ (used_pair p r fun i hi => h i (List.mem_cons_of_mem _ hi))
    dsimp only
    rw [List.getD_eq_getElem?_getD, hx, List.getD_eq_getElem?_getD, List.getElem?_eq_getElem jl]
    exact hb.l
def spRun (K : PySem.W.Frag) : Sp := fun vs H Q _ => ∃ (g : V) (n : Nat) (ts : List (Int × Int)) (a : Addr) (xs : List V) (ss : List Stp), vs = [g, .ref a] ∧ GraphV K H g n ts ∧ n ≤ 10 ∧ SqL K H a xs ∧ Paired (StpV K H) xs ss ∧ ss.length ≤ 900 ∧
  ∀ r pt pf pp vt fs H', Same H H' → H' r = some (.tup [.ref pt, .ref pf, .ref pp]) → H pt = none → H pf = none → H pp = none → H' pt = some (.lst vt) → H' pf = some (.lst (fs.map V.ref)) → NatL [pt, pf] H' pp (endR n ts ss).pile → Paired (BagL [pt, pf] K H') vt (endR n ts ss).tops → Paired (NatL [pt, pf] H') fs (endR n ts ss).feeds → Q (.ref r) H'
section
variable {P : Program} {w : World} {K : PySem.W.Frag} {mg : Str → Option Value} {base : Heap}
set_option maxHeartbeats 8000000 in
theorem ok_run (B : Bl mg) (U : Used w K mg) (d_is_whole : Dn K mg "is_whole" s_is_whole ["thing"]) (d_is_below : Dn K mg "is_below" s_is_below ["n", "thing"]) (d_joint : Dn K mg "joint" s_joint ["one", "other"]) (d_less : Dn K mg "less" s_less ["one", "other"]) (d_bag_behind : Dn K mg "bag_behind" s_bag_behind ["graph", "done", "step", "used"]) (d_run : Dn K mg "run" s_run ["graph", "steps"]) : FnOk P w K mg base CX0 4 d_run.f d_run.fd ["graph", "steps"] (spRun K) := by
  have G_bag_behind : FnOk P w K mg base CX0 3 _ _ _ _ := ok_bag_behind B d_is_whole d_is_below d_joint d_less d_bag_behind
  refine d_run.F.ok sc_run (fun vs H Q E h => ?_) (fun cdv A outer s H vs Q E hr h => ?_)
  · obtain ⟨g, n, ts, a, xs, ss, rfl, _⟩ := h
    rfl
  obtain ⟨g, n, ts, a, xs, ss, rfl, hG, n10, hA, pA, l900, q⟩ := h
  have lx := Paired.length pA
  refine ⟨_, (pss_cons (ps_set (i := 2) sc_run.nd rfl (Or.inr rfl) (pe_lstN pa_nil))
      (pss_cons (ps_set (i := 3) sc_run.nd rfl (Or.inl rfl) (pe_lstN pa_nil))
      (pss_cons (ps_set (i := 4) sc_run.nd rfl (Or.inl rfl) (pe_lstN pa_nil))
      (pss_cons (ps_for PassesOwn.never rfl (pi_enum (K := K) rfl rfl B.enumerate (pa_cons (pv 1) pa_nil)) (pg_tupK (K := K) (n := 2) rfl rfl (pgs_cons (pg_name (i := 5) sc_run.nd rfl (Or.inl rfl)) (pgs_cons (pg_name (i := 6) sc_run.nd rfl (Or.inl rfl)) pgs_nil)))
      (pss_cons (ps_set (i := 7) sc_run.nd rfl (Or.inl rfl) (pe_op op_sub (pe_callB (call_lenK (K := K) rfl) rfl B.len (by decide +kernel) (pa_cons (pv 4) pa_nil)) (pe_used U rfl (pe_ix (ix_tupK (K := K) rfl) (pv 6) pe_int (fun _ _ => rfl)) (fun _ _ => rfl))))
      (pss_cons (ps_set (i := 8) sc_run.nd rfl (Or.inl rfl) pe_non)
      (pss_cut (ps_if (pt_cmpR op_ge (pv 7) pe_int (nomark _))
      (pss_one (ps_set (i := 8) sc_run.nd rfl (Or.inl rfl) (pe_call G_bag_behind hr rfl d_bag_behind.m d_bag_behind.F.kp d_bag_behind.b .nil pass0 (pa_cons (pv 0) (pa_cons (pe_slice (sl_listN (K := K) rfl) (pv 1) po_none (po_some (pv 5))) (pa_cons (pv 6) (pa_cons (pe_lc ["j", "tops"] [none, some 2]  (by kernel_rfl) rfl (pi_listK (K := K) rfl (pe_slice (sl_listN (K := K) rfl) (pv 4) (po_some (pv 7)) po_none)) (fun _ _ _ _ _ => (pg_name (i := 0) (show (["j", "tops"] : List Str).Nodup by decide +kernel) rfl (Or.inl rfl))) (fun _ _ _ _ _ => pts_nil) (fun _ _ _ _ _ => (pe_ix (ix_listK (K := K) rfl) (pv 1) (pv 0) (fun _ _ => rfl)))) pa_nil)))))))
      pss_nil)
      (pss_cons (ps_if (pt_cmpR op_isN (pv 8) pe_non (nomark _))
      (pss_one ps_break)
      pss_nil)
      (pss_cons (ps_expr (pe_bmK (K := K) rfl PySem.F.plainAttrs_list PySem.F.slot_list_append PySem.F.type_list_append mt_appendN (pv 2) (pa_cons (pv 8) pa_nil)))
      (pss_cons (ps_expr (pe_bmK (K := K) rfl PySem.F.plainAttrs_list PySem.F.slot_list_append PySem.F.type_list_append mt_appendN (pv 3) (pa_cons (pe_slice (sl_listN (K := K) rfl) (pv 4) (po_some (pv 7)) po_none) pa_nil)))
      (pss_one (ps_set (i := 4) sc_run.nd rfl (Or.inl rfl) (pe_op op_catN (pe_slice (sl_listN (K := K) rfl) (pv 4) po_none (po_some (pv 7))) (pe_lstN (pa_cons (pv 5) pa_nil))))))))))))
      (pss_one (ps_ret (pe_tupN (pa_cons (pv 2) (pa_cons (pv 3) (pa_cons (pv 4) pa_nil)))))))))), ?_⟩
  refine ⟨(by show 0 ≤ 1000; decide), fun p1 H1 n1 => ⟨(by show 0 ≤ 1000; decide), fun p2 H2 n2 => ⟨(by show 0 ≤ 1000; decide), fun p3 H3 n3 => ?_⟩⟩⟩
  have s3 := n1.same.trans (n2.same.trans n3.same)
  have f1 : H p1 = none := n1.fresh
  have f2 : H p2 = none := n1.same.free n2.fresh
  have f3 : H p3 = none := n1.same.free (n2.same.free n3.fresh)
  have n12 : p1 ≠ p2 := n2.ne n1.here
  have n13 : p3 ≠ p1 := (n3.ne (n2.same _ _ n1.here)).symm
  have n23 : p3 ≠ p2 := (n3.ne n2.here).symm
  have ret : ∀ {H' : Hp} {pp : Addr} {vt : List V} {fs : List Addr} {a5 a6 a7 a8 : Option V}, Same H H' → H pp = none → H' p1 = some (.lst vt) → H' p2 = some (.lst (fs.map V.ref)) → NatL [p1, p2] H' pp (endR n ts ss).pile → Paired (BagL [p1, p2] K H') vt (endR n ts ss).tops → Paired (NatL [p1, p2] H') fs (endR n ts ss).feeds → tRet (tTupN (tCons (tVar 2) (tCons (tVar 3) (tCons (tVar 4) tNil)))) { nx := fun x H' => Q V.non H', rt := Q } [some g, some (.ref a), some (.ref p1), some (.ref p2), some (.ref pp), a5, a6, a7, a8] H' := fun {H' pp vt fs a5 a6 a7 a8} s fp h1 h2 h3 h4 h5 => by
    refine ⟨_, rfl, _, rfl, _, rfl, (by show 3 ≤ 1000; decide), fun pr Hr nr => ?_⟩
    exact q pr p1 p2 pp vt fs Hr (s.trans nr.same) nr.here f1 f2 fp (nr.same _ _ h1) (nr.same _ _ h2) (h3.same nr.same) (Paired.mapP h4 fun _ _ h => h.same nr.same) (Paired.mapP h5 fun _ _ h => h.same nr.same)
  refine ⟨_, rfl, a, rfl, ⟨_, s3.seq hA⟩, ?_⟩
  refine for_enum (xs := xs) (fun i σ H' => ∃ (vt : List V) (fs : List Addr) (pp : Addr) (a5 a6 a7 a8 : Option V), σ = [some g, some (.ref a), some (.ref p1), some (.ref p2), some (.ref pp), a5, a6, a7, a8] ∧ Same H H' ∧ H' p1 = some (.lst vt) ∧ H' p2 = some (.lst (fs.map V.ref)) ∧ (runR n ts ss i).2 = true ∧ H pp = none ∧ NatL [p1, p2] H' pp (runR n ts ss i).1.pile ∧ Paired (BagL [p1, p2] K H') vt (runR n ts ss i).1.tops ∧ Paired (NatL [p1, p2] H') fs (runR n ts ss i).1.feeds)
    ⟨[], [], p3, none, none, none, none, rfl, s3, n3.same _ _ (n2.same _ _ n1.here), n3.same _ _ n2.here, rfl, f3, ⟨n3.here, by simp [n13, n23]⟩, .nil, .nil⟩ (fun i σ H' _ ⟨_, _, _, _, _, _, _, _, s, _⟩ => s.seq hA) ?_ ?_
  · rintro i x σ H4 pz H5 hi ⟨vt, fs, pp, a5, a6, a7, a8, rfl, s4, h1, h2, go, fp, hpp, pv, pf⟩ nz
    obtain ⟨sp, hsp, ⟨ps, rfl, hps⟩⟩ := paired_get pA hi
    have il : i < ss.length := (List.getElem?_eq_some_iff.mp hsp).1
    have esp : ss.getD i .leaf = sp := by rw [List.getD_eq_getElem?_getD, hsp]; rfl
    have I := run_inv (n := n) (ts := ts) (ss := ss) n10 go
    obtain ⟨R, eR⟩ : ∃ R, R = (runR n ts ss i).1 := ⟨_, rfl⟩
    rw [← eR] at I hpp pv pf
    have s5 := s4.trans nz.same
    refine ⟨pz, _, rfl, SqT.of nz.here, rfl, _, _, rfl, _, _, rfl, rfl, ?_⟩
    have hpp5 := (hpp.same nz.same).1
    refine ⟨_, rfl, pp, _, rfl, .inl (SqL.of hpp5), _, rfl, ps, _, ((0 : Nat) : Int), _, rfl, rfl, s5.tupq hps, word_at sp, .inr sp.word, _, rfl, used_at sp, _, _, rfl, rfl, ?_⟩
    dsimp only
    rw [List.length_map]
    obtain ⟨lf, elf⟩ : ∃ lf : Int, ((R.pile.length : Nat) : Int) - ((sp.need : Nat) : Int) = lf := ⟨_, rfl⟩
    rw [elf]
    refine ⟨fun σ' H' => ∃ bv : V, σ' = [some g, some (.ref a), some (.ref p1), some (.ref p2), some (.ref pp), some (.int (i : Int)), some (.ref ps), some (.int lf), some bv] ∧ Same H5 H' ∧ ((sp.need ≤ R.pile.length ∧ BagX [p1, p2] K H' bv (bagF n ts (ss.take i) sp (usedR sp R))) ∨ (¬ sp.need ≤ R.pile.length ∧ bv = .non)), ?_, ?_⟩
    · refine ⟨_, rfl, _, _, rfl, rfl, _, rfl, ?_⟩
      refine ite2 (fun c => ?_) (fun c => ⟨.non, rfl, Same.refl _, .inr ⟨?_, rfl⟩⟩)
      · have c' : (0 : Int) ≤ lf := of_decide_eq_true c
        have nl : sp.need ≤ R.pile.length := by omega
        have el : lf = ((leftR sp R : Nat) : Int) := by unfold leftR; omega
        have ll : leftR sp R ≤ R.pile.length := by unfold leftR; omega
        rw [el]
        refine ⟨_, rfl, _, rfl, _, rfl, _, rfl, a, _, rfl, s5.seq hA, fun p6 H6 n6 => ?_⟩
        rw [cut_take _ _ (by omega)] at n6
        refine ⟨_, rfl, _, rfl, _, rfl, _, rfl, pp, _, rfl, SqL.of (n6.same _ _ hpp5), fun p7 H7 n7 => ?_⟩
        rw [cut_drop _ _ (by rw [List.length_map]; exact ll)] at n7
        have s57 := n6.same.trans n7.same
        have ed : (natV R.pile).drop (leftR sp R) = natV (R.pile.drop (leftR sp R)) := by unfold natV; rw [List.map_drop]
        rw [ed] at n7
        have h17 := s57 _ _ (nz.same _ _ h1)
        have lv := Paired.length pv
        have jt : ∀ j ∈ R.pile.drop (leftR sp R), j < R.tops.length := fun j hj => by rw [I.tl]; exact I.lt j (List.mem_of_mem_drop hj)
        refine ⟨p7, rfl, ⟨_, SqL.of n7.here⟩, ?_⟩
        refine lc_fmN (fun v => match v with | .int z => some (vt.getD z.toNat .non) | _ => none) (SqL.of n7.here) (by rw [List.length_map, List.length_drop]; have := I.pl; omega) (fun v H8 N hv8 s8 hN => ?_) (fun H8 p9 H9 s8 n9 => ?_)
        · obtain ⟨j, hj, rfl⟩ := List.mem_map.mp hv8
          have jl : j < vt.length := by rw [lv]; exact jt j hj
          have hN' := hN H8 s8
          dsimp only at hN'
          rw [Int.toNat_natCast] at hN'
          refine ⟨_, rfl, _, rfl, p1, _, _, _, rfl, rfl, SqL.of (s8 _ _ h17), atI_nat (List.getElem?_eq_getElem jl), ?_⟩
          rw [List.getD_eq_getElem?_getD, List.getElem?_eq_getElem jl] at hN'
          exact hN'
        have e9 : (natV (R.pile.drop (leftR sp R))).filterMap (fun v => match v with | .int z => some (vt.getD z.toNat .non) | _ => none) = (R.pile.drop (leftR sp R)).map fun j => vt.getD j .non := by
          unfold natV
          rw [List.filterMap_map]
          refine (fm_some fun j _ => ?_)
          show some (vt.getD ((j : Int)).toNat V.non) = _
          rw [Int.toNat_natCast]
        rw [e9] at n9
        have s59 := s57.trans (s8.trans n9.same)
        have s69 := n7.same.trans (s8.trans n9.same)
        have pv9 := Paired.mapP pv fun _ _ h => h.same (nz.same.trans s59)
        refine ⟨g, n, ts, p6, ps, p9, xs.take i, _, ss.take i, sp, usedR sp R, rfl, (hG.same s5).same s59, n10, SqL.of (s69 _ _ n6.here), pairedTake i (Paired.mapP pA fun _ _ h => (h.same s5).same s59), (s5.trans s59).tupq hps, SqL.of n9.here, used_pair pv9 _ jt, ?_, fun b hb => ?_, fun r H10 s10 bn => ?_⟩
        · unfold usedR
          rw [List.length_map, List.length_drop]
          unfold leftR
          omega
        · obtain ⟨j, hj, rfl⟩ := List.mem_map.mp hb
          rw [List.getD_eq_getElem?_getD, List.getElem?_eq_getElem (jt j hj)]
          exact I.sm _ (List.getElem_mem _)
        refine ⟨r, rfl, s59.trans s10, .inl ⟨nl, ?_⟩⟩
        cases eb : bagF n ts (ss.take i) sp (usedR sp R) with
        | none => rw [eb] at bn; exact bn
        | some b =>
          rw [eb] at bn
          obtain ⟨p, e, hp, h⟩ := bn
          refine ⟨p, e, hp, ?_⟩
          rcases h with h | h
          · have k1 : H9 p1 = some (.lst vt) := s59 _ _ (nz.same _ _ h1)
            have k2 : H9 p2 = some (.lst (fs.map V.ref)) := s59 _ _ (nz.same _ _ h2)
            intro hm
            rcases List.mem_cons.mp hm with hm | hm
            · rw [hm, k1] at h; cases h
            · rw [List.mem_singleton.mp hm, k2] at h; cases h
          · obtain ⟨j, hj, ej⟩ := List.mem_map.mp h
            have jl : j < vt.length := by rw [lv]; exact jt j hj
            obtain ⟨b', _, ⟨p', e', _, np⟩⟩ := paired_get pv (List.getElem?_eq_getElem jl)
            rw [List.getD_eq_getElem?_getD, List.getElem?_eq_getElem jl, Option.getD_some, e'] at ej
            injection ej with ej
            rw [← ej]; exact np
      · have c' : ¬ (0 : Int) ≤ lf := of_decide_eq_false (Bool.eq_false_iff.mpr c)
        omega
    rintro σ' H6 ⟨bv, rfl, s6, wb⟩
    have s46 := nz.same.trans s6
    have h16 := s46 _ _ h1
    have h26 := s46 _ _ h2
    have hpp6 := hpp.same s46
    have pv6 := Paired.mapP pv fun _ _ h => h.same s46
    have pf6 := Paired.mapP pf fun _ _ h => h.same s46
    have sH6 := s4.trans s46
    have stop : bv = .non → stepR n ts ss i R = none := fun e => by
      unfold stepR
      rw [esp]
      rcases wb with ⟨nl, w⟩ | ⟨nl, _⟩
      · rw [if_pos nl]
        cases eb : bagF n ts (ss.take i) sp (usedR sp R) with
        | none => rfl
        | some b =>
          rw [eb] at w
          obtain ⟨p, e', _⟩ := w
          rw [e] at e'; cases e'
      · rw [if_neg nl]
    refine ⟨_, rfl, rfl, _, rfl, ?_⟩
    by_cases cn : bv = .non
    · rw [decide_eq_true cn]
      refine iteT ?_
      have ee := run_end il go (by rw [← eR]; exact stop cn)
      rw [← eR] at ee
      refine ret sH6 fp h16 h26 ?_ ?_ ?_
      · rw [ee]; exact hpp6
      · rw [ee]; exact pv6
      · rw [ee]; exact pf6
    · rw [decide_eq_false cn]
      refine iteF ?_
      obtain ⟨nl, b, eb, p, rfl, hp, np⟩ : sp.need ≤ R.pile.length ∧ ∃ b, bagF n ts (ss.take i) sp (usedR sp R) = some b ∧ BagL [p1, p2] K H6 bv b := by
        rcases wb with ⟨nl, w⟩ | ⟨_, e⟩
        · refine ⟨nl, ?_⟩
          cases eb : bagF n ts (ss.take i) sp (usedR sp R) with
          | none => rw [eb] at w; exact absurd w cn
          | some b => rw [eb] at w; exact ⟨b, rfl, w⟩
        · exact absurd e cn
      have el : lf = ((leftR sp R : Nat) : Int) := by unfold leftR; omega
      have ll : leftR sp R ≤ R.pile.length := by unfold leftR; omega
      rw [el]
      have lv := Paired.length pv
      have lff := Paired.length pf
      have tl := I.tl
      have fl := I.fl
      have pl := I.pl
      have es : stepR n ts ss i R = some ⟨R.tops ++ [b], R.feeds ++ [R.pile.drop (leftR sp R)], R.pile.take (leftR sp R) ++ [i]⟩ := by
        unfold stepR
        rw [esp, if_pos nl, eb]
        rfl
      have er := run_go go (by rw [← eR]; exact es)
      have m1 : p1 ∈ [p1, p2] := List.mem_cons_self
      have m2 : p2 ∈ [p1, p2] := List.mem_cons_of_mem _ (List.mem_singleton.mpr rfl)
      refine ⟨_, rfl, .inl ⟨rfl, _, SqL.of h16⟩, _, rfl, p1, vt, _, rfl, rfl, h16, by omega, fun H7 c7 => ?_⟩
      have h27 : H7 p2 = some (.lst (fs.map V.ref)) := (c7.rest p2 (Ne.symm n12)).trans h26
      have hpp7 := hpp6.chg c7 m1
      refine ⟨_, rfl, .inl ⟨rfl, _, SqL.of h27⟩, _, rfl, _, rfl, _, rfl, pp, _, rfl, SqL.of hpp7.1, fun p8 H8 n8 => ?_⟩
      rw [cut_drop _ _ (by rw [List.length_map]; exact ll), show (natV R.pile).drop (leftR sp R) = natV (R.pile.drop (leftR sp R)) by unfold natV; rw [List.map_drop]] at n8
      have h28 := n8.same _ _ h27
      refine ⟨p2, _, _, rfl, rfl, h28, by rw [List.length_map]; omega, fun H9 c9 => ?_⟩
      have n81 : p8 ∉ [p1, p2] := fun hm => by
        have f8 := n8.fresh
        rcases List.mem_cons.mp hm with hm | hm
        · rw [hm, c7.here] at f8; cases f8
        · rw [List.mem_singleton.mp hm, h27] at f8; cases f8
      have h19 : H9 p1 = some (.lst (vt ++ [.ref p])) := (c9.rest p1 n12).trans (n8.same _ _ c7.here)
      have hpp9 := (hpp7.same n8.same).chg c9 m2
      refine ⟨_, rfl, _, rfl, _, rfl, pp, _, rfl, SqL.of hpp9.1, fun p10 H10 n10' => ?_⟩
      rw [cut_take _ _ (by rw [List.length_map]; exact ll), show (natV R.pile).take (leftR sp R) = natV (R.pile.take (leftR sp R)) by unfold natV; rw [List.map_take]] at n10'
      refine ⟨_, rfl, (by show 1 ≤ 1000; decide), fun p11 H11 n11 => ?_⟩
      refine ⟨p10, p11, _, _, rfl, rfl, n11.same _ _ n10'.here, n11.here, by rw [List.length_map, List.length_take]; show min _ _ + 1 ≤ 1000; omega, fun p12 H12 n12' => ?_⟩
      have s9_12 := n10'.same.trans (n11.same.trans n12'.same)
      have sH9 : Same H H9 := ((sH6.chg f1 c7).trans n8.same).chg f2 c9
      have f12 : H p12 = none := sH9.free (n10'.same.free (n11.same.free n12'.fresh))
      refine ⟨vt ++ [.ref p], fs ++ [p8], p12, _, _, _, _, rfl, sH9.trans s9_12, s9_12 _ _ h19, ?_, by rw [er], f12, ?_, ?_, ?_⟩
      · have := s9_12 _ _ c9.here
        rw [this, List.map_append]; rfl
      · rw [er]
        refine ⟨?_, fun hm => ?_⟩
        · rw [n12'.here]
          unfold natV
          rw [List.map_append]; rfl
        · have g := n12'.fresh
          rcases List.mem_cons.mp hm with hm | hm
          · rw [hm, n11.same _ _ (n10'.same _ _ h19)] at g; cases g
          · rw [List.mem_singleton.mp hm, n11.same _ _ (n10'.same _ _ c9.here)] at g; cases g
      · rw [er]
        exact paired_snoc (Paired.mapP pv6 fun _ _ h => (((h.chg c7 m1).same n8.same).chg c9 m2).same s9_12) ((((BagL.chg c7 m1 ⟨p, rfl, hp, np⟩).same n8.same).chg c9 m2).same s9_12)
      · rw [er]
        exact paired_snoc (Paired.mapP pf6 fun _ _ h => (((h.chg c7 m1).same n8.same).chg c9 m2).same s9_12) ((NatL.chg c9 m2 ⟨n8.here, n81⟩).same s9_12)
  · rintro σ H4 ⟨vt, fs, pp, a5, a6, a7, a8, rfl, s4, h1, h2, go, fp, hpp, pv, pf⟩
    rw [lx] at hpp pv pf
    exact ret s4 fp h1 h2 hpp pv pf
end

end K


namespace K
open PySem L2 Lw Bg
abbrev s_fault_behind : Stmt := top 58
theorem sc_fault_behind : FnScope ["graph", "steps", "tops", "pile", "v", "a", "b"] ["graph", "steps", "tops", "pile"] (defScope s_fault_behind) := ⟨rfl, rfl, rfl, by decide +kernel, rfl, by decide +kernel, by decide +kernel⟩
inductive SFlt where
  | ok
  | step (k : Nat)
  | pile
  | place (v : Nat)
  | tie (a b : Int)
def laidF (R : RS) : List (List Int) := R.pile.map fun j => R.tops.getD j []
def sfF (n : Nat) (ts : List (Int × Int)) (ss : List Stp) (R : RS) : SFlt :=
  if R.tops.length < ss.length then .step R.tops.length
  else if laidF R = [[]] then
    match (List.range n).find? fun (v : Nat) => !decide (Stp.inn (v : Int) ∈ ss) with
    | some v => .place v
    | none => match ts.find? fun t => !decide (Stp.tie t.1 t.2 ∈ ss) with
      | some t => .tie t.1 t.2
      | none => .ok
  else .pile
def SFltV (H : Hp) (v : V) : SFlt → Prop
  | .ok => v = .non
  | .step k => ∃ p, v = .ref p ∧ H p = some (.tup [.str "step", .int (k : Int)])
  | .pile => ∃ p, v = .ref p ∧ H p = some (.tup [.str "pile"])
  | .place v' => ∃ p, v = .ref p ∧ H p = some (.tup [.str "place", .int (v' : Int)])
  | .tie a b => ∃ p, v = .ref p ∧ H p = some (.tup [.str "tie", .int a, .int b])
def bagD (b : List Int) : PyData := .list (b.map PyData.int)
theorem bag_can (b : List Int) : (bagD b).canLay0 = true := by
  have h := shaped_ints b
  unfold SeqAt.shaped at h
  rw [Bool.and_eq_true] at h
  exact h.1
theorem bag_depth (b : List Int) : (bagD b).depth ≤ 1 := by
  unfold bagD
  rw [PyData.depth]
  have := depth_all (k := 0) (f := PyData.int) (fun b => by simp [PyData.depth]) b
  omega
theorem shaped_bags (bs : List (List Int)) : SeqAt.shaped (.list (bs.map bagD)) = true := by
  unfold SeqAt.shaped
  rw [PyData.canLay0, can_all bag_can, PyData.depth, Bool.true_and]
  exact decide_eq_true (by have := depth_all bag_depth bs; omega)
theorem eqv_bags : ∀ xs ys : List (List Int), PyData.eqvAll (xs.map bagD) (ys.map bagD) = decide (xs = ys)
  | [], [] => by simp [PyData.eqvAll]
  | [], _ :: _ => by simp [PyData.eqvAll]
  | _ :: _, [] => by simp [PyData.eqvAll]
  | x :: xs, y :: ys => by
    rw [List.map_cons, List.map_cons, PyData.eqvAll, eqv_bags xs ys, show PyData.eqv (bagD x) (bagD y) = decide (x = y) from eqv_ints x y, Bool.eq_iff_iff]
    simp
theorem lst_bagD {K : PySem.W.Frag} {H : Hp} {v : V} {s : List Int} (h : LstV K H v s) : IsD K H v (bagD s) := by
  obtain ⟨p, rfl, h⟩ := h
  exact .lst h (IsDs.ints _)
def spFaultB (K : PySem.W.Frag) : Sp := fun vs H Q _ => ∃ (g : V) (n : Nat) (ts : List (Int × Int)) (a pt pp : Addr) (xs vt : List V) (ss : List Stp) (R : RS), vs = [g, .ref a, .ref pt, .ref pp] ∧ GraphV K H g n ts ∧ n ≤ 10 ∧ SqL K H a xs ∧ Paired (StpV K H) xs ss ∧ SqL K H pt vt ∧ Paired (LstV K H) vt R.tops ∧ SqL K H pp (natV R.pile) ∧ (∀ j ∈ R.pile, j < R.tops.length) ∧ R.pile.length ≤ 1000 ∧
  ∀ r H', Same H H' → SFltV H' r (sfF n ts ss R) → Q r H'
section
variable {P : Program} {w : World} {K : PySem.W.Frag} {mg : Str → Option Value} {base : Heap}
set_option maxHeartbeats 8000000 in
theorem ok_fault_behind (B : Bl mg) (d_fault_behind : Dn K mg "fault_behind" s_fault_behind ["graph", "steps", "tops", "pile"]) : FnOk P w K mg base CX0 1 d_fault_behind.f d_fault_behind.fd ["graph", "steps", "tops", "pile"] (spFaultB K) := by
  refine d_fault_behind.F.ok sc_fault_behind (fun vs H Q E h => ?_) (fun cdv A outer s H vs Q E hr h => ?_)
  · obtain ⟨g, n, ts, a, pt, pp, xs, vt, ss, R, rfl, _⟩ := h
    rfl
  obtain ⟨g, n, ts, a, pt, pp, xs, vt, ss, R, rfl, hG, n10, hA, pA, hV, pV, hPp, jl, l1000, q⟩ := h
  have hu : (A.deeper (PyProof.Rows.envOfC "fault_behind" (defScope s_fault_behind) s.heap.objs.size d_fault_behind.f cdv)).units + 64 < cLine := by have := hr.un; omega
  have hv : (A.deeper (PyProof.Rows.envOfC "fault_behind" (defScope s_fault_behind) s.heap.objs.size d_fault_behind.f cdv)).units + 65 < cLine := by have := hr.un; omega
  obtain ⟨pg, ta, rfl, hP, hT⟩ := id hG
  have lx := Paired.length pA
  have lv := Paired.length pV
  refine ⟨_, (pss_cons (ps_if (pt_cmpR op_lt (pe_callB (call_lenK (K := K) rfl) rfl B.len (by decide +kernel) (pa_cons (pv 2) pa_nil)) (pe_callB (call_lenK (K := K) rfl) rfl B.len (by decide +kernel) (pa_cons (pv 1) pa_nil)) (nomark _))
      (pss_one (ps_ret (pe_tupN (pa_cons pe_str (pa_cons (pe_callB (call_lenK (K := K) rfl) rfl B.len (by decide +kernel) (pa_cons (pv 2) pa_nil)) pa_nil)))))
      pss_nil)
      (pss_cons (ps_if (pt_cmpR (op_neDK (K := K) rfl hu) (pe_lc ["k", "tops"] [none, some 2]  (by kernel_rfl) rfl (pi_listK (K := K) rfl (pv 3)) (fun _ _ _ _ _ => (pg_name (i := 0) (show (["k", "tops"] : List Str).Nodup by decide +kernel) rfl (Or.inl rfl))) (fun _ _ _ _ _ => pts_nil) (fun _ _ _ _ _ => (pe_ix (ix_listK (K := K) rfl) (pv 1) (pv 0) (fun _ _ => rfl)))) (pe_lstN (pa_cons (pe_lstN pa_nil) pa_nil)) (nomark _))
      (pss_one (ps_ret (pe_tupN (pa_cons pe_str pa_nil))))
      pss_nil)
      (pss_cons (ps_for PassesOwn.never rfl (pi_range1 rfl B.range (pa_cons (pe_ix (ix_tupK (K := K) rfl) (pv 0) pe_int (fun _ _ => rfl)) pa_nil)) (pg_name (i := 4) sc_fault_behind.nd rfl (Or.inl rfl))
      (pss_one (ps_if (pt_cmpR (op_notInDK (K := K) rfl hv) (pe_tupN (pa_cons pe_str (pa_cons (pv 4) pa_nil))) (pv 1) (by with_unfolding_all rfl))
      (pss_one (ps_ret (pe_tupN (pa_cons pe_str (pa_cons (pv 4) pa_nil)))))
      pss_nil)))
      (pss_cons (ps_for PassesOwn.never rfl (pi_listK (K := K) rfl (pe_ix (ix_tupK (K := K) rfl) (pv 0) pe_int (fun _ _ => rfl))) (pg_tupK (K := K) (n := 2) rfl rfl (pgs_cons (pg_name (i := 5) sc_fault_behind.nd rfl (Or.inl rfl)) (pgs_cons (pg_name (i := 6) sc_fault_behind.nd rfl (Or.inl rfl)) pgs_nil)))
      (pss_one (ps_if (pt_cmpR (op_notInDK (K := K) rfl hv) (pe_tupN (pa_cons pe_str (pa_cons (pv 5) (pa_cons (pv 6) pa_nil)))) (pv 1) (by with_unfolding_all rfl))
      (pss_one (ps_ret (pe_tupN (pa_cons pe_str (pa_cons (pv 5) (pa_cons (pv 6) pa_nil))))))
      pss_nil)))
      (pss_one (ps_ret pe_non)))))), ?_⟩
  refine ⟨_, rfl, pt, _, rfl, .inl hV, _, rfl, a, _, rfl, .inl hA, _, _, rfl, rfl, _, rfl, ?_⟩
  rw [lv, lx]
  by_cases c1 : R.tops.length < ss.length
  · rw [decide_eq_true (show ((R.tops.length : Nat) : Int) < ((ss.length : Nat) : Int) by omega)]
    refine iteT ⟨_, rfl, pt, _, rfl, .inl hV, (by show 2 ≤ 1000; decide), fun p1 H1 n1 => q _ H1 n1.same ?_⟩
    unfold sfF
    rw [if_pos c1]
    rw [lv] at n1
    exact ⟨p1, rfl, n1.here⟩
  · rw [decide_eq_false (show ¬ ((R.tops.length : Nat) : Int) < ((ss.length : Nat) : Int) by omega)]
    refine iteF ?_
    refine ⟨_, rfl, pp, rfl, ⟨_, hPp⟩, ?_⟩
    refine lc_fmN (fun v => match v with | .int z => some (vt.getD z.toNat .non) | _ => none) hPp (by rw [List.length_map]; exact l1000) (fun v H8 N hv8 s8 hN => ?_) (fun H8 p9 H9 s8 n9 => ?_)
    · obtain ⟨j, hj, rfl⟩ := List.mem_map.mp hv8
      have jv : j < vt.length := by rw [lv]; exact jl j hj
      have hN' := hN H8 s8
      dsimp only at hN'
      rw [Int.toNat_natCast] at hN'
      refine ⟨_, rfl, _, rfl, pt, _, _, _, rfl, rfl, s8.seq hV, atI_nat (List.getElem?_eq_getElem jv), ?_⟩
      rw [List.getD_eq_getElem?_getD, List.getElem?_eq_getElem jv] at hN'
      exact hN'
    have e9 : (natV R.pile).filterMap (fun v => match v with | .int z => some (vt.getD z.toNat .non) | _ => none) = R.pile.map fun j => vt.getD j .non := by
      unfold natV
      rw [List.filterMap_map]
      refine (fm_some fun j _ => ?_)
      show some (vt.getD ((j : Int)).toNat V.non) = _
      rw [Int.toNat_natCast]
    rw [e9] at n9
    have s09 := s8.trans n9.same
    have laid : ∀ l : List Nat, (∀ j ∈ l, j < R.tops.length) → Paired (LstV K H9) (l.map fun j => vt.getD j .non) (l.map fun j => R.tops.getD j []) := fun l => by
      induction l with
      | nil => exact fun _ => .nil
      | cons j r ih =>
        intro h
        have jl := h j List.mem_cons_self
        obtain ⟨x, hx, p, e, hb⟩ := paired_getr pV (List.getElem?_eq_getElem jl)
        refine .cons ?_ (ih fun i hi => h i (List.mem_cons_of_mem _ hi))
        dsimp only
        rw [List.getD_eq_getElem?_getD, hx, List.getD_eq_getElem?_getD, List.getElem?_eq_getElem jl]
        exact ⟨p, e, s09.seq hb⟩
    refine ⟨(by show 0 ≤ 1000; decide), fun p10 H10 n10' => ⟨(by show 1 ≤ 1000; decide), fun p11 H11 n11 => ?_⟩⟩
    have s9_11 := n10'.same.trans n11.same
    refine ⟨.list ((laidF R).map bagD), .list ([[]].map bagD), .lst (SqL.of (s9_11 _ _ n9.here)) (isDs_of (fun _ _ h => lst_bagD h) (Paired.mapP (laid R.pile jl) fun _ _ ⟨p, e, hb⟩ => ⟨p, e, s9_11.seq hb⟩)), .lst (SqL.of n11.here) (.cons (.lst (SqL.of (n11.same _ _ n10'.here)) .nil) .nil), shaped_bags _, shaped_bags [[]], _, rfl, ?_⟩
    rw [if_pos rfl, PyData.eqv, eqv_bags]
    have s11 := s09.trans s9_11
    by_cases c2 : laidF R = [[]]
    · rw [decide_eq_true c2]
      refine iteF ?_
      refine ⟨_, rfl, pg, _, _, _, rfl, rfl, s11.tupq hP, rfl, _, rfl, by omega, by omega, ?_⟩
      rw [Int.toNat_natCast]
      refine for_range (n := n) (fun i σ H' => (∃ vv : Option V, σ = [some (.ref pg), some (.ref a), some (.ref pt), some (.ref pp), vv, none, none]) ∧ Same H H' ∧ ∀ j, j < i → Stp.inn (j : Int) ∈ ss) ⟨⟨none, rfl⟩, s11, fun j h => absurd h (Nat.not_lt_zero _)⟩ ?_ ?_
      · rintro i σ H12 hi ⟨⟨vv, rfl⟩, s12, ok⟩
        have ei : (0 : Int) + (i : Int) = (i : Int) := by omega
        rw [ei]
        refine ⟨_, rfl, (by show 2 ≤ 1000; decide), fun p13 H13 n13 => ?_⟩
        have s13 := s12.trans n13.same
        refine ⟨_, rfl, notInStp (s := .inn (i : Int)) (s13.seq hA) (Paired.mapP pA fun _ _ h => StpV.same s13 h) (SqT.of n13.here) ⟨_, rfl, ?_⟩⟩
        by_cases c3 : Stp.inn (i : Int) ∈ ss
        · rw [decide_eq_true c3]
          refine iteF ⟨⟨_, rfl⟩, s13, fun j hj => ?_⟩
          by_cases e : j = i
          · rw [e]; exact c3
          · exact ok j (by omega)
        · rw [decide_eq_false c3]
          refine iteT ⟨_, rfl, (by show 2 ≤ 1000; decide), fun p14 H14 n14 => q _ H14 (s13.trans n14.same) ?_⟩
          unfold sfF
          have ef : (List.range n).find? (fun (v : Nat) => !decide (Stp.inn (v : Int) ∈ ss)) = some i := List.find?_range_eq_some.mpr ⟨by rw [decide_eq_false c3]; rfl, List.mem_range.mpr hi, fun j hj => by rw [decide_eq_true (ok j hj)]; rfl⟩
          rw [if_neg c1, if_pos c2, ef]
          exact ⟨p14, rfl, n14.here⟩
      · rintro σ H12 ⟨⟨vv, rfl⟩, s12, ok⟩
        have ef : (List.range n).find? (fun (v : Nat) => !decide (Stp.inn (v : Int) ∈ ss)) = none := List.find?_eq_none.mpr fun j hj => by rw [decide_eq_true (ok j (List.mem_range.mp hj))]; simp
        obtain ⟨txs, htx, ptx, ltx⟩ := id (hT.same s12)
        have ltl := Paired.length ptx
        refine ⟨_, rfl, pg, _, _, _, rfl, rfl, s12.tupq hP, rfl, ta, rfl, ⟨_, htx⟩, ?_⟩
        refine for_list (xs := txs) (fun i σ H' => (∃ va vb : Option V, σ = [some (.ref pg), some (.ref a), some (.ref pt), some (.ref pp), vv, va, vb]) ∧ Same H12 H' ∧ ∀ t ∈ ts.take i, Stp.tie t.1 t.2 ∈ ss) ⟨⟨none, none, rfl⟩, Same.refl _, fun t h => absurd h (by simp)⟩ (fun i σ H' _ ⟨_, s, _⟩ => s.seq htx) ?_ ?_
        · rintro i x σ H13 hx ⟨⟨va, vb, rfl⟩, s13, ok2⟩
          obtain ⟨t, ht, ⟨px, rfl, hpx⟩⟩ := paired_get ptx hx
          obtain ⟨til, tix⟩ := List.getElem?_eq_some_iff.mp ht
          have et : ts.take (i + 1) = ts.take i ++ [t] := by rw [List.take_succ_eq_append_getElem til, tix]
          refine ⟨px, _, rfl, s13.tupq hpx, rfl, _, _, rfl, _, _, rfl, rfl, ?_⟩
          refine ⟨_, rfl, _, rfl, (by show 3 ≤ 1000; decide), fun p14 H14 n14 => ?_⟩
          have s14 := (s12.trans s13).trans n14.same
          refine ⟨_, rfl, notInStp (s := .tie t.1 t.2) (s14.seq hA) (Paired.mapP pA fun _ _ h => StpV.same s14 h) (SqT.of n14.here) ⟨_, rfl, ?_⟩⟩
          by_cases c3 : Stp.tie t.1 t.2 ∈ ss
          · rw [decide_eq_true c3]
            refine iteF ⟨⟨_, _, rfl⟩, s13.trans n14.same, fun t' h' => ?_⟩
            rw [et] at h'
            rcases List.mem_append.mp h' with h' | h'
            · exact ok2 t' h'
            · rw [List.mem_singleton.mp h']; exact c3
          · rw [decide_eq_false c3]
            refine iteT ⟨_, rfl, _, rfl, (by show 3 ≤ 1000; decide), fun p15 H15 n15 => q _ H15 (s14.trans n15.same) ?_⟩
            unfold sfF
            have eg : ts.find? (fun t => !decide (Stp.tie t.1 t.2 ∈ ss)) = some t := by
              rw [← List.take_append_drop (i + 1) ts, et, List.append_assoc, List.find?_append, List.find?_eq_none.mpr (fun t' h' => by rw [decide_eq_true (ok2 t' h')]; simp)]
              rw [Option.none_or]
              show List.find? _ (t :: _) = _
              rw [List.find?_cons, decide_eq_false c3]; rfl
            rw [if_neg c1, if_pos c2, ef, eg]
            exact ⟨p15, rfl, n15.here⟩
        · rintro σ H13 ⟨⟨va, vb, rfl⟩, s13, ok2⟩
          rw [ltl, List.take_length] at ok2
          refine q _ H13 (s12.trans s13) ?_
          unfold sfF
          have eg : ts.find? (fun t => !decide (Stp.tie t.1 t.2 ∈ ss)) = none := List.find?_eq_none.mpr fun t h => by rw [decide_eq_true (ok2 t h)]; simp
          rw [if_neg c1, if_pos c2, ef, eg]
          exact rfl
    · rw [decide_eq_false c2]
      refine iteT ⟨(by show 1 ≤ 1000; decide), fun p12 H12 n12 => q _ H12 (s11.trans n12.same) ?_⟩
      unfold sfF
      rw [if_neg c1, if_neg c2]
      exact ⟨p12, rfl, n12.here⟩
theorem end_inv {n : Nat} {ts : List (Int × Int)} {ss : List Stp} (n10 : n ≤ 10) : ∃ i, i ≤ ss.length ∧ RunI i (endR n ts ss) ∧ (i = ss.length ∨ i < ss.length) := by
  have h : ∀ m, m ≤ ss.length → ∃ i, i ≤ m ∧ RunI i (runR n ts ss m).1 := fun m => by
    induction m with
    | zero => exact fun _ => ⟨0, Nat.le_refl _, run_inv n10 rfl⟩
    | succ m ih =>
      intro hm
      by_cases c : (runR n ts ss (m + 1)).2 = true
      · exact ⟨m + 1, Nat.le_refl _, run_inv n10 c⟩
      · obtain ⟨i, hi, I⟩ := ih (by omega)
        refine ⟨i, by omega, ?_⟩
        have e : (runR n ts ss (m + 1)).1 = (runR n ts ss m).1 := by
          have e : runR n ts ss (m + 1) = if (runR n ts ss m).2 = true then
            (match stepR n ts ss m (runR n ts ss m).1 with
            | some r => (r, true)
            | none => ((runR n ts ss m).1, false))
          else ((runR n ts ss m).1, false) := rfl
          rw [e] at c ⊢
          by_cases d : (runR n ts ss m).2 = true
          · rw [if_pos d] at c ⊢
            cases z : stepR n ts ss m (runR n ts ss m).1 with
            | none => rfl
            | some r => rw [z] at c; exact absurd rfl c
          · rw [if_neg d]
        rw [e]; exact I
  obtain ⟨i, hi, I⟩ := h ss.length (Nat.le_refl _)
  exact ⟨i, hi, I, by omega⟩
end

end K


namespace K
open PySem L2 Lw Bg
abbrev s_run_whole : Stmt := top 59
theorem sc_run_whole : FnScope ["graph", "steps", "tops", "feeds", "pile"] ["graph", "steps"] (defScope s_run_whole) := ⟨rfl, rfl, rfl, by decide +kernel, rfl, by decide +kernel, by decide +kernel⟩
abbrev s_refuse_wide : Stmt := top 61
theorem sc_refuse_wide : FnScope ["bags"] ["bags"] (defScope s_refuse_wide) := ⟨rfl, rfl, rfl, by decide +kernel, rfl, by decide +kernel, by decide +kernel⟩
def spRunW (K : PySem.W.Frag) : Sp := fun vs H Q _ => ∃ (g : V) (n : Nat) (ts : List (Int × Int)) (a : Addr) (xs : List V) (ss : List Stp), vs = [g, .ref a] ∧ GraphV K H g n ts ∧ n ≤ 10 ∧ SqL K H a xs ∧ Paired (StpV K H) xs ss ∧ ss.length ≤ 900 ∧ sfF n ts ss (endR n ts ss) = .ok ∧
  ∀ r pt pf vt fs H', Same H H' → H' r = some (.tup [.ref pt, .ref pf]) → H pt = none → H pf = none → H' pt = some (.lst vt) → H' pf = some (.lst (fs.map V.ref)) → Paired (BagL [pt, pf] K H') vt (endR n ts ss).tops → Paired (NatL [pt, pf] H') fs (endR n ts ss).feeds → Q (.ref r) H'
theorem sf_full {n : Nat} {ts : List (Int × Int)} {ss : List Stp} (n10 : n ≤ 10) (h : sfF n ts ss (endR n ts ss) = .ok) : RunI ss.length (endR n ts ss) := by
  obtain ⟨i, il, I, _⟩ := end_inv (n := n) (ts := ts) (ss := ss) n10
  have e : ¬ (endR n ts ss).tops.length < ss.length := fun c => by
    unfold sfF at h
    rw [if_pos c] at h
    cases h
  rw [I.tl] at e
  have : i = ss.length := by omega
  exact this ▸ I
section
variable {P : Program} {w : World} {K : PySem.W.Frag} {mg : Str → Option Value} {base : Heap}
set_option maxHeartbeats 8000000 in
theorem ok_run_whole (B : Bl mg) (U : Used w K mg) (d_is_whole : Dn K mg "is_whole" s_is_whole ["thing"]) (d_is_below : Dn K mg "is_below" s_is_below ["n", "thing"]) (d_joint : Dn K mg "joint" s_joint ["one", "other"]) (d_less : Dn K mg "less" s_less ["one", "other"]) (d_bag_behind : Dn K mg "bag_behind" s_bag_behind ["graph", "done", "step", "used"]) (d_run : Dn K mg "run" s_run ["graph", "steps"]) (d_fault_behind : Dn K mg "fault_behind" s_fault_behind ["graph", "steps", "tops", "pile"]) (d_run_whole : Dn K mg "run_whole" s_run_whole ["graph", "steps"]) : FnOk P w K mg base CX0 5 d_run_whole.f d_run_whole.fd ["graph", "steps"] (spRunW K) := by
  have G_run : FnOk P w K mg base CX0 4 _ _ _ _ := ok_run B U d_is_whole d_is_below d_joint d_less d_bag_behind d_run
  have G_fault_behind : FnOk P w K mg base CX0 4 _ _ _ _ := (ok_fault_behind B d_fault_behind).mono (by decide)
  refine d_run_whole.F.ok sc_run_whole (fun vs H Q E h => ?_) (fun cdv A outer s H vs Q E hr h => ?_)
  · obtain ⟨g, n, ts, a, xs, ss, rfl, _⟩ := h
    rfl
  obtain ⟨g, n, ts, a, xs, ss, rfl, hG, n10, hA, pA, l900, okS, q⟩ := h
  refine ⟨_, (pss_cons (ps_asg (pe_call G_run hr rfl d_run.m d_run.F.kp d_run.b .nil pass0 (pa_cons (pv 0) (pa_cons (pv 1) pa_nil))) (pg_tupK (K := K) (n := 3) rfl rfl (pgs_cons (pg_name (i := 2) sc_run_whole.nd rfl (Or.inl rfl)) (pgs_cons (pg_name (i := 3) sc_run_whole.nd rfl (Or.inl rfl)) (pgs_cons (pg_name (i := 4) sc_run_whole.nd rfl (Or.inl rfl)) pgs_nil)))))
      (pss_cons (ps_if (pt_cmpR op_notN (pe_call G_fault_behind hr rfl d_fault_behind.m d_fault_behind.F.kp d_fault_behind.b .nil pass0 (pa_cons (pv 0) (pa_cons (pv 1) (pa_cons (pv 2) (pa_cons (pv 4) pa_nil))))) pe_non (nomark _))
      (pss_one ps_never)
      pss_nil)
      (pss_one (ps_ret (pe_tupN (pa_cons (pv 2) (pa_cons (pv 3) pa_nil))))))), ?_⟩
  have I := sf_full n10 okS
  have pl := I.pl
  refine ⟨_, rfl, _, rfl, g, n, ts, a, xs, ss, rfl, hG, n10, hA, pA, l900, fun r pt pf pp vt fs H1 s1 hr1 ft ff fp ht hf hp pv pf' => ?_⟩
  refine ⟨r, _, rfl, SqT.of hr1, rfl, _, _, rfl, _, _, rfl, _, _, rfl, rfl, ?_⟩
  refine ⟨_, rfl, _, rfl, _, rfl, _, rfl, g, n, ts, a, pt, pp, xs, vt, ss, endR n ts ss, rfl, hG.same s1, n10, s1.seq hA, Paired.mapP pA fun _ _ h => h.same s1, SqL.of ht, Paired.mapP pv fun _ _ h => h.l, SqL.of hp.1, (fun j hj => by rw [I.tl]; exact I.lt j hj), by omega, fun v H2 s2 fv => ?_⟩
  rw [okS] at fv
  obtain rfl : v = .non := fv
  refine ⟨rfl, _, rfl, iteF ?_⟩
  refine ⟨_, rfl, _, rfl, (by show 2 ≤ 1000; decide), fun p3 H3 n3 => ?_⟩
  have s13 := s2.trans n3.same
  exact q p3 pt pf vt fs H3 (s1.trans s13) n3.here ft ff (s13 _ _ ht) (s13 _ _ hf) (Paired.mapP pv fun _ _ h => h.same s13) (Paired.mapP pf' fun _ _ h => h.same s13)
end

def spNoStep (K : PySem.W.Frag) (nb : Addr) : Sp := fun vs H Q E => ∃ (g : V) (n : Nat) (ts : List (Int × Int)) (a : Addr) (xs : List V) (ss : List Stp), vs = [g, .ref a] ∧ GraphV K H g n ts ∧ n ≤ 10 ∧ SqL K H a xs ∧ Paired (StpV K H) xs ss ∧ ss.length ≤ 900 ∧ sfF n ts ss (endR n ts ss) ≠ .ok ∧ ∀ p H', Same H H' → H' p = none → E (.ref p) (some nb) H'
def spNoTree (K : PySem.W.Frag) (nb : Addr) : Sp := fun vs H Q E => ∃ (g : V) (n : Nat) (ts : List (Int × Int)) (a : Addr) (rs : List Row), vs = [g, .ref a] ∧ n ≤ 1000 ∧ GraphV K H g n ts ∧ RowsAt K H a rs ∧ faultF n ts rs ≠ .ok ∧ ∀ p H', Same H H' → H' p = none → E (.ref p) (some nb) H'
def spTooW (K : PySem.W.Frag) (nb : Addr) : Sp := fun vs H Q E => ∃ (a : Addr) (xs : List V) (rs : List Row), vs = [.ref a] ∧ SqL K H a xs ∧ Paired (fun v r => ∃ q, v = .ref q ∧ SqL K H q (r.2.map V.int)) xs rs ∧ rs.length ≤ 900 ∧ (∃ r ∈ rs, 4 < r.2.length) ∧ ∀ p H', Same H H' → H' p = none → E (.ref p) (some nb) H'
def spWideT (K : PySem.W.Frag) (nb : Addr) : Sp := fun vs H Q E => ∃ (g : V) (n : Nat) (ts : List (Int × Int)) (a : Addr) (rs : List Row), vs = [g, .ref a] ∧ n ≤ 10 ∧ GraphV K H g n ts ∧ RowsAt K H a rs ∧ rs.length ≤ 900 ∧ faultF n ts rs = .ok ∧ (∃ r ∈ rs, 4 < r.2.length) ∧ ∀ p H', Same H H' → H' p = none → E (.ref p) (some nb) H'
theorem flt_some {H : Hp} {v : V} {f : Flt} (h : f ≠ .ok) (hv : FltV H v f) : v ≠ .non := fun z => by
  subst z
  cases f with
  | ok => exact h rfl
  | _ =>
    obtain ⟨p, e, _⟩ := hv
    cases e
theorem sflt_some {H : Hp} {v : V} {f : SFlt} (h : f ≠ .ok) (hv : SFltV H v f) : v ≠ .non := fun z => by
  subst z
  cases f with
  | ok => exact h rfl
  | _ =>
    obtain ⟨p, e, _⟩ := hv
    cases e
section
variable {P : Program} {w : World} {K : PySem.W.Frag} {mg : Str → Option Value} {base : Heap}
set_option maxHeartbeats 4000000 in
theorem okX_run_whole (B : Bl mg) (C : Cl K mg) (U : Used w K mg) (d_is_whole : Dn K mg "is_whole" s_is_whole ["thing"]) (d_is_below : Dn K mg "is_below" s_is_below ["n", "thing"]) (d_joint : Dn K mg "joint" s_joint ["one", "other"]) (d_less : Dn K mg "less" s_less ["one", "other"]) (d_bag_behind : Dn K mg "bag_behind" s_bag_behind ["graph", "done", "step", "used"]) (d_run : Dn K mg "run" s_run ["graph", "steps"]) (d_fault_behind : Dn K mg "fault_behind" s_fault_behind ["graph", "steps", "tops", "pile"]) (d_run_whole : Dn K mg "run_whole" s_run_whole ["graph", "steps"]) : FnOk P w K mg base (CXE P w) 5 d_run_whole.f d_run_whole.fd ["graph", "steps"] (spNoStep K C.NoSteps) := by
  have G_run : FnOk P w K mg base CX0 4 _ _ _ _ := ok_run B U d_is_whole d_is_below d_joint d_less d_bag_behind d_run
  have G_fault_behind : FnOk P w K mg base CX0 4 _ _ _ _ := (ok_fault_behind B d_fault_behind).mono (by decide)
  refine d_run_whole.F.okE sc_run_whole (fun vs H Q E h => ?_) (fun cdv A outer s H vs Q E hr h => ?_)
  · obtain ⟨g, n, ts, a, xs, ss, rfl, _⟩ := h
    rfl
  obtain ⟨g, n, ts, a, xs, ss, rfl, hG, n10, hA, pA, l900, bad, q⟩ := h
  refine ⟨_, (pss_cons (ps_asg (pe_call G_run hr rfl d_run.m d_run.F.kp d_run.b .nil pass0 (pa_cons (pv 0) (pa_cons (pv 1) pa_nil))) (pg_tupK (K := K) (n := 3) rfl rfl (pgs_cons (pg_name (i := 2) sc_run_whole.nd rfl (Or.inl rfl)) (pgs_cons (pg_name (i := 3) sc_run_whole.nd rfl (Or.inl rfl)) (pgs_cons (pg_name (i := 4) sc_run_whole.nd rfl (Or.inl rfl)) pgs_nil)))))
      (pss_cons (ps_if (pt_cmpR op_notN (pe_call G_fault_behind hr rfl d_fault_behind.m d_fault_behind.F.kp d_fault_behind.b .nil pass0 (pa_cons (pv 0) (pa_cons (pv 1) (pa_cons (pv 2) (pa_cons (pv 4) pa_nil))))) pe_non (nomark _))
      (pss_one (ps_raise hr.hd rfl C.m_NoSteps C.k_NoSteps (pa_cons pe_str pa_nil)))
      pss_nil)
      pss_never)), ?_⟩
  obtain ⟨i, il, I, _⟩ := end_inv (n := n) (ts := ts) (ss := ss) n10
  have pl := I.pl
  refine ⟨_, rfl, _, rfl, g, n, ts, a, xs, ss, rfl, hG, n10, hA, pA, l900, fun r pt pf pp vt fs H1 s1 hr1 ft ff fp ht hf hp pv pf' => ?_⟩
  refine ⟨r, _, rfl, SqT.of hr1, rfl, _, _, rfl, _, _, rfl, _, _, rfl, rfl, ?_⟩
  refine ⟨_, rfl, _, rfl, _, rfl, _, rfl, g, n, ts, a, pt, pp, xs, vt, ss, endR n ts ss, rfl, hG.same s1, n10, s1.seq hA, Paired.mapP pA fun _ _ h => h.same s1, SqL.of ht, Paired.mapP pv fun _ _ h => h.l, SqL.of hp.1, (fun j hj => by rw [I.tl]; exact I.lt j hj), by omega, fun v H2 s2 fv => ?_⟩
  have vn : v ≠ .non := sflt_some bad fv
  refine ⟨rfl, _, rfl, ?_⟩
  rw [show (!decide (v = V.non)) = true by rw [decide_eq_false vn]; rfl]
  exact iteT ⟨Nat.le_of_lt (small1000 (by decide)), fun p hp => q p H2 (s1.trans s2) hp⟩
set_option maxHeartbeats 4000000 in
theorem okX_refuse_wide (B : Bl mg) (Ct : Cts mg) (C : Cl K mg) (d_refuse_wide : Dn K mg "refuse_wide" s_refuse_wide ["bags"]) : FnOk P w K mg base (CXE P w) 1 d_refuse_wide.f d_refuse_wide.fd ["bags"] (spTooW K C.TooWide) := by
  refine d_refuse_wide.F.okE sc_refuse_wide (fun vs H Q E h => ?_) (fun cdv A outer s H vs Q E hr h => ?_)
  · obtain ⟨a, xs, rs, rfl, _⟩ := h
    rfl
  obtain ⟨a, xs, rs, rfl, hx, hp, l9, ⟨r0, hr0, w0⟩, q⟩ := h
  have lx := Paired.length hp
  refine ⟨_, (pss_cons (ps_if (pt_truthK (K := K) rfl (pe_callB (call_anyK (K := K) rfl rfl) rfl B.any (by decide +kernel) (pa_cons (pe_lc ["bag"] [none]  (by kernel_rfl) rfl (pi_listK (K := K) rfl (pv 0)) (fun _ _ _ _ _ => (pg_name (i := 0) (show (["bag"] : List Str).Nodup by decide +kernel) rfl (Or.inl rfl))) (fun _ _ _ _ _ => pts_nil) (fun _ _ _ _ _ => (pe_cmpR op_gt (pe_callB (call_lenK (K := K) rfl) rfl B.len (by decide +kernel) (pa_cons (pv 0) pa_nil)) (pe_glob (v := .int 4) rfl Ct.m_MOST_IN_A_BAG Ct.r_MOST_IN_A_BAG) (nomark _)))) pa_nil)) (fun _ => rfl))
      (pss_one (ps_raise hr.hd rfl C.m_TooWide C.k_TooWide (pa_cons pe_str pa_nil)))
      pss_nil)
      pss_never), ?_⟩
  refine ⟨_, rfl, a, rfl, ⟨_, hx⟩, ?_⟩
  refine lc_ixN (fun j => some (.bl (decide (4 < (rs.getD j (none, [])).2.length)))) hx (by omega) (fun j x H3 N hj s3 hN => ?_) (fun H3 p H4 s3 nw => ?_)
  · obtain ⟨r, hr1, ⟨b, rfl, hb⟩⟩ := paired_get hp hj
    refine ⟨_, rfl, b, _, rfl, .inl (s3.seq hb), _, _, rfl, rfl, ?_⟩
    dsimp only
    have e : decide ((4 : Int) < (((r.2.map V.int).length : Nat) : Int)) = decide (4 < (rs.getD j (none, [])).2.length) := by
      rw [List.getD_eq_getElem?_getD, hr1, List.length_map]
      exact decide_eq_decide.mpr (by show _ ↔ 4 < r.2.length; omega)
    rw [e]
    exact hN H3 s3
  have e1 : (List.range xs.length).filterMap (fun j => some (V.bl (decide (4 < (rs.getD j (none, [])).2.length)))) = ((List.range rs.length).map fun j => decide (4 < (rs.getD j (none, [])).2.length)).map V.bl := by
    rw [lx, List.map_map]
    exact fm_some fun _ _ => rfl
  rw [e1] at nw
  refine ⟨p, _, _, rfl, SqL.of nw.here, Truths.bls _, _, rfl, ?_⟩
  have e2 : ((List.range rs.length).map fun j => decide (4 < (rs.getD j (none, [])).2.length)).any id = true := by
    obtain ⟨j, hj, rfl⟩ := List.getElem_of_mem hr0
    refine List.any_eq_true.mpr ⟨_, List.mem_map.mpr ⟨j, List.mem_range.mpr hj, rfl⟩, ?_⟩
    rw [List.getD_eq_getElem?_getD, List.getElem?_eq_getElem hj]
    exact decide_eq_true w0
  rw [e2]
  exact iteT ⟨Nat.le_of_lt (small1000 (by decide)), fun p hp => q p H4 (s3.trans nw.same) hp⟩
end

end K


namespace K
open PySem L2 Lw Bg
abbrev s_weights_of : Stmt := top 26
theorem sc_weights_of : FnScope ["many", "weights"] ["many", "weights"] (defScope s_weights_of) := ⟨rfl, rfl, rfl, by decide +kernel, rfl, by decide +kernel, by decide +kernel⟩
abbrev s_costs_of : Stmt := top 27
theorem sc_costs_of : FnScope ["ties", "costs"] ["ties", "costs"] (defScope s_costs_of) := ⟨rfl, rfl, rfl, by decide +kernel, rfl, by decide +kernel, by decide +kernel⟩
def bigN : Int := 1000000000000000000000000000000
/-- weights as they may be told -/
def WtV (K : PySem.W.Frag) (H : Hp) (v : V) (o : Option (List Int)) : Prop := match o with
  | none => v = .non
  | some ws => ∃ a, v = .ref a ∧ SqL K H a (ws.map V.int)
def wtOk (m : Nat) : Option (List Int) → Bool
  | none => true
  | some ws => decide (ws.length = m) && ws.all fun x => decide (0 ≤ x) && decide (x < bigN)
def wtL (m : Nat) : Option (List Int) → List Int
  | none => List.replicate m 1
  | some ws => ws
def btF : V → Option V
  | .int y => some (.bl (belowF bigN (some y)))
  | _ => none
theorem fm_bt : ∀ ws : List Int, (ws.map V.int).filterMap btF = (ws.map fun y => belowF bigN (some y)).map V.bl
  | [] => rfl
  | x :: r => by
    rw [List.map_cons, List.filterMap_cons_some (show btF (V.int x) = some (.bl (belowF bigN (some x))) from rfl), fm_bt r]
    rfl
theorem below_b (x : Int) : belowF bigN (some x) = (decide (0 ≤ x) && decide (x < bigN)) := by
  unfold belowF
  dsimp only
  exact Bool.decide_and ..
def spWeights (K : PySem.W.Frag) : Sp := fun vs H Q _ => ∃ (m : Nat) (v : V) (o : Option (List Int)), vs = [.int m, v] ∧ WtV K H v o ∧ m ≤ 100 ∧ (∀ ws, o = some ws → ws.length ≤ 200) ∧ wtOk m o = true ∧ ∀ p H', Same H H' → H p = none → H' p = some (.lst ((wtL m o).map V.int)) → Q (.ref p) H'
def spWeightsX (K : PySem.W.Frag) (nw : Addr) : Sp := fun vs H Q E => ∃ (m : Nat) (ws : List Int) (a : Addr), vs = [.int m, .ref a] ∧ SqL K H a (ws.map V.int) ∧ m ≤ 100 ∧ ws.length ≤ 200 ∧ wtOk m (some ws) = false ∧ ∀ p H', Same H H' → H' p = none → E (.ref p) (some nw) H'
section
variable {P : Program} {w : World} {K : PySem.W.Frag} {mg : Str → Option Value} {base : Heap}
set_option maxHeartbeats 4000000 in
theorem ok_weights_of (B : Bl mg) (Ct : Cts mg) (d_is_whole : Dn K mg "is_whole" s_is_whole ["thing"]) (d_is_below : Dn K mg "is_below" s_is_below ["n", "thing"]) (d_weights_of : Dn K mg "weights_of" s_weights_of ["many", "weights"]) : FnOk P w K mg base CX0 3 d_weights_of.f d_weights_of.fd ["many", "weights"] (spWeights K) := by
  have G_is_below : FnOk P w K mg base CX0 2 _ _ _ _ := ok_is_below B d_is_whole d_is_below
  refine d_weights_of.F.ok sc_weights_of (fun vs H Q E h => ?_) (fun cdv A outer s H vs Q E hr h => ?_)
  · obtain ⟨m, v, o, rfl, _⟩ := h
    rfl
  obtain ⟨m, v, o, rfl, hV, m100, hw, ok, q⟩ := h
  refine ⟨_, (pss_cons (ps_if (pt_cmpR op_isN (pv 1) pe_non (nomark _))
      (pss_one (ps_ret (pe_lc ["k"] [none]  (by kernel_rfl) rfl (pi_range1 rfl B.range (pa_cons (pv 0) pa_nil)) (fun _ _ _ _ _ => (pg_name (i := 0) (show (["k"] : List Str).Nodup by decide +kernel) rfl (Or.inl rfl))) (fun _ _ _ _ _ => pts_nil) (fun _ _ _ _ _ => pe_int))))
      pss_nil)
      (pss_cons (ps_if (PW.pt (pw_or (pt_cmpR op_ne (pe_callB (call_lenK (K := K) rfl) rfl B.len (by decide +kernel) (pa_cons (pv 1) pa_nil)) (pv 0) (nomark _)) (pw_or1 (pt_not (pt_truthK (K := K) rfl (pe_callB (call_allK (K := K) rfl rfl) rfl B.all (by decide +kernel) (pa_cons (pe_lc ["weight"] [none]  (by kernel_rfl) rfl (pi_listK (K := K) rfl (pv 1)) (fun _ _ _ _ _ => (pg_name (i := 0) (show (["weight"] : List Str).Nodup by decide +kernel) rfl (Or.inl rfl))) (fun _ _ _ _ _ => pts_nil) (fun _ _ _ _ _ => (pe_call G_is_below hr rfl d_is_below.m d_is_below.F.kp d_is_below.b .nil pass0 (pa_cons (pe_glob (v := .int 1000000000000000000000000000000) rfl Ct.m_BEYOND_WEIGHTS Ct.r_BEYOND_WEIGHTS) (pa_cons (pv 0) pa_nil))))) pa_nil)) (fun _ => rfl))))))
      (pss_one ps_never)
      pss_nil)
      (pss_one (ps_ret (pe_callTy (call_listN (K := K) rfl) rfl B.list (by decide +kernel) (pa_cons (pv 1) pa_nil)))))), ?_⟩
  cases o with
  | none =>
    obtain rfl : v = .non := hV
    refine ⟨_, rfl, rfl, _, rfl, iteT ?_⟩
    refine ⟨_, rfl, _, rfl, by omega, by omega, ?_⟩
    rw [Int.toNat_natCast]
    refine lc_fmRN (fun _ => some (V.int 1)) (by omega) (fun i H' N hi s1 hN => hN H' s1) (fun H1 p H2 s1 n2 => q p H2 (s1.trans n2.same) (s1.free n2.fresh) ?_)
    rw [n2.here]
    show some (HO.lst _) = some (HO.lst ((List.replicate m (1 : Int)).map V.int))
    rw [fm_some (f := fun _ => some (V.int 1)) (g := fun _ => V.int 1) (fun _ _ => rfl), List.map_const', List.length_range, List.map_replicate]
  | some ws =>
    obtain ⟨a, rfl, hA⟩ := hV
    have lw := hw ws rfl
    have ok' := ok
    unfold wtOk at ok'
    rw [Bool.and_eq_true, decide_eq_true_iff, List.all_eq_true] at ok'
    obtain ⟨e1, e2⟩ := ok'
    refine ⟨_, rfl, rfl, _, rfl, iteF ?_⟩
    refine ⟨_, rfl, a, _, rfl, .inl hA, _, rfl, rfl, _, rfl, ?_⟩
    rw [List.length_map, e1, decide_eq_true rfl]
    refine iteF ⟨_, rfl, a, rfl, ⟨_, hA⟩, ?_⟩
    refine lc_fmN btF hA (by rw [List.length_map]; omega) (fun x G5 N hx s5 hN5 => ?_) (fun G5 p6 H6 s5 n6 => ?_)
    · obtain ⟨y, hy, rfl⟩ := List.mem_map.mp hx
      exact ⟨_, rfl, bigN, some y, rfl, hN5 G5 s5⟩
    rw [fm_bt] at n6
    refine ⟨p6, _, _, rfl, SqL.of n6.here, Truths.bls _, ?_⟩
    have e7 : (ws.map fun y => belowF bigN (some y)).all id = true := by
      rw [List.all_map, List.all_eq_true]
      intro x hx
      show belowF bigN (some x) = true
      rw [below_b]
      exact e2 x hx
    rw [e7]
    refine ⟨_, rfl, iteF ⟨_, rfl, a, _, rfl, .inl ((s5.trans n6.same).seq hA), fun p8 H8 n8 => q p8 H8 (s5.trans (n6.same.trans n8.same)) ((s5.trans n6.same).free n8.fresh) n8.here⟩⟩
set_option maxHeartbeats 4000000 in
theorem okX_weights_of (B : Bl mg) (Ct : Cts mg) (C : Cl K mg) (d_is_whole : Dn K mg "is_whole" s_is_whole ["thing"]) (d_is_below : Dn K mg "is_below" s_is_below ["n", "thing"]) (d_weights_of : Dn K mg "weights_of" s_weights_of ["many", "weights"]) : FnOk P w K mg base (CXE P w) 3 d_weights_of.f d_weights_of.fd ["many", "weights"] (spWeightsX K C.NoWeights) := by
  have G_is_below : FnOk P w K mg base CX0 2 _ _ _ _ := ok_is_below B d_is_whole d_is_below
  refine d_weights_of.F.okE sc_weights_of (fun vs H Q E h => ?_) (fun cdv A outer s H vs Q E hr h => ?_)
  · obtain ⟨m, ws, a, rfl, _⟩ := h
    rfl
  obtain ⟨m, ws, a, rfl, hA, m100, lw, no, q⟩ := h
  refine ⟨_, (pss_cons (ps_if (pt_cmpR op_isN (pv 1) pe_non (nomark _))
      (pss_one (ps_ret (pe_lc ["k"] [none]  (by kernel_rfl) rfl (pi_range1 rfl B.range (pa_cons (pv 0) pa_nil)) (fun _ _ _ _ _ => (pg_name (i := 0) (show (["k"] : List Str).Nodup by decide +kernel) rfl (Or.inl rfl))) (fun _ _ _ _ _ => pts_nil) (fun _ _ _ _ _ => pe_int))))
      pss_nil)
      (pss_cons (ps_if (PW.pt (pw_or (pt_cmpR op_ne (pe_callB (call_lenK (K := K) rfl) rfl B.len (by decide +kernel) (pa_cons (pv 1) pa_nil)) (pv 0) (nomark _)) (pw_or1 (pt_not (pt_truthK (K := K) rfl (pe_callB (call_allK (K := K) rfl rfl) rfl B.all (by decide +kernel) (pa_cons (pe_lc ["weight"] [none]  (by kernel_rfl) rfl (pi_listK (K := K) rfl (pv 1)) (fun _ _ _ _ _ => (pg_name (i := 0) (show (["weight"] : List Str).Nodup by decide +kernel) rfl (Or.inl rfl))) (fun _ _ _ _ _ => pts_nil) (fun _ _ _ _ _ => (pe_call G_is_below hr rfl d_is_below.m d_is_below.F.kp d_is_below.b .nil pass0 (pa_cons (pe_glob (v := .int 1000000000000000000000000000000) rfl Ct.m_BEYOND_WEIGHTS Ct.r_BEYOND_WEIGHTS) (pa_cons (pv 0) pa_nil))))) pa_nil)) (fun _ => rfl))))))
      (pss_one (ps_raise hr.hd rfl C.m_NoWeights C.k_NoWeights (pa_cons pe_str pa_nil)))
      pss_nil)
      pss_never)), ?_⟩
  refine ⟨_, rfl, rfl, _, rfl, iteF ?_⟩
  refine ⟨_, rfl, a, _, rfl, .inl hA, _, rfl, rfl, _, rfl, ?_⟩
  rw [List.length_map]
  unfold wtOk at no
  dsimp only at no
  by_cases c : ws.length = m
  · rw [c, decide_eq_true rfl] at no ⊢
    rw [Bool.true_and] at no
    refine iteF ⟨_, rfl, a, rfl, ⟨_, hA⟩, ?_⟩
    refine lc_fmN btF hA (by rw [List.length_map]; omega) (fun x G5 N hx s5 hN5 => ?_) (fun G5 p6 H6 s5 n6 => ?_)
    · obtain ⟨y, hy, rfl⟩ := List.mem_map.mp hx
      exact ⟨_, rfl, bigN, some y, rfl, hN5 G5 s5⟩
    rw [fm_bt] at n6
    refine ⟨p6, _, _, rfl, SqL.of n6.here, Truths.bls _, ?_⟩
    have e7 : (ws.map fun y => belowF bigN (some y)).all id = false := by
      rw [List.all_map, ← no]
      congr 1
      funext y
      exact below_b y
    rw [e7]
    exact ⟨_, rfl, iteT ⟨Nat.le_of_lt (small1000 (by decide)), fun p hp => q p H6 (s5.trans n6.same) hp⟩⟩
  · rw [decide_eq_false (fun e => c (by have := V.int.inj e; omega))]
    exact iteT (iteT ⟨Nat.le_of_lt (small1000 (by decide)), fun p hp => q p H (Same.refl _) hp⟩)
end

end K


namespace K
open PySem L2 Lw Bg
def spCosts (K : PySem.W.Frag) : Sp := fun vs H Q _ => ∃ (t : Addr) (xs : List V) (ks : List (List Key)) (v : V) (o : Option (List Int)), vs = [.ref t, v] ∧ H t = some (.lst xs) ∧ Paired (KyL H) xs ks ∧ ks.Nodup ∧ ks.length ≤ 100 ∧ WtV K H v o ∧ (∀ ws, o = some ws → ws.length ≤ 200) ∧ wtOk ks.length o = true ∧ ∀ p H', Same H H' → H p = none → H' p = some (.dT (ks.zip ((wtL ks.length o).map V.int))) → Q (.ref p) H'
def spCostsX (K : PySem.W.Frag) (nw : Addr) : Sp := fun vs H Q E => ∃ (t : Addr) (xs : List V) (ws : List Int) (a : Addr), vs = [.ref t, .ref a] ∧ H t = some (.lst xs) ∧ SqL K H a (ws.map V.int) ∧ xs.length ≤ 100 ∧ ws.length ≤ 200 ∧ wtOk xs.length (some ws) = false ∧ ∀ p H', Same H H' → H' p = none → E (.ref p) (some nw) H'
theorem pr_len {α β : Type} {r : α → β → Prop} : ∀ {l : List α} {m : List β}, Paired r l m → l.length = m.length
  | _, _, .nil => rfl
  | _, _, .cons _ t => congrArg (· + 1) (pr_len t)
theorem wt_len {m : Nat} : ∀ {o : Option (List Int)}, wtOk m o = true → (wtL m o).length = m
  | none, _ => List.length_replicate ..
  | some ws, h => by
    unfold wtOk at h
    dsimp only at h
    rw [Bool.and_eq_true] at h
    exact of_decide_eq_true h.1
section
variable {P : Program} {w : World} {K : PySem.W.Frag} {mg : Str → Option Value} {base : Heap}
set_option maxHeartbeats 4000000 in
theorem ok_costs_of (B : Bl mg) (Bz : mg "zip" = none) (Ct : Cts mg) (d_is_whole : Dn K mg "is_whole" s_is_whole ["thing"]) (d_is_below : Dn K mg "is_below" s_is_below ["n", "thing"]) (d_weights_of : Dn K mg "weights_of" s_weights_of ["many", "weights"]) (d_costs_of : Dn K mg "costs_of" s_costs_of ["ties", "costs"]) : FnOk P w K mg base CX0 4 d_costs_of.f d_costs_of.fd ["ties", "costs"] (spCosts K) := by
  have G_weights_of : FnOk P w K mg base CX0 3 _ _ _ _ := ok_weights_of B Ct d_is_whole d_is_below d_weights_of
  refine d_costs_of.F.ok sc_costs_of (fun vs H Q E h => ?_) (fun cdv A outer s H vs Q E hr h => ?_)
  · obtain ⟨t, xs, ks, v, o, rfl, _⟩ := h
    rfl
  obtain ⟨t, xs, ks, v, o, rfl, hT, hK, nd, l100, hV, hw, ok, q⟩ := h
  have hw2 : (A.deeper (PyProof.Rows.envOfC "costs_of" (defScope s_costs_of) s.heap.objs.size d_costs_of.f cdv)).units + 2 < cLine := by have := hr.un; omega
  refine ⟨_, (pss_one (ps_ret (pe_dictZ rfl hw2 rfl B.dict rfl Bz (pa_cons (pv 0) (pa_cons (pe_call G_weights_of hr rfl d_weights_of.m d_weights_of.F.kp d_weights_of.b .nil pass0 (pa_cons (pe_callB (call_lenK (K := K) rfl) rfl B.len (by decide +kernel) (pa_cons (pv 0) pa_nil)) (pa_cons (pv 1) pa_nil))) pa_nil))))), ?_⟩
  have lx : xs.length = ks.length := pr_len hK
  refine ⟨_, rfl, _, rfl, t, _, rfl, .inl (SqL.of hT), _, rfl, ks.length, v, o, by rw [← lx]; rfl, hV, by omega, hw, ok, fun p6 H6 s6 f6 h6 => ?_⟩
  refine ⟨t, p6, xs, _, ks, rfl, s6 _ _ hT, h6, Paired.mapP hK fun _ _ ⟨p, e, hp⟩ => ⟨p, e, s6 _ _ hp⟩, ?_, nd, by omega, fun p7 H7 n7 => q p7 H7 (s6.trans n7.same) (s6.free n7.fresh) n7.here⟩
  rw [List.length_map, wt_len ok]
set_option maxHeartbeats 4000000 in
theorem okX_costs_of (B : Bl mg) (Bz : mg "zip" = none) (Ct : Cts mg) (C : Cl K mg) (d_is_whole : Dn K mg "is_whole" s_is_whole ["thing"]) (d_is_below : Dn K mg "is_below" s_is_below ["n", "thing"]) (d_weights_of : Dn K mg "weights_of" s_weights_of ["many", "weights"]) (d_costs_of : Dn K mg "costs_of" s_costs_of ["ties", "costs"]) : FnOk P w K mg base (CXE P w) 4 d_costs_of.f d_costs_of.fd ["ties", "costs"] (spCostsX K C.NoWeights) := by
  have GX_weights_of : FnOk P w K mg base (CXE P w) 3 _ _ _ _ := okX_weights_of B Ct C d_is_whole d_is_below d_weights_of
  refine d_costs_of.F.okE sc_costs_of (fun vs H Q E h => ?_) (fun cdv A outer s H vs Q E hr h => ?_)
  · obtain ⟨t, xs, ws, a, rfl, _⟩ := h
    rfl
  obtain ⟨t, xs, ws, a, rfl, hT, hA, lx, lw, no, q⟩ := h
  have hw2 : (A.deeper (PyProof.Rows.envOfC "costs_of" (defScope s_costs_of) s.heap.objs.size d_costs_of.f cdv)).units + 2 < cLine := by have := hr.un; omega
  refine ⟨_, (pss_cons (ps_ret (pe_dictZ rfl hw2 rfl B.dict rfl Bz (pa_cons (pv 0) (pa_cons (pe_call GX_weights_of hr rfl d_weights_of.m d_weights_of.F.kp d_weights_of.b .nil passE (pa_cons (pe_callB (call_lenK (K := K) rfl) rfl B.len (by decide +kernel) (pa_cons (pv 0) pa_nil)) (pa_cons (pv 1) pa_nil))) pa_nil))))
      pss_never), ?_⟩
  exact ⟨_, rfl, _, rfl, t, _, rfl, .inl (SqL.of hT), _, rfl, xs.length, ws, a, rfl, hA, lx, lw, no, q⟩
end

end K


namespace K
open PySem L2 Lw Bg
def fsQ (pg : Addr) (l u : V) : List (Str × V) := [("graph", .ref pg), ("leaf", l), ("whole", u)]
def Sd (d : Addr) (H H' : Hp) : Prop := ∀ c o, c ≠ d → H c = some o → H' c = some o
def spQInit (K : PySem.W.Frag) (C : Addr) : Sp := fun vs H Q _ => ∃ (d dx g t : Addr) (n : Nat) (xs : List V) (l u : V), vs = [.ref d, .ref g, l, u] ∧ H d = some (.ins C dx []) ∧ SqT K H g [.int n, .ref t] ∧ H t = some (.lst xs) ∧ xs.length ≤ 1000 ∧ ∀ pg pt H', Sd d H H' → H' d = some (.ins C dx (fsQ pg l u)) → H' pg = some (.tup [.int n, .ref pt]) → H' pt = some (.lst xs) → Q .non H'
section
variable {P : Program} {w : World} {K : PySem.W.Frag} {mg : Str → Option Value} {base : Heap}
set_option maxHeartbeats 4000000 in
theorem ok_Question_init (B : Bl mg) (D_Question : ObQuestion K mg) (D_Rounds : ObRounds K mg) : FnOk P w K mg base CX0 1 D_Question.d___init__.f D_Question.d___init__.fd ["self", "graph", "leaf", "whole"] (spQInit K D_Rounds.C) := by
  refine D_Question.d___init__.F.ok sc_Question___init__ (fun vs H Q E h => ?_) (fun cdv A outer s H vs Q E hr h => ?_)
  · obtain ⟨d, dx, g, t, n, xs, l, u, rfl, _⟩ := h
    rfl
  obtain ⟨d, dx, g, t, n, xs, l, u, rfl, hd, hg, ht, lx, q⟩ := h
  refine ⟨_, (pss_cons (ps_fld (pv 0) (pe_tupN (pa_cons (pe_ix (ix_tupK (K := K) rfl) (pv 1) pe_int (fun _ _ => rfl)) (pa_cons (pe_callTy (call_listN (K := K) rfl) rfl B.list (by decide +kernel) (pa_cons (pe_ix (ix_tupK (K := K) rfl) (pv 1) pe_int (fun _ _ => rfl)) pa_nil)) pa_nil))) rfl)
      (pss_cons (ps_fld (pv 0) (pv 2) rfl)
      (pss_one (ps_fld (pv 0) (pv 3) rfl)))), ?_⟩
  refine ⟨_, rfl, g, _, _, V.int n, rfl, rfl, hg, atI_nat (j := 0) rfl, _, rfl, g, _, _, V.ref t, rfl, rfl, hg, atI_nat (j := 1) rfl, t, _, rfl, .inl (SqL.of ht), fun pt H1 n1 => ⟨(by show 2 ≤ 1000; decide), fun pg H2 n2 => ?_⟩⟩
  have h2 := n2.same _ _ (n1.same _ _ hd)
  refine ⟨_, rfl, d, _, _, _, rfl, h2, D_Rounds.cl, D_Rounds.n_graph, by decide, ?_⟩
  generalize hU1 : upd H2 d _ = U1
  have u1 : Chg H2 d (.ins D_Rounds.C dx (putF "graph" (.ref pg) [])) U1 := by rw [← hU1]; exact Chg.mk0
  refine ⟨_, rfl, _, rfl, d, _, _, _, rfl, u1.here, D_Rounds.cl, D_Rounds.n_leaf, (by show 1 < 1000; decide), ?_⟩
  generalize hU2 : upd U1 d _ = U2
  have u2 : Chg U1 d (.ins D_Rounds.C dx (putF "leaf" l (putF "graph" (.ref pg) []))) U2 := by rw [← hU2]; exact Chg.mk0
  refine ⟨_, rfl, _, rfl, d, _, _, _, rfl, u2.here, D_Rounds.cl, D_Rounds.n_whole, (by show 2 < 1000; decide), ?_⟩
  generalize hU3 : upd U2 d _ = U3
  have u3 : Chg U2 d (.ins D_Rounds.C dx (fsQ pg l u)) U3 := by rw [← hU3]; exact Chg.mk0
  have sr : ∀ c, c ≠ d → U3 c = H2 c := fun c hc => by rw [u3.rest _ hc, u2.rest _ hc, u1.rest _ hc]
  have dt : pt ≠ d := fun e => by have := n1.fresh; rw [e, hd] at this; cases this
  have dg : pg ≠ d := fun e => by have := n2.fresh; rw [e, n1.same _ _ hd] at this; cases this
  exact q pg pt U3 (fun c o hc hh => by rw [sr c hc]; exact n2.same _ _ (n1.same _ _ hh)) u3.here (by rw [sr _ dg]; exact n2.here) (by rw [sr _ dt]; exact n2.same _ _ n1.here)
end

end K


namespace K
open PySem L2 Lw Bg
theorem Sd.seq {K : PySem.W.Frag} {d C dx : Addr} {fs : List (Str × V)} {H H' : Hp} {a : Addr} {xs : List V} (e : Sd d H H') (hd : H d = some (.ins C dx fs)) (h : SqL K H a xs) : SqL K H' a xs := by
  rcases h with (h | ⟨o, h⟩) | h
  · exact .inl (.inl (e _ _ (fun z => by rw [z, hd] at h; cases h) h))
  · exact .inl (.inr ⟨o, e _ _ (fun z => by rw [z, hd] at h; cases h) h⟩)
  · exact .inr h
theorem Sd.tupq {K : PySem.W.Frag} {d C dx : Addr} {fs : List (Str × V)} {H H' : Hp} {a : Addr} {xs : List V} (e : Sd d H H') (hd : H d = some (.ins C dx fs)) (h : SqT K H a xs) : SqT K H' a xs := by
  rcases h with (h | ⟨o, h⟩) | h
  · exact .inl (.inl (e _ _ (fun z => by rw [z, hd] at h; cases h) h))
  · exact .inl (.inr ⟨o, e _ _ (fun z => by rw [z, hd] at h; cases h) h⟩)
  · exact .inr h
theorem Sd.wt {K : PySem.W.Frag} {d C dx : Addr} {fs : List (Str × V)} {H H' : Hp} (e : Sd d H H') (hd : H d = some (.ins C dx fs)) : ∀ {v : V} {o : Option (List Int)}, WtV K H v o → WtV K H' v o
  | _, none, h => h
  | _, some _, ⟨a, e1, h⟩ => ⟨a, e1, e.seq hd h⟩
def fsR (pg : Addr) (l u : V) (c : Addr) : List (Str × V) := [("graph", .ref pg), ("leaf", l), ("whole", u), ("costs", .ref c)]
/-- a question of rounds as it stands -/
def RdQ (C : Addr) (H : Hp) (d : Addr) (n : Nat) (xs : List V) : Prop := ∃ dx pg pt l u c, H d = some (.ins C dx (fsR pg l u c)) ∧ H pg = some (.tup [.int n, .ref pt]) ∧ H pt = some (.lst xs)
def spRInit (K : PySem.W.Frag) (C : Addr) : Sp := fun vs H Q _ => ∃ (d dx g t : Addr) (n : Nat) (xs : List V) (ks : List (List Key)) (v : V) (o : Option (List Int)), vs = [.ref d, .ref g, v] ∧ H d = some (.ins C dx []) ∧ SqT K H g [.int n, .ref t] ∧ H t = some (.lst xs) ∧ Paired (KyL H) xs ks ∧ ks.Nodup ∧ ks.length ≤ 100 ∧ WtV K H v o ∧ (∀ ws, o = some ws → ws.length ≤ 200) ∧ wtOk ks.length o = true ∧ ∀ H', Sd d H H' → RdQ C H' d n xs → Q .non H'
def spRInitX (K : PySem.W.Frag) (C nw : Addr) : Sp := fun vs H Q E => ∃ (d dx g t : Addr) (n : Nat) (xs : List V) (ws : List Int) (a : Addr), vs = [.ref d, .ref g, .ref a] ∧ H d = some (.ins C dx []) ∧ SqT K H g [.int n, .ref t] ∧ H t = some (.lst xs) ∧ SqL K H a (ws.map V.int) ∧ xs.length ≤ 100 ∧ ws.length ≤ 200 ∧ wtOk xs.length (some ws) = false ∧ ∀ p H', Sd d H H' → H' p = none → E (.ref p) (some nw) H'
section
variable {P : Program} {w : World} {K : PySem.W.Frag} {mg : Str → Option Value} {base : Heap}
set_option maxHeartbeats 4000000 in
theorem ok_Rounds_init (B : Bl mg) (Bz : mg "zip" = none) (Ct : Cts mg) (D_Question : ObQuestion K mg) (D_Rounds : ObRounds K mg) (d_is_whole : Dn K mg "is_whole" s_is_whole ["thing"]) (d_is_below : Dn K mg "is_below" s_is_below ["n", "thing"]) (d_weights_of : Dn K mg "weights_of" s_weights_of ["many", "weights"]) (d_costs_of : Dn K mg "costs_of" s_costs_of ["ties", "costs"]) : FnOk P w K mg base CX0 5 D_Rounds.d___init__.f D_Rounds.d___init__.fd ["self", "graph", "costs"] (spRInit K D_Rounds.C) := by
  have G_Question___init__ : FnOk P w K mg base CX0 4 _ _ _ _ := (ok_Question_init B D_Question D_Rounds).mono (by decide)
  have G_costs_of : FnOk P w K mg base CX0 4 _ _ _ _ := ok_costs_of B Bz Ct d_is_whole d_is_below d_weights_of d_costs_of
  refine D_Rounds.d___init__.F.ok sc_Rounds___init__ (fun vs H Q E h => ?_) (fun cdv A outer s H vs Q E hr h => ?_)
  · obtain ⟨d, dx, g, t, n, xs, ks, v, o, rfl, _⟩ := h
    rfl
  obtain ⟨d, dx, g, t, n, xs, ks, v, o, rfl, hd, hg, ht, hK, nd, l100, hV, hw, ok, q⟩ := h
  refine ⟨_, (pss_cons (ps_expr (pe_clsf rfl D_Question.m D_Question.cf___init__ G_Question___init__ hr D_Question.d___init__.b .nil pass0 (pa_cons (pv 0) (pa_cons (pv 1) (pa_cons (pe_tupN (pa_cons pe_int pa_nil)) (pa_cons (pe_tupN (pa_cons pe_int pa_nil)) pa_nil))))))
      (pss_one (ps_fld (pv 0) (pe_call G_costs_of hr rfl d_costs_of.m d_costs_of.F.kp d_costs_of.b .nil pass0 (pa_cons (pe_ix (ix_tupK (K := K) rfl) (pv 1) pe_int (fun _ _ => rfl)) (pa_cons (pv 2) pa_nil))) rfl))), ?_⟩
  have lx : xs.length = ks.length := pr_len hK
  refine ⟨_, rfl, _, rfl, (by show 1 ≤ 1000; decide), fun p1 H1 n1 => ⟨(by show 1 ≤ 1000; decide), fun p2 H2 n2 => ?_⟩⟩
  have s2 : Same H H2 := n1.same.trans n2.same
  refine ⟨d, dx, g, t, n, xs, .ref p1, .ref p2, rfl, s2 _ _ hd, s2.tupq hg, s2 _ _ ht, by omega, fun pg pt H3 s3 h3d h3g h3t => ?_⟩
  have e3 : Sd d H H3 := fun c o hc hh => s3 c o hc (s2 _ _ hh)
  have dt : t ≠ d := fun e => by rw [e, hd] at ht; cases ht
  refine ⟨_, rfl, g, _, _, V.ref t, rfl, rfl, e3.tupq hd hg, atI_nat (j := 1) rfl, _, rfl, t, xs, ks, v, o, rfl, e3 _ _ dt ht, Paired.mapP hK (fun _ _ ⟨p, e, hp⟩ => ⟨p, e, e3 _ _ (fun z => by rw [z, hd] at hp; cases hp) hp⟩), nd, l100, e3.wt hd hV, hw, ok, fun pc H4 s4 f4 h4 => ?_⟩
  refine ⟨_, rfl, d, _, _, _, rfl, s4 _ _ h3d, D_Rounds.cl, D_Rounds.n_costs, (by show 3 < 1000; decide), ?_⟩
  generalize hU : upd H4 d _ = U
  have u1 : Chg H4 d (.ins D_Rounds.C dx (fsR pg (.ref p1) (.ref p2) pc)) U := by rw [← hU]; exact Chg.mk0
  have dg : pg ≠ d := fun e => by rw [e, h3d] at h3g; cases h3g
  have dp : pt ≠ d := fun e => by rw [e, h3d] at h3t; cases h3t
  exact q U (fun c o hc hh => by rw [u1.rest _ hc]; exact s4 _ _ (e3 c o hc hh)) ⟨dx, pg, pt, _, _, pc, u1.here, by rw [u1.rest _ dg]; exact s4 _ _ h3g, by rw [u1.rest _ dp]; exact s4 _ _ h3t⟩
set_option maxHeartbeats 4000000 in
theorem okX_Rounds_init (B : Bl mg) (Bz : mg "zip" = none) (Ct : Cts mg) (C : Cl K mg) (D_Question : ObQuestion K mg) (D_Rounds : ObRounds K mg) (d_is_whole : Dn K mg "is_whole" s_is_whole ["thing"]) (d_is_below : Dn K mg "is_below" s_is_below ["n", "thing"]) (d_weights_of : Dn K mg "weights_of" s_weights_of ["many", "weights"]) (d_costs_of : Dn K mg "costs_of" s_costs_of ["ties", "costs"]) : FnOk P w K mg base (CXE P w) 5 D_Rounds.d___init__.f D_Rounds.d___init__.fd ["self", "graph", "costs"] (spRInitX K D_Rounds.C C.NoWeights) := by
  have G_Question___init__ : FnOk P w K mg base CX0 4 _ _ _ _ := (ok_Question_init B D_Question D_Rounds).mono (by decide)
  have GX_costs_of : FnOk P w K mg base (CXE P w) 4 _ _ _ _ := okX_costs_of B Bz Ct C d_is_whole d_is_below d_weights_of d_costs_of
  refine D_Rounds.d___init__.F.okE sc_Rounds___init__ (fun vs H Q E h => ?_) (fun cdv A outer s H vs Q E hr h => ?_)
  · obtain ⟨d, dx, g, t, n, xs, ws, a, rfl, _⟩ := h
    rfl
  obtain ⟨d, dx, g, t, n, xs, ws, a, rfl, hd, hg, ht, hA, lx, lw, no, q⟩ := h
  refine ⟨_, (pss_cons (ps_expr (pe_clsf rfl D_Question.m D_Question.cf___init__ G_Question___init__ hr D_Question.d___init__.b .nil pass0 (pa_cons (pv 0) (pa_cons (pv 1) (pa_cons (pe_tupN (pa_cons pe_int pa_nil)) (pa_cons (pe_tupN (pa_cons pe_int pa_nil)) pa_nil))))))
      (pss_cons (ps_fld (pv 0) (pe_call GX_costs_of hr rfl d_costs_of.m d_costs_of.F.kp d_costs_of.b .nil passE (pa_cons (pe_ix (ix_tupK (K := K) rfl) (pv 1) pe_int (fun _ _ => rfl)) (pa_cons (pv 2) pa_nil))) rfl)
      pss_never)), ?_⟩
  refine ⟨_, rfl, _, rfl, (by show 1 ≤ 1000; decide), fun p1 H1 n1 => ⟨(by show 1 ≤ 1000; decide), fun p2 H2 n2 => ?_⟩⟩
  have s2 : Same H H2 := n1.same.trans n2.same
  refine ⟨d, dx, g, t, n, xs, .ref p1, .ref p2, rfl, s2 _ _ hd, s2.tupq hg, s2 _ _ ht, by omega, fun pg pt H3 s3 h3d h3g h3t => ?_⟩
  have e3 : Sd d H H3 := fun c o hc hh => s3 c o hc (s2 _ _ hh)
  have dt : t ≠ d := fun e => by rw [e, hd] at ht; cases ht
  exact ⟨_, rfl, g, _, _, V.ref t, rfl, rfl, e3.tupq hd hg, atI_nat (j := 1) rfl, _, rfl, t, xs, ws, a, rfl, e3 _ _ dt ht, e3.seq hd hA, lx, lw, no, fun p H4 s4 hp => q p H4 (fun c o hc hh => s4 _ _ (e3 c o hc hh)) hp⟩
end

end K


namespace K
open PySem L2 Lw Bg
abbrev s_steps_of : Stmt := top 60
theorem sc_steps_of : FnScope ["graph", "tree", "rows"] ["graph", "tree"] (defScope s_steps_of) := ⟨rfl, rfl, rfl, by decide +kernel, rfl, by decide +kernel, by decide +kernel⟩
abbrev s_tables : Stmt := top 65
theorem sc_tables : FnScope ["steps", "question", "tops", "feeds"] ["steps", "question"] (defScope s_tables) := ⟨rfl, rfl, rfl, by decide +kernel, rfl, by decide +kernel, by decide +kernel⟩
abbrev s_trail : Stmt := top 67
theorem sc_trail : FnScope ["steps", "question", "tops", "feeds"] ["steps", "question"] (defScope s_trail) := ⟨rfl, rfl, rfl, by decide +kernel, rfl, by decide +kernel, by decide +kernel⟩
abbrev s_answer : Stmt := top 68
theorem sc_answer : FnScope ["tree", "question", "steps", "tops", "feeds", "told", "states", "many", "best", "sources"] ["tree", "question"] (defScope s_answer) := ⟨rfl, rfl, rfl, by decide +kernel, rfl, by decide +kernel, by decide +kernel⟩
abbrev s_run_narrow : Stmt := top 69
theorem sc_run_narrow : FnScope ["graph", "steps", "tops", "feeds"] ["graph", "steps"] (defScope s_run_narrow) := ⟨rfl, rfl, rfl, by decide +kernel, rfl, by decide +kernel, by decide +kernel⟩
section
variable {P : Program} {w : World} {K : PySem.W.Frag} {mg : Str → Option Value} {base : Heap}
set_option maxHeartbeats 4000000 in
theorem okX_steps_tree (B : Bl mg) (Ct : Cts mg) (C : Cl K mg) (d_is_whole : Dn K mg "is_whole" s_is_whole ["thing"]) (d_is_below : Dn K mg "is_below" s_is_below ["n", "thing"]) (d_is_set : Dn K mg "is_set" s_is_set ["n", "places"]) (d_is_up : Dn K mg "is_up" s_is_up ["k", "up"]) (d_row_fault : Dn K mg "row_fault" s_row_fault ["n", "rows"]) (d_place_fault : Dn K mg "place_fault" s_place_fault ["n", "rows"]) (d_tie_fault : Dn K mg "tie_fault" s_tie_fault ["ties", "rows"]) (d_is_held : Dn K mg "is_held" s_is_held ["rows", "up", "v"]) (d_apart_fault : Dn K mg "apart_fault" s_apart_fault ["n", "rows"]) (d_fault : Dn K mg "fault" s_fault ["graph", "rows"]) (d_refuse_wide : Dn K mg "refuse_wide" s_refuse_wide ["bags"]) (d_steps_of : Dn K mg "steps_of" s_steps_of ["graph", "tree"]) : FnOk P w K mg base (CXE P w) 14 d_steps_of.f d_steps_of.fd ["graph", "tree"] (spNoTree K C.NoTree) := by
  have G_fault : FnOk P w K mg base CX0 13 _ _ _ _ := (ok_fault B d_is_whole d_is_below d_is_set d_is_up d_row_fault d_place_fault d_tie_fault d_is_held d_apart_fault d_fault).mono (by decide)
  have GX_refuse_wide : FnOk P w K mg base (CXE P w) 13 _ _ _ _ := (okX_refuse_wide B Ct C d_refuse_wide).mono (by decide)
  refine d_steps_of.F.okE sc_steps_of (fun vs H Q E h => ?_) (fun cdv A outer s H vs Q E hr h => ?_)
  · obtain ⟨g, n, ts, a, rs, rfl, _⟩ := h
    rfl
  obtain ⟨g, n, ts, a, rs, rfl, nz, hG, hR, bad, q⟩ := h
  refine ⟨_, (pss_cons (ps_if (pt_cmpR op_notN (pe_call G_fault hr rfl d_fault.m d_fault.F.kp d_fault.b .nil pass0 (pa_cons (pv 0) (pa_cons (pv 1) pa_nil))) pe_non (nomark _))
      (pss_one (ps_raise hr.hd rfl C.m_NoTree C.k_NoTree (pa_cons pe_str pa_nil)))
      pss_nil)
      (pss_cons (ps_expr (pe_call GX_refuse_wide hr rfl d_refuse_wide.m d_refuse_wide.F.kp d_refuse_wide.b .nil passE (pa_cons (pe_lc ["up", "places"] [none, none]  (by kernel_rfl) rfl (pi_listK (K := K) rfl (pv 1)) (fun _ _ _ _ _ => (pg_tupK (K := K) (n := 2) rfl rfl (pgs_cons (pg_name (i := 0) (show (["up", "places"] : List Str).Nodup by decide +kernel) rfl (Or.inl rfl)) (pgs_cons (pg_name (i := 1) (show (["up", "places"] : List Str).Nodup by decide +kernel) rfl (Or.inl rfl)) pgs_nil)))) (fun _ _ _ _ _ => pts_nil) (fun _ _ _ _ _ => (pv 1))) pa_nil)))
      pss_never)), ?_⟩
  refine ⟨_, rfl, _, rfl, g, n, ts, a, rs, rfl, nz, hG, hR, fun v H1 s1 fv => ?_⟩
  have vn : v ≠ .non := flt_some bad fv
  refine ⟨rfl, _, rfl, ?_⟩
  rw [show (!decide (v = V.non)) = true by rw [decide_eq_false vn]; rfl]
  exact iteT ⟨Nat.le_of_lt (small1000 (by decide)), fun p hp => q p H1 s1 hp⟩
set_option maxHeartbeats 4000000 in
theorem okX_steps_wide (B : Bl mg) (Ct : Cts mg) (C : Cl K mg) (d_is_whole : Dn K mg "is_whole" s_is_whole ["thing"]) (d_is_below : Dn K mg "is_below" s_is_below ["n", "thing"]) (d_is_set : Dn K mg "is_set" s_is_set ["n", "places"]) (d_is_up : Dn K mg "is_up" s_is_up ["k", "up"]) (d_row_fault : Dn K mg "row_fault" s_row_fault ["n", "rows"]) (d_place_fault : Dn K mg "place_fault" s_place_fault ["n", "rows"]) (d_tie_fault : Dn K mg "tie_fault" s_tie_fault ["ties", "rows"]) (d_is_held : Dn K mg "is_held" s_is_held ["rows", "up", "v"]) (d_apart_fault : Dn K mg "apart_fault" s_apart_fault ["n", "rows"]) (d_fault : Dn K mg "fault" s_fault ["graph", "rows"]) (d_refuse_wide : Dn K mg "refuse_wide" s_refuse_wide ["bags"]) (d_steps_of : Dn K mg "steps_of" s_steps_of ["graph", "tree"]) : FnOk P w K mg base (CXE P w) 14 d_steps_of.f d_steps_of.fd ["graph", "tree"] (spWideT K C.TooWide) := by
  have G_fault : FnOk P w K mg base CX0 13 _ _ _ _ := (ok_fault B d_is_whole d_is_below d_is_set d_is_up d_row_fault d_place_fault d_tie_fault d_is_held d_apart_fault d_fault).mono (by decide)
  have GX_refuse_wide : FnOk P w K mg base (CXE P w) 13 _ _ _ _ := (okX_refuse_wide B Ct C d_refuse_wide).mono (by decide)
  refine d_steps_of.F.okE sc_steps_of (fun vs H Q E h => ?_) (fun cdv A outer s H vs Q E hr h => ?_)
  · obtain ⟨g, n, ts, a, rs, rfl, _⟩ := h
    rfl
  obtain ⟨g, n, ts, a, rs, rfl, n10, hG, hR, l9, okF, big, q⟩ := h
  refine ⟨_, (pss_cons (ps_if (pt_cmpR op_notN (pe_call G_fault hr rfl d_fault.m d_fault.F.kp d_fault.b .nil pass0 (pa_cons (pv 0) (pa_cons (pv 1) pa_nil))) pe_non (nomark _))
      (pss_one (ps_raise hr.hd rfl C.m_NoTree C.k_NoTree (pa_cons pe_str pa_nil)))
      pss_nil)
      (pss_cons (ps_expr (pe_call GX_refuse_wide hr rfl d_refuse_wide.m d_refuse_wide.F.kp d_refuse_wide.b .nil passE (pa_cons (pe_lc ["up", "places"] [none, none]  (by kernel_rfl) rfl (pi_listK (K := K) rfl (pv 1)) (fun _ _ _ _ _ => (pg_tupK (K := K) (n := 2) rfl rfl (pgs_cons (pg_name (i := 0) (show (["up", "places"] : List Str).Nodup by decide +kernel) rfl (Or.inl rfl)) (pgs_cons (pg_name (i := 1) (show (["up", "places"] : List Str).Nodup by decide +kernel) rfl (Or.inl rfl)) pgs_nil)))) (fun _ _ _ _ _ => pts_nil) (fun _ _ _ _ _ => (pv 1))) pa_nil)))
      pss_never)), ?_⟩
  refine ⟨_, rfl, _, rfl, g, n, ts, a, rs, rfl, by omega, hG, hR, fun v H1 s1 fv => ?_⟩
  rw [okF] at fv
  obtain rfl : v = .non := fv
  refine ⟨rfl, _, rfl, iteF ?_⟩
  obtain ⟨xs, hx, hp, hz⟩ := id hR
  have lx := Paired.length hp
  refine ⟨_, rfl, a, rfl, ⟨_, s1.seq hx⟩, ?_⟩
  refine lc_list (K := K) (a := a) (xs := xs) (fun i ys H' => Same H1 H' ∧ Paired (fun v r => ∃ q, v = .ref q ∧ SqL K H' q (r.2.map V.int)) ys (rs.take i)) ⟨Same.refl _, .nil⟩ (fun i ys H' hi ⟨s, p⟩ => ⟨(s1.trans s).seq hx, ?_⟩) (fun i x ys H' hi ⟨s, p⟩ => ?_) (fun ys H2 ⟨s2, p2⟩ pb hpb => ?_)
  · rw [Paired.length p, List.length_take]
    exact Nat.le_of_lt (small1000 (by omega))
  · obtain ⟨r, hr1, ⟨pr, b, rfl, hT, hb, hbl⟩⟩ := paired_get hp hi
    have et : rs.take (i + 1) = rs.take i ++ [r] := by rw [List.take_succ, hr1]; rfl
    refine ⟨pr, _, rfl, (s1.trans s).tupq hT, rfl, _, _, rfl, _, _, rfl, rfl, _, rfl, s, ?_⟩
    rw [et]
    exact paired_snoc p ⟨b, rfl, (s1.trans s).seq hb⟩
  rw [lx, List.take_length] at p2
  have n3 : New H2 pb (.lst ys) (upd H2 pb (.lst ys)) := New.mk0 hpb
  generalize upd H2 pb (.lst ys) = H3 at n3 ⊢
  exact ⟨pb, ys, rs, rfl, SqL.of n3.here, Paired.mapP p2 fun _ _ ⟨q, e, h⟩ => ⟨q, e, n3.same.seq h⟩, l9, big, fun p H' s hp => q p H' (s1.trans (s2.trans (n3.same.trans s))) hp⟩
end

end K


namespace K
open PySem L2 Lw Bg
theorem fn_toE {P : Program} {w : World} {K : PySem.W.Frag} {mg : Str → Option Value} {base : Heap} {k : Nat} {f : Addr} {fd : FuncData} {ps : List Str} {sp : Sp} (F : FnOk P w K mg base CX0 k f fd ps sp) : FnOk P w K mg base (CXE P w) k f fd ps sp :=
  ⟨F.len, fun A outer s H args us vs Q E hr he hb hv hs => codeAny_mono (F.run A outer s H args us vs Q E hr he hb hv hs) fun r s' hq => by
    cases r with
    | ok o => cases o <;> exact hq
    | error e => exact hq.elim⟩
theorem fn_or {P : Program} {w : World} {K : PySem.W.Frag} {mg : Str → Option Value} {base : Heap} {CX : CXT} {k : Nat} {f : Addr} {fd : FuncData} {ps : List Str} {sp sp' : Sp} (F : FnOk P w K mg base CX k f fd ps sp) (G : FnOk P w K mg base CX k f fd ps sp') : FnOk P w K mg base CX k f fd ps (fun vs H Q E => sp vs H Q E ∨ sp' vs H Q E) :=
  ⟨fun vs H Q E h => h.elim (F.len vs H Q E) (G.len vs H Q E), fun A outer s H args us vs Q E hr he hb hv hs => hs.elim (F.run A outer s H args us vs Q E hr he hb hv) (G.run A outer s H args us vs Q E hr he hb hv)⟩

/-- the refusals of run_narrow -/
def spNarX (K : PySem.W.Frag) (ns tw : Addr) : Sp := fun vs H Q E => ∃ (g : V) (n : Nat) (ts : List (Int × Int)) (a : Addr) (xs : List V) (ss : List Stp), vs = [g, .ref a] ∧ GraphV K H g n ts ∧ n ≤ 10 ∧ SqL K H a xs ∧ Paired (StpV K H) xs ss ∧ ss.length ≤ 800 ∧
  ((sfF n ts ss (endR n ts ss) ≠ .ok ∧ ∀ p H', Same H H' → H' p = none → E (.ref p) (some ns) H') ∨
   (sfF n ts ss (endR n ts ss) = .ok ∧ (∃ b ∈ (endR n ts ss).tops, 4 < b.length) ∧ ∀ p H', Same H H' → H' p = none → E (.ref p) (some tw) H'))
theorem pr_none {K : PySem.W.Frag} {H : Hp} {ex : List Addr} : ∀ {vs : List V} {bs : List (List Int)}, Paired (BagL ex K H) vs bs → Paired (fun v (r : Row) => ∃ q, v = .ref q ∧ SqL K H q (r.2.map V.int)) vs (bs.map fun b => (none, b))
  | _, _, .nil => .nil
  | _, _, .cons ⟨p, e, q, _⟩ t => .cons ⟨p, e, q⟩ (pr_none t)
section
variable {P : Program} {w : World} {K : PySem.W.Frag} {mg : Str → Option Value} {base : Heap}
set_option maxHeartbeats 4000000 in
theorem okX_run_narrow (B : Bl mg) (Ct : Cts mg) (C : Cl K mg) (U : Used w K mg) (d_is_whole : Dn K mg "is_whole" s_is_whole ["thing"]) (d_is_below : Dn K mg "is_below" s_is_below ["n", "thing"]) (d_joint : Dn K mg "joint" s_joint ["one", "other"]) (d_less : Dn K mg "less" s_less ["one", "other"]) (d_bag_behind : Dn K mg "bag_behind" s_bag_behind ["graph", "done", "step", "used"]) (d_run : Dn K mg "run" s_run ["graph", "steps"]) (d_fault_behind : Dn K mg "fault_behind" s_fault_behind ["graph", "steps", "tops", "pile"]) (d_run_whole : Dn K mg "run_whole" s_run_whole ["graph", "steps"]) (d_refuse_wide : Dn K mg "refuse_wide" s_refuse_wide ["bags"]) (d_run_narrow : Dn K mg "run_narrow" s_run_narrow ["graph", "steps"]) : FnOk P w K mg base (CXE P w) 6 d_run_narrow.f d_run_narrow.fd ["graph", "steps"] (spNarX K C.NoSteps C.TooWide) := by
  have GX_run_whole : FnOk P w K mg base (CXE P w) 5 _ _ _ _ := fn_or (okX_run_whole B C U d_is_whole d_is_below d_joint d_less d_bag_behind d_run d_fault_behind d_run_whole) (fn_toE (ok_run_whole B U d_is_whole d_is_below d_joint d_less d_bag_behind d_run d_fault_behind d_run_whole))
  have GX_refuse_wide : FnOk P w K mg base (CXE P w) 5 _ _ _ _ := (okX_refuse_wide B Ct C d_refuse_wide).mono (by decide)
  refine d_run_narrow.F.okE sc_run_narrow (fun vs H Q E h => ?_) (fun cdv A outer s H vs Q E hr h => ?_)
  · obtain ⟨g, n, ts, a, xs, ss, rfl, _⟩ := h
    rfl
  obtain ⟨g, n, ts, a, xs, ss, rfl, hG, n10, hA, pA, l8, cs⟩ := h
  refine ⟨_, (pss_cons (ps_asg (pe_call GX_run_whole hr rfl d_run_whole.m d_run_whole.F.kp d_run_whole.b .nil passE (pa_cons (pv 0) (pa_cons (pv 1) pa_nil))) (pg_tupK (K := K) (n := 2) rfl rfl (pgs_cons (pg_name (i := 2) sc_run_narrow.nd rfl (Or.inl rfl)) (pgs_cons (pg_name (i := 3) sc_run_narrow.nd rfl (Or.inl rfl)) pgs_nil))))
      (pss_cons (ps_expr (pe_call GX_refuse_wide hr rfl d_refuse_wide.m d_refuse_wide.F.kp d_refuse_wide.b .nil passE (pa_cons (pv 2) pa_nil)))
      pss_never)), ?_⟩
  refine ⟨_, rfl, _, rfl, ?_⟩
  rcases cs with ⟨bad, q⟩ | ⟨okF, ⟨b, hb, b4⟩, q⟩
  · exact .inl ⟨g, n, ts, a, xs, ss, rfl, hG, n10, hA, pA, by omega, bad, q⟩
  refine .inr ⟨g, n, ts, a, xs, ss, rfl, hG, n10, hA, pA, by omega, okF, fun r pt pf vt fs H1 s1 hr1 ft ff ht hf pv pf' => ?_⟩
  refine ⟨r, _, rfl, SqT.of hr1, rfl, _, _, rfl, _, _, rfl, rfl, ?_⟩
  have I := sf_full n10 okF
  have tl := I.tl
  exact ⟨_, rfl, pt, vt, (endR n ts ss).tops.map fun b => (none, b), rfl, SqL.of ht, pr_none pv, by rw [List.length_map]; omega, ⟨_, List.mem_map.mpr ⟨b, hb, rfl⟩, b4⟩, fun p H2 s2 hp => q p H2 (s1.trans s2) hp⟩
end

end K

namespace L2
open PySem PySem.Spec PyProof.Rows
section
variable {X : Cx} {e : Expr} {np apos cpos : Pos} {ty : TE}
end
section
variable {X : Cx} {K : PySem.W.Frag} {e : Expr} {f : Str} {pos : Pos} {ta : TE}
theorem pe_fldK (e0 : X.K = K) (he : PE X e ta) (hb : attributeBase e f X.env (eval e X.env) = eval e X.env) : PE X (.Attribute e f pos) (tFld K ta f) := by subst e0; exact pe_fld he hb
end
end L2


namespace K
open PySem L2 Lw Bg
theorem rdq_graph {K : PySem.W.Frag} {H : Hp} {pg pt : Addr} {n : Nat} (h1 : H pg = some (.tup [.int n, .ref pt])) (h2 : H pt = some (.lst [])) : GraphV K H (.ref pg) n [] := ⟨pg, pt, rfl, SqT.of h1, [], SqL.of h2, .nil, by decide⟩
/-- the refusals of tables and trail -/
def spTabX (K : PySem.W.Frag) (Cr ns tw : Addr) : Sp := fun vs H Q E => ∃ (d : Addr) (n : Nat) (a : Addr) (xs : List V) (ss : List Stp), vs = [.ref a, .ref d] ∧ RdQ Cr H d n [] ∧ n ≤ 10 ∧ SqL K H a xs ∧ Paired (StpV K H) xs ss ∧ ss.length ≤ 800 ∧
  ((sfF n [] ss (endR n [] ss) ≠ .ok ∧ ∀ p H', Same H H' → H' p = none → E (.ref p) (some ns) H') ∨
   (sfF n [] ss (endR n [] ss) = .ok ∧ (∃ b ∈ (endR n [] ss).tops, 4 < b.length) ∧ ∀ p H', Same H H' → H' p = none → E (.ref p) (some tw) H'))
section
variable {P : Program} {w : World} {K : PySem.W.Frag} {mg : Str → Option Value} {base : Heap}
set_option maxHeartbeats 4000000 in
theorem okX_tables (B : Bl mg) (Ct : Cts mg) (C : Cl K mg) (U : Used w K mg) (D_Rounds : ObRounds K mg) (d_is_whole : Dn K mg "is_whole" s_is_whole ["thing"]) (d_is_below : Dn K mg "is_below" s_is_below ["n", "thing"]) (d_joint : Dn K mg "joint" s_joint ["one", "other"]) (d_less : Dn K mg "less" s_less ["one", "other"]) (d_bag_behind : Dn K mg "bag_behind" s_bag_behind ["graph", "done", "step", "used"]) (d_run : Dn K mg "run" s_run ["graph", "steps"]) (d_fault_behind : Dn K mg "fault_behind" s_fault_behind ["graph", "steps", "tops", "pile"]) (d_run_whole : Dn K mg "run_whole" s_run_whole ["graph", "steps"]) (d_refuse_wide : Dn K mg "refuse_wide" s_refuse_wide ["bags"]) (d_run_narrow : Dn K mg "run_narrow" s_run_narrow ["graph", "steps"]) (d_tables : Dn K mg "tables" s_tables ["steps", "question"]) : FnOk P w K mg base (CXE P w) 7 d_tables.f d_tables.fd ["steps", "question"] (spTabX K D_Rounds.C C.NoSteps C.TooWide) := by
  have GX_run_narrow : FnOk P w K mg base (CXE P w) 6 _ _ _ _ := okX_run_narrow B Ct C U d_is_whole d_is_below d_joint d_less d_bag_behind d_run d_fault_behind d_run_whole d_refuse_wide d_run_narrow
  refine d_tables.F.okE sc_tables (fun vs H Q E h => ?_) (fun cdv A outer s H vs Q E hr h => ?_)
  · obtain ⟨d, n, a, xs, ss, rfl, _⟩ := h
    rfl
  obtain ⟨d, n, a, xs, ss, rfl, ⟨dx, pg, pt, l, u, c, hd, hg, ht⟩, n10, hA, pA, l8, cs⟩ := h
  refine ⟨_, (pss_cons (ps_asg (pe_call GX_run_narrow hr rfl d_run_narrow.m d_run_narrow.F.kp d_run_narrow.b .nil passE (pa_cons (pe_fldK (K := K) rfl (pv 1) rfl) (pa_cons (pv 0) pa_nil))) (pg_tupK (K := K) (n := 2) rfl rfl (pgs_cons (pg_name (i := 2) sc_tables.nd rfl (Or.inl rfl)) (pgs_cons (pg_name (i := 3) sc_tables.nd rfl (Or.inl rfl)) pgs_nil))))
      pss_never), ?_⟩
  refine ⟨_, rfl, d, _, _, _, V.ref pg, rfl, hd, D_Rounds.cl, D_Rounds.n_graph, rfl, _, rfl, ?_⟩
  exact ⟨.ref pg, n, [], a, xs, ss, rfl, rdq_graph hg ht, n10, hA, pA, l8, cs⟩
set_option maxHeartbeats 4000000 in
theorem okX_trail (B : Bl mg) (Ct : Cts mg) (C : Cl K mg) (U : Used w K mg) (D_Rounds : ObRounds K mg) (d_is_whole : Dn K mg "is_whole" s_is_whole ["thing"]) (d_is_below : Dn K mg "is_below" s_is_below ["n", "thing"]) (d_joint : Dn K mg "joint" s_joint ["one", "other"]) (d_less : Dn K mg "less" s_less ["one", "other"]) (d_bag_behind : Dn K mg "bag_behind" s_bag_behind ["graph", "done", "step", "used"]) (d_run : Dn K mg "run" s_run ["graph", "steps"]) (d_fault_behind : Dn K mg "fault_behind" s_fault_behind ["graph", "steps", "tops", "pile"]) (d_run_whole : Dn K mg "run_whole" s_run_whole ["graph", "steps"]) (d_refuse_wide : Dn K mg "refuse_wide" s_refuse_wide ["bags"]) (d_run_narrow : Dn K mg "run_narrow" s_run_narrow ["graph", "steps"]) (d_trail : Dn K mg "trail" s_trail ["steps", "question"]) : FnOk P w K mg base (CXE P w) 7 d_trail.f d_trail.fd ["steps", "question"] (spTabX K D_Rounds.C C.NoSteps C.TooWide) := by
  have GX_run_narrow : FnOk P w K mg base (CXE P w) 6 _ _ _ _ := okX_run_narrow B Ct C U d_is_whole d_is_below d_joint d_less d_bag_behind d_run d_fault_behind d_run_whole d_refuse_wide d_run_narrow
  refine d_trail.F.okE sc_trail (fun vs H Q E h => ?_) (fun cdv A outer s H vs Q E hr h => ?_)
  · obtain ⟨d, n, a, xs, ss, rfl, _⟩ := h
    rfl
  obtain ⟨d, n, a, xs, ss, rfl, ⟨dx, pg, pt, l, u, c, hd, hg, ht⟩, n10, hA, pA, l8, cs⟩ := h
  refine ⟨_, (pss_cons (ps_asg (pe_call GX_run_narrow hr rfl d_run_narrow.m d_run_narrow.F.kp d_run_narrow.b .nil passE (pa_cons (pe_fldK (K := K) rfl (pv 1) rfl) (pa_cons (pv 0) pa_nil))) (pg_tupK (K := K) (n := 2) rfl rfl (pgs_cons (pg_name (i := 2) sc_trail.nd rfl (Or.inl rfl)) (pgs_cons (pg_name (i := 3) sc_trail.nd rfl (Or.inl rfl)) pgs_nil))))
      pss_never), ?_⟩
  refine ⟨_, rfl, d, _, _, _, V.ref pg, rfl, hd, D_Rounds.cl, D_Rounds.n_graph, rfl, _, rfl, ?_⟩
  exact ⟨.ref pg, n, [], a, xs, ss, rfl, rdq_graph hg ht, n10, hA, pA, l8, cs⟩
end
/-- the refusals of answer -/
def spAnsX (K : PySem.W.Frag) (Cr nt tw : Addr) : Sp := fun vs H Q E => ∃ (d : Addr) (n : Nat) (a : Addr) (rs : List Row), vs = [.ref a, .ref d] ∧ RdQ Cr H d n [] ∧ n ≤ 10 ∧ RowsAt K H a rs ∧ rs.length ≤ 900 ∧
  ((faultF n [] rs ≠ .ok ∧ ∀ p H', Same H H' → H' p = none → E (.ref p) (some nt) H') ∨
   (faultF n [] rs = .ok ∧ (∃ r ∈ rs, 4 < r.2.length) ∧ ∀ p H', Same H H' → H' p = none → E (.ref p) (some tw) H'))
section
variable {P : Program} {w : World} {K : PySem.W.Frag} {mg : Str → Option Value} {base : Heap}
set_option maxHeartbeats 4000000 in
theorem okX_answer (B : Bl mg) (Ct : Cts mg) (C : Cl K mg) (D_Rounds : ObRounds K mg) (d_is_whole : Dn K mg "is_whole" s_is_whole ["thing"]) (d_is_below : Dn K mg "is_below" s_is_below ["n", "thing"]) (d_is_set : Dn K mg "is_set" s_is_set ["n", "places"]) (d_is_up : Dn K mg "is_up" s_is_up ["k", "up"]) (d_row_fault : Dn K mg "row_fault" s_row_fault ["n", "rows"]) (d_place_fault : Dn K mg "place_fault" s_place_fault ["n", "rows"]) (d_tie_fault : Dn K mg "tie_fault" s_tie_fault ["ties", "rows"]) (d_is_held : Dn K mg "is_held" s_is_held ["rows", "up", "v"]) (d_apart_fault : Dn K mg "apart_fault" s_apart_fault ["n", "rows"]) (d_fault : Dn K mg "fault" s_fault ["graph", "rows"]) (d_refuse_wide : Dn K mg "refuse_wide" s_refuse_wide ["bags"]) (d_steps_of : Dn K mg "steps_of" s_steps_of ["graph", "tree"]) (d_answer : Dn K mg "answer" s_answer ["tree", "question"]) : FnOk P w K mg base (CXE P w) 15 d_answer.f d_answer.fd ["tree", "question"] (spAnsX K D_Rounds.C C.NoTree C.TooWide) := by
  have GX_steps_of : FnOk P w K mg base (CXE P w) 14 _ _ _ _ := fn_or (okX_steps_tree B Ct C d_is_whole d_is_below d_is_set d_is_up d_row_fault d_place_fault d_tie_fault d_is_held d_apart_fault d_fault d_refuse_wide d_steps_of) (okX_steps_wide B Ct C d_is_whole d_is_below d_is_set d_is_up d_row_fault d_place_fault d_tie_fault d_is_held d_apart_fault d_fault d_refuse_wide d_steps_of)
  refine d_answer.F.okE sc_answer (fun vs H Q E h => ?_) (fun cdv A outer s H vs Q E hr h => ?_)
  · obtain ⟨d, n, a, rs, rfl, _⟩ := h
    rfl
  obtain ⟨d, n, a, rs, rfl, ⟨dx, pg, pt, l, u, c, hd, hg, ht⟩, n10, hR, l9, cs⟩ := h
  refine ⟨_, (pss_cons (ps_set (i := 2) sc_answer.nd rfl (Or.inl rfl) (pe_call GX_steps_of hr rfl d_steps_of.m d_steps_of.F.kp d_steps_of.b .nil passE (pa_cons (pe_fldK (K := K) rfl (pv 1) rfl) (pa_cons (pv 0) pa_nil))))
      pss_never), ?_⟩
  refine ⟨_, rfl, d, _, _, _, V.ref pg, rfl, hd, D_Rounds.cl, D_Rounds.n_graph, rfl, _, rfl, ?_⟩
  rcases cs with ⟨bad, q⟩ | ⟨okF, big, q⟩
  · exact .inl ⟨.ref pg, n, [], a, rs, rfl, by omega, rdq_graph hg ht, hR, bad, q⟩
  · exact .inr ⟨.ref pg, n, [], a, rs, rfl, n10, rdq_graph hg ht, hR, l9, okF, big, q⟩
end

end K


namespace K
open PySem L2 Lw Bg
abbrev s__law_kind : Stmt := top 83
theorem sc__law_kind : FnScope ["_law_question", "_law_menu", "_law_thing", "_law_found", "_law_e"] ["_law_question", "_law_menu", "_law_thing"] (defScope s__law_kind) := ⟨rfl, rfl, rfl, by decide +kernel, rfl, by decide +kernel, by decide +kernel⟩
section
variable {P : Program} {w : World} {K : PySem.W.Frag} {mg : Str → Option Value} {base : Heap}
def spKind (K : PySem.W.Frag) (Cr : Addr) : Sp := fun vs H Q _ => ∃ (d : Addr) (n m : Nat) (a : Addr), vs = [.ref d, .int m, .ref a] ∧ RdQ Cr H d n [] ∧ n ≤ 10 ∧
  ((m = 0 ∧ ∃ rs : List Row, RowsAt K H a rs ∧ rs.length ≤ 900 ∧ ((faultF n [] rs ≠ .ok ∧ ∀ p H', Same H H' → H p = none → H' p = some (.lst [.bl false, .bl true, .bl false, .bl false]) → Q (.ref p) H') ∨ (faultF n [] rs = .ok ∧ (∃ r ∈ rs, 4 < r.2.length) ∧ ∀ p H', Same H H' → H p = none → H' p = some (.lst [.bl false, .bl false, .bl true, .bl false]) → Q (.ref p) H'))) ∨
   (0 < m ∧ ∃ (xs : List V) (ss : List Stp), SqL K H a xs ∧ Paired (StpV K H) xs ss ∧ ss.length ≤ 800 ∧ ((sfF n [] ss (endR n [] ss) ≠ .ok ∧ ∀ p H', Same H H' → H p = none → H' p = some (.lst [.bl true, .bl false, .bl false, .bl false]) → Q (.ref p) H') ∨ (sfF n [] ss (endR n [] ss) = .ok ∧ (∃ b ∈ (endR n [] ss).tops, 4 < b.length) ∧ ∀ p H', Same H H' → H p = none → H' p = some (.lst [.bl false, .bl false, .bl true, .bl false]) → Q (.ref p) H'))))
set_option maxHeartbeats 4000000 in
theorem ok__law_kind (B : Bl mg) (Ct : Cts mg) (C : Cl K mg) (U : Used w K mg) (D_Rounds : ObRounds K mg) (d_is_whole : Dn K mg "is_whole" s_is_whole ["thing"]) (d_is_below : Dn K mg "is_below" s_is_below ["n", "thing"]) (d_is_set : Dn K mg "is_set" s_is_set ["n", "places"]) (d_is_up : Dn K mg "is_up" s_is_up ["k", "up"]) (d_row_fault : Dn K mg "row_fault" s_row_fault ["n", "rows"]) (d_place_fault : Dn K mg "place_fault" s_place_fault ["n", "rows"]) (d_tie_fault : Dn K mg "tie_fault" s_tie_fault ["ties", "rows"]) (d_is_held : Dn K mg "is_held" s_is_held ["rows", "up", "v"]) (d_apart_fault : Dn K mg "apart_fault" s_apart_fault ["n", "rows"]) (d_fault : Dn K mg "fault" s_fault ["graph", "rows"]) (d_joint : Dn K mg "joint" s_joint ["one", "other"]) (d_less : Dn K mg "less" s_less ["one", "other"]) (d_bag_behind : Dn K mg "bag_behind" s_bag_behind ["graph", "done", "step", "used"]) (d_run : Dn K mg "run" s_run ["graph", "steps"]) (d_fault_behind : Dn K mg "fault_behind" s_fault_behind ["graph", "steps", "tops", "pile"]) (d_run_whole : Dn K mg "run_whole" s_run_whole ["graph", "steps"]) (d_refuse_wide : Dn K mg "refuse_wide" s_refuse_wide ["bags"]) (d_steps_of : Dn K mg "steps_of" s_steps_of ["graph", "tree"]) (d_run_narrow : Dn K mg "run_narrow" s_run_narrow ["graph", "steps"]) (d_tables : Dn K mg "tables" s_tables ["steps", "question"]) (d_trail : Dn K mg "trail" s_trail ["steps", "question"]) (d_answer : Dn K mg "answer" s_answer ["tree", "question"]) (d__law_kind : Dn K mg "_law_kind" s__law_kind ["_law_question", "_law_menu", "_law_thing"]) : FnOk P w K mg base CX0 16 d__law_kind.f d__law_kind.fd ["_law_question", "_law_menu", "_law_thing"] (spKind K D_Rounds.C) := by
  have GX_answer : FnOk P w K mg base (CXE P w) 15 _ _ _ _ := okX_answer B Ct C D_Rounds d_is_whole d_is_below d_is_set d_is_up d_row_fault d_place_fault d_tie_fault d_is_held d_apart_fault d_fault d_refuse_wide d_steps_of d_answer
  have GX_tables : FnOk P w K mg base (CXE P w) 15 _ _ _ _ := (okX_tables B Ct C U D_Rounds d_is_whole d_is_below d_joint d_less d_bag_behind d_run d_fault_behind d_run_whole d_refuse_wide d_run_narrow d_tables).mono (by decide)
  have GX_trail : FnOk P w K mg base (CXE P w) 15 _ _ _ _ := (okX_trail B Ct C U D_Rounds d_is_whole d_is_below d_joint d_less d_bag_behind d_run d_fault_behind d_run_whole d_refuse_wide d_run_narrow d_trail).mono (by decide)
  refine d__law_kind.F.ok sc__law_kind (fun vs H Q E h => ?_) (fun cdv A outer s H vs Q E hr h => ?_)
  · obtain ⟨d, n, m, a, rfl, _⟩ := h
    rfl
  obtain ⟨d, n, m, a, rfl, hD, n10, cs⟩ := h
  refine ⟨_, (pss_cons (ps_set (i := 3) sc__law_kind.nd rfl (Or.inl rfl) (pe_lstN pa_nil))
      (pss_cons (ps_try ⟨rfl, rfl, rfl⟩ (pxss_one (pxs_if (fun _ _ z => z) (pt_cmpR op_eq (pv 1) pe_int (nomark _)) (pxss_one (pxs_expr (pxe_call (fun _ _ z => z) GX_answer hr rfl d_answer.m d_answer.F.kp d_answer.b .nil (pa_cons (pv 2) (pa_cons (pv 0) pa_nil))))) (pxss_one (pxs_if (fun _ _ z => z) (pt_cmpR op_eq (pv 1) pe_int (nomark _)) (pxss_one (pxs_expr (pxe_call (fun _ _ z => z) GX_tables hr rfl d_tables.m d_tables.F.kp d_tables.b .nil (pa_cons (pv 2) (pa_cons (pv 0) pa_nil))))) (pxss_one (pxs_expr (pxe_call (fun _ _ z => z) GX_trail hr rfl d_trail.m d_trail.F.kp d_trail.b .nil (pa_cons (pv 2) (pa_cons (pv 0) pa_nil))))))))) (fun p cc (hc : PySem.W.exmOne K (.ref cc) (.ref C.BagError) = some true) => (ph_as (i := 4) rfl C.m_BagError hc sc__law_kind.nd rfl rfl (pss_one (ps_set (i := 3) sc__law_kind.nd rfl (Or.inl rfl) (pe_lstN (pa_cons (pe_callB (call_isinX (K := K) rfl) rfl B.isinstance (by decide +kernel) (pa_cons (pv 4) (pa_cons (pe_glob (v := .ref C.NoSteps) (u := .ref C.NoSteps) rfl C.m_NoSteps rfl) pa_nil))) (pa_cons (pe_callB (call_isinX (K := K) rfl) rfl B.isinstance (by decide +kernel) (pa_cons (pv 4) (pa_cons (pe_glob (v := .ref C.NoTree) (u := .ref C.NoTree) rfl C.m_NoTree rfl) pa_nil))) (pa_cons (pe_callB (call_isinX (K := K) rfl) rfl B.isinstance (by decide +kernel) (pa_cons (pv 4) (pa_cons (pe_glob (v := .ref C.TooWide) (u := .ref C.TooWide) rfl C.m_TooWide rfl) pa_nil))) (pa_cons (pe_callB (call_isinX (K := K) rfl) rfl B.isinstance (by decide +kernel) (pa_cons (pv 4) (pa_cons (pe_glob (v := .ref C.NoWeights) (u := .ref C.NoWeights) rfl C.m_NoWeights rfl) pa_nil))) pa_nil))))))))))
      (pss_one (ps_ret (pv 3))))), ?_⟩
  refine ⟨(by show 0 ≤ 1000; decide), fun pf H1 n1 => ?_⟩
  have s1 := n1.same
  have hD1 : RdQ D_Rounds.C H1 d n [] := by
    obtain ⟨dx, pg, pt, l, u, c, h1, h2, h3⟩ := hD
    exact ⟨dx, pg, pt, l, u, c, s1 _ _ h1, s1 _ _ h2, s1 _ _ h3⟩
  refine ⟨_, rfl, rfl, _, rfl, ?_⟩
  rcases cs with ⟨rfl, rs, hR, l9, cs⟩ | ⟨m0, xs, ss, hA, pA, l8, cs⟩
  · rw [show decide (V.int ((0 : Nat) : Int) = V.int 0) = true from decide_eq_true rfl]
    have hR1 : RowsAt K H1 a rs := hR.same s1
    refine iteT ⟨_, rfl, _, rfl, d, n, a, rs, rfl, hD1, n10, hR1, l9, ?_⟩
    rcases cs with ⟨bad, q⟩ | ⟨okF, big, q⟩
    · refine .inl ⟨bad, fun p H2 s2 hp p' cc e1 e2 => ?_⟩
      cases e1
      cases e2
      refine ⟨C.x_NoTree_BagError, ?_⟩
      have he : upd H2 p (ExcO p C.NoTree) p = some (ExcO p C.NoTree) := upd_same
      have hs : Same H2 (upd H2 p (ExcO p C.NoTree)) := same_new hp _
      generalize upd H2 p (ExcO p C.NoTree) = G2 at he hs ⊢
      refine ⟨_, rfl, p, _, _, _, _, rfl, he, C.k_NoTree, rfl, C.q_NoTree_NoSteps, _, rfl, p, _, _, _, _, rfl, he, C.k_NoTree, rfl, C.q_NoTree_NoTree, _, rfl, p, _, _, _, _, rfl, he, C.k_NoTree, rfl, C.q_NoTree_TooWide, _, rfl, p, _, _, _, _, rfl, he, C.k_NoTree, rfl, C.q_NoTree_NoWeights, (by show 4 ≤ 1000; decide), fun p5 H5 n5 => ⟨_, rfl, ?_⟩⟩
      exact q p5 H5 (s1.trans (s2.trans (hs.trans n5.same))) ((s1.trans (s2.trans hs)).free n5.fresh) n5.here
    · refine .inr ⟨okF, big, fun p H2 s2 hp p' cc e1 e2 => ?_⟩
      cases e1
      cases e2
      refine ⟨C.x_TooWide_BagError, ?_⟩
      have he : upd H2 p (ExcO p C.TooWide) p = some (ExcO p C.TooWide) := upd_same
      have hs : Same H2 (upd H2 p (ExcO p C.TooWide)) := same_new hp _
      generalize upd H2 p (ExcO p C.TooWide) = G2 at he hs ⊢
      refine ⟨_, rfl, p, _, _, _, _, rfl, he, C.k_TooWide, rfl, C.q_TooWide_NoSteps, _, rfl, p, _, _, _, _, rfl, he, C.k_TooWide, rfl, C.q_TooWide_NoTree, _, rfl, p, _, _, _, _, rfl, he, C.k_TooWide, rfl, C.q_TooWide_TooWide, _, rfl, p, _, _, _, _, rfl, he, C.k_TooWide, rfl, C.q_TooWide_NoWeights, (by show 4 ≤ 1000; decide), fun p5 H5 n5 => ⟨_, rfl, ?_⟩⟩
      exact q p5 H5 (s1.trans (s2.trans (hs.trans n5.same))) ((s1.trans (s2.trans hs)).free n5.fresh) n5.here
  · rw [show decide (V.int (m : Int) = V.int 0) = false from decide_eq_false (fun e => by have := V.int.inj e; omega)]
    refine iteF ⟨_, rfl, rfl, _, rfl, ?_⟩
    have pA1 : Paired (StpV K H1) xs ss := Paired.mapP pA fun _ _ h => h.same s1
    by_cases c : m = 1
    · rw [decide_eq_true (show V.int (m : Int) = V.int 1 by rw [c]; rfl)]
      refine iteT ⟨_, rfl, _, rfl, d, n, a, xs, ss, rfl, hD1, n10, s1.seq hA, pA1, l8, ?_⟩
      rcases cs with ⟨bad, q⟩ | ⟨okF, big, q⟩
      · refine .inl ⟨bad, fun p H2 s2 hp p' cc e1 e2 => ?_⟩
        cases e1
        cases e2
        refine ⟨C.x_NoSteps_BagError, ?_⟩
        have he : upd H2 p (ExcO p C.NoSteps) p = some (ExcO p C.NoSteps) := upd_same
        have hs : Same H2 (upd H2 p (ExcO p C.NoSteps)) := same_new hp _
        generalize upd H2 p (ExcO p C.NoSteps) = G2 at he hs ⊢
        refine ⟨_, rfl, p, _, _, _, _, rfl, he, C.k_NoSteps, rfl, C.q_NoSteps_NoSteps, _, rfl, p, _, _, _, _, rfl, he, C.k_NoSteps, rfl, C.q_NoSteps_NoTree, _, rfl, p, _, _, _, _, rfl, he, C.k_NoSteps, rfl, C.q_NoSteps_TooWide, _, rfl, p, _, _, _, _, rfl, he, C.k_NoSteps, rfl, C.q_NoSteps_NoWeights, (by show 4 ≤ 1000; decide), fun p5 H5 n5 => ⟨_, rfl, ?_⟩⟩
        exact q p5 H5 (s1.trans (s2.trans (hs.trans n5.same))) ((s1.trans (s2.trans hs)).free n5.fresh) n5.here
      · refine .inr ⟨okF, big, fun p H2 s2 hp p' cc e1 e2 => ?_⟩
        cases e1
        cases e2
        refine ⟨C.x_TooWide_BagError, ?_⟩
        have he : upd H2 p (ExcO p C.TooWide) p = some (ExcO p C.TooWide) := upd_same
        have hs : Same H2 (upd H2 p (ExcO p C.TooWide)) := same_new hp _
        generalize upd H2 p (ExcO p C.TooWide) = G2 at he hs ⊢
        refine ⟨_, rfl, p, _, _, _, _, rfl, he, C.k_TooWide, rfl, C.q_TooWide_NoSteps, _, rfl, p, _, _, _, _, rfl, he, C.k_TooWide, rfl, C.q_TooWide_NoTree, _, rfl, p, _, _, _, _, rfl, he, C.k_TooWide, rfl, C.q_TooWide_TooWide, _, rfl, p, _, _, _, _, rfl, he, C.k_TooWide, rfl, C.q_TooWide_NoWeights, (by show 4 ≤ 1000; decide), fun p5 H5 n5 => ⟨_, rfl, ?_⟩⟩
        exact q p5 H5 (s1.trans (s2.trans (hs.trans n5.same))) ((s1.trans (s2.trans hs)).free n5.fresh) n5.here
    · rw [show decide (V.int (m : Int) = V.int 1) = false from decide_eq_false (fun e => by have := V.int.inj e; omega)]
      refine iteF ⟨_, rfl, _, rfl, d, n, a, xs, ss, rfl, hD1, n10, s1.seq hA, pA1, l8, ?_⟩
      rcases cs with ⟨bad, q⟩ | ⟨okF, big, q⟩
      · refine .inl ⟨bad, fun p H2 s2 hp p' cc e1 e2 => ?_⟩
        cases e1
        cases e2
        refine ⟨C.x_NoSteps_BagError, ?_⟩
        have he : upd H2 p (ExcO p C.NoSteps) p = some (ExcO p C.NoSteps) := upd_same
        have hs : Same H2 (upd H2 p (ExcO p C.NoSteps)) := same_new hp _
        generalize upd H2 p (ExcO p C.NoSteps) = G2 at he hs ⊢
        refine ⟨_, rfl, p, _, _, _, _, rfl, he, C.k_NoSteps, rfl, C.q_NoSteps_NoSteps, _, rfl, p, _, _, _, _, rfl, he, C.k_NoSteps, rfl, C.q_NoSteps_NoTree, _, rfl, p, _, _, _, _, rfl, he, C.k_NoSteps, rfl, C.q_NoSteps_TooWide, _, rfl, p, _, _, _, _, rfl, he, C.k_NoSteps, rfl, C.q_NoSteps_NoWeights, (by show 4 ≤ 1000; decide), fun p5 H5 n5 => ⟨_, rfl, ?_⟩⟩
        exact q p5 H5 (s1.trans (s2.trans (hs.trans n5.same))) ((s1.trans (s2.trans hs)).free n5.fresh) n5.here
      · refine .inr ⟨okF, big, fun p H2 s2 hp p' cc e1 e2 => ?_⟩
        cases e1
        cases e2
        refine ⟨C.x_TooWide_BagError, ?_⟩
        have he : upd H2 p (ExcO p C.TooWide) p = some (ExcO p C.TooWide) := upd_same
        have hs : Same H2 (upd H2 p (ExcO p C.TooWide)) := same_new hp _
        generalize upd H2 p (ExcO p C.TooWide) = G2 at he hs ⊢
        refine ⟨_, rfl, p, _, _, _, _, rfl, he, C.k_TooWide, rfl, C.q_TooWide_NoSteps, _, rfl, p, _, _, _, _, rfl, he, C.k_TooWide, rfl, C.q_TooWide_NoTree, _, rfl, p, _, _, _, _, rfl, he, C.k_TooWide, rfl, C.q_TooWide_TooWide, _, rfl, p, _, _, _, _, rfl, he, C.k_TooWide, rfl, C.q_TooWide_NoWeights, (by show 4 ≤ 1000; decide), fun p5 H5 n5 => ⟨_, rfl, ?_⟩⟩
        exact q p5 H5 (s1.trans (s2.trans (hs.trans n5.same))) ((s1.trans (s2.trans hs)).free n5.fresh) n5.here
end

end K


namespace K
open PySem L2 Lw Bg
abbrev s__law_other_kind : Stmt := top 81
theorem sc__law_other_kind : FnScope ["_law_e"] ["_law_e"] (defScope s__law_other_kind) := ⟨rfl, rfl, rfl, by decide +kernel, rfl, by decide +kernel, by decide +kernel⟩
abbrev s__law_refused : Stmt := top 82
theorem sc__law_refused : FnScope ["_law_web", "_law_prices", "_law_e"] ["_law_web", "_law_prices"] (defScope s__law_refused) := ⟨rfl, rfl, rfl, by decide +kernel, rfl, by decide +kernel, by decide +kernel⟩
def spOtherK (K : PySem.W.Frag) (nb : Addr) : Sp := fun vs H Q _ => ∃ (p : Addr), vs = [.ref p] ∧ H p = some (ExcO p nb) ∧ Q (.bl false) H
def spRefd75 (K : PySem.W.Frag) : Sp := fun vs H Q _ => ∃ (g t : Addr) (n : Nat) (xs : List V) (ws : List Int) (a : Addr), vs = [.ref g, .ref a] ∧ SqT K H g [.int n, .ref t] ∧ H t = some (.lst xs) ∧ SqL K H a (ws.map V.int) ∧ xs.length ≤ 100 ∧ ws.length ≤ 200 ∧ wtOk xs.length (some ws) = false ∧ ∀ H', Same H H' → Q (.bl true) H'
section
variable {P : Program} {w : World} {K : PySem.W.Frag} {mg : Str → Option Value} {base : Heap}
set_option maxHeartbeats 4000000 in
theorem okH__law_other_kind (B : Bl mg) (C : Cl K mg) (d__law_other_kind : Dn K mg "_law_other_kind" s__law_other_kind ["_law_e"]) : FnOkH P w K mg base 1 d__law_other_kind.f d__law_other_kind.fd ["_law_e"] (spOtherK K C.NoWeights) := by
  refine d__law_other_kind.F.okH sc__law_other_kind (fun vs H Q E h => ?_) (fun cdv A outer s H vs Q E hr h => ?_)
  · obtain ⟨p, rfl, _⟩ := h
    rfl
  obtain ⟨p, rfl, he, q⟩ := h
  refine ⟨_, (pss_cons (ps_if (PW.pt (pw_or (pt_truthK (K := K) rfl (pe_callB (call_isinX (K := K) rfl) rfl B.isinstance (by decide +kernel) (pa_cons (pv 0) (pa_cons (pe_glob (v := .ref C.NoGraph) (u := .ref C.NoGraph) rfl C.m_NoGraph rfl) pa_nil))) (fun _ => rfl)) (pw_or (pt_truthK (K := K) rfl (pe_callB (call_isinX (K := K) rfl) rfl B.isinstance (by decide +kernel) (pa_cons (pv 0) (pa_cons (pe_glob (v := .ref C.NoPlace) (u := .ref C.NoPlace) rfl C.m_NoPlace rfl) pa_nil))) (fun _ => rfl)) (pw_or (pt_truthK (K := K) rfl (pe_callB (call_isinX (K := K) rfl) rfl B.isinstance (by decide +kernel) (pa_cons (pv 0) (pa_cons (pe_glob (v := .ref C.NoTie) (u := .ref C.NoTie) rfl C.m_NoTie rfl) pa_nil))) (fun _ => rfl)) (pw_or1 (pt_truthK (K := K) rfl (pe_callB (call_isinX (K := K) rfl) rfl B.isinstance (by decide +kernel) (pa_cons (pv 0) (pa_cons (pe_glob (v := .ref C.NoBag) (u := .ref C.NoBag) rfl C.m_NoBag rfl) pa_nil))) (fun _ => rfl)))))))
      (pss_one (ps_ret pe_bl))
      pss_nil)
      (pss_cons (ps_if (PW.pt (pw_or (pt_truthK (K := K) rfl (pe_callB (call_isinX (K := K) rfl) rfl B.isinstance (by decide +kernel) (pa_cons (pv 0) (pa_cons (pe_glob (v := .ref C.NoTree) (u := .ref C.NoTree) rfl C.m_NoTree rfl) pa_nil))) (fun _ => rfl)) (pw_or (pt_truthK (K := K) rfl (pe_callB (call_isinX (K := K) rfl) rfl B.isinstance (by decide +kernel) (pa_cons (pv 0) (pa_cons (pe_glob (v := .ref C.NoOrder) (u := .ref C.NoOrder) rfl C.m_NoOrder rfl) pa_nil))) (fun _ => rfl)) (pw_or (pt_truthK (K := K) rfl (pe_callB (call_isinX (K := K) rfl) rfl B.isinstance (by decide +kernel) (pa_cons (pv 0) (pa_cons (pe_glob (v := .ref C.NoSteps) (u := .ref C.NoSteps) rfl C.m_NoSteps rfl) pa_nil))) (fun _ => rfl)) (pw_or1 (pt_truthK (K := K) rfl (pe_callB (call_isinX (K := K) rfl) rfl B.isinstance (by decide +kernel) (pa_cons (pv 0) (pa_cons (pe_glob (v := .ref C.TooWide) (u := .ref C.TooWide) rfl C.m_TooWide rfl) pa_nil))) (fun _ => rfl)))))))
      (pss_one (ps_ret pe_bl))
      pss_nil)
      (pss_cons (ps_if (PW.pt (pw_or (pt_truthK (K := K) rfl (pe_callB (call_isinX (K := K) rfl) rfl B.isinstance (by decide +kernel) (pa_cons (pv 0) (pa_cons (pe_glob (v := .ref C.NoColours) (u := .ref C.NoColours) rfl C.m_NoColours rfl) pa_nil))) (fun _ => rfl)) (pw_or (pt_truthK (K := K) rfl (pe_callB (call_isinX (K := K) rfl) rfl B.isinstance (by decide +kernel) (pa_cons (pv 0) (pa_cons (pe_glob (v := .ref C.NoPart) (u := .ref C.NoPart) rfl C.m_NoPart rfl) pa_nil))) (fun _ => rfl)) (pw_or (pt_truthK (K := K) rfl (pe_callB (call_isinX (K := K) rfl) rfl B.isinstance (by decide +kernel) (pa_cons (pv 0) (pa_cons (pe_glob (v := .ref C.NoNumber) (u := .ref C.NoNumber) rfl C.m_NoNumber rfl) pa_nil))) (fun _ => rfl)) (pw_or1 (pt_truthK (K := K) rfl (pe_callB (call_isinX (K := K) rfl) rfl B.isinstance (by decide +kernel) (pa_cons (pv 0) (pa_cons (pe_glob (v := .ref C.NoName) (u := .ref C.NoName) rfl C.m_NoName rfl) pa_nil))) (fun _ => rfl)))))))
      (pss_one (ps_ret pe_bl))
      pss_nil)
      (pss_one (ps_ret (pe_or (pe_callB (call_isinX (K := K) rfl) rfl B.isinstance (by decide +kernel) (pa_cons (pv 0) (pa_cons (pe_glob (v := .ref C.NoText) (u := .ref C.NoText) rfl C.m_NoText rfl) pa_nil))) (pe_one (pe_callB (call_isinX (K := K) rfl) rfl B.isinstance (by decide +kernel) (pa_cons (pv 0) (pa_cons (pe_glob (v := .ref C.NoRow) (u := .ref C.NoRow) rfl C.m_NoRow rfl) pa_nil)))))))))), ?_⟩
  have no : ∀ {c : Addr} {σ : St} {Q : Bool → Hp → Prop}, σ = [some (.ref p)] → PySem.W.kitOne K (.ref C.NoWeights) (.ref c) = some false → Q false H → tTru K (tCB (rIsinX K) (tCons (tVar 0) (tCons (tC (V.ref c)) tNil))) σ H Q := fun {c σ Q} e h q => by
    subst e
    exact ⟨_, rfl, p, _, _, _, _, rfl, he, C.k_NoWeights, rfl, h, _, rfl, q⟩
  have f4 : ∀ {a b c d : TT} {σ : St} {Q : Bool → Hp → Prop}, (∀ Q : Bool → Hp → Prop, Q false H → a σ H Q) → (∀ Q : Bool → Hp → Prop, Q false H → b σ H Q) → (∀ Q : Bool → Hp → Prop, Q false H → c σ H Q) → (∀ Q : Bool → Hp → Prop, Q false H → d σ H Q) → Q false H → tOr a (tOr b (tOr c d)) σ H Q := fun {a b c d σ Q} h1 h2 h3 h4 q => h1 _ (iteF (h2 _ (iteF (h3 _ (iteF (h4 _ q))))))
  refine f4 (fun Q h => no rfl C.q_NoWeights_NoGraph h) (fun Q h => no rfl C.q_NoWeights_NoPlace h) (fun Q h => no rfl C.q_NoWeights_NoTie h) (fun Q h => no rfl C.q_NoWeights_NoBag h) (iteF ?_)
  refine f4 (fun Q h => no rfl C.q_NoWeights_NoTree h) (fun Q h => no rfl C.q_NoWeights_NoOrder h) (fun Q h => no rfl C.q_NoWeights_NoSteps h) (fun Q h => no rfl C.q_NoWeights_TooWide h) (iteF ?_)
  refine f4 (fun Q h => no rfl C.q_NoWeights_NoColours h) (fun Q h => no rfl C.q_NoWeights_NoPart h) (fun Q h => no rfl C.q_NoWeights_NoNumber h) (fun Q h => no rfl C.q_NoWeights_NoName h) (iteF ?_)
  exact ⟨_, rfl, p, _, _, _, _, rfl, he, C.k_NoWeights, rfl, C.q_NoWeights_NoText, _, rfl, iteF ⟨_, rfl, p, _, _, _, _, rfl, he, C.k_NoWeights, rfl, C.q_NoWeights_NoRow, q⟩⟩
set_option maxHeartbeats 4000000 in
theorem ok__law_refused (B : Bl mg) (Bz : mg "zip" = none) (Ct : Cts mg) (C : Cl K mg) (D_Question : ObQuestion K mg) (D_Rounds : ObRounds K mg) (d_is_whole : Dn K mg "is_whole" s_is_whole ["thing"]) (d_is_below : Dn K mg "is_below" s_is_below ["n", "thing"]) (d_weights_of : Dn K mg "weights_of" s_weights_of ["many", "weights"]) (d_costs_of : Dn K mg "costs_of" s_costs_of ["ties", "costs"]) (d__law_other_kind : Dn K mg "_law_other_kind" s__law_other_kind ["_law_e"]) (d__law_refused : Dn K mg "_law_refused" s__law_refused ["_law_web", "_law_prices"]) : FnOk P w K mg base CX0 7 d__law_refused.f d__law_refused.fd ["_law_web", "_law_prices"] (spRefd75 K) := by
  have GX_Rounds___init__ : FnOk P w K mg base (CXE P w) 5 _ _ _ _ := okX_Rounds_init B Bz Ct C D_Question D_Rounds d_is_whole d_is_below d_weights_of d_costs_of
  have GH__law_other_kind : FnOkH P w K mg base 6 _ _ _ _ := (okH__law_other_kind B C d__law_other_kind).mono (by decide)
  refine d__law_refused.F.ok sc__law_refused (fun vs H Q E h => ?_) (fun cdv A outer s H vs Q E hr h => ?_)
  · obtain ⟨g, t, n, xs, ws, a, rfl, _⟩ := h
    rfl
  obtain ⟨g, t, n, xs, ws, a, rfl, hg, ht, hA, lx, lw, no, q⟩ := h
  refine ⟨_, (pss_cons (ps_try ⟨rfl, rfl, rfl⟩ (pxss_one (pxs_expr (pxe_make (fun _ _ z => z) D_Rounds.mkd GX_Rounds___init__ hr rfl D_Rounds.m D_Rounds.d___init__.b .nil (pa_cons (pv 0) (pa_cons (pv 1) pa_nil))))) (fun p cc (hc : PySem.W.exmOne K (.ref cc) (.ref C.BagError) = some true) => (ph_as (i := 2) rfl C.m_BagError hc sc__law_refused.nd rfl rfl (pss_one (ps_ret (pe_and (pe_callB (call_isinX (K := K) rfl) rfl B.isinstance (by decide +kernel) (pa_cons (pv 2) (pa_cons (pe_glob (v := .ref C.NoWeights) (u := .ref C.NoWeights) rfl C.m_NoWeights rfl) pa_nil))) (pe_and (pe_callB (call_isinX (K := K) rfl) rfl B.isinstance (by decide +kernel) (pa_cons (pv 2) (pa_cons (pe_bltn (v := .ty "ValueError") (u := .type "ValueError") rfl B.ValueError (by decide +kernel) rfl) pa_nil))) (pe_one (pe_not (pe_callH GH__law_other_kind (hr.h.mark _) rfl d__law_other_kind.m d__law_other_kind.F.kp d__law_other_kind.b .nil (pa_cons (pv 2) pa_nil)))))))))))
      (pss_one (ps_ret pe_bl))), ?_⟩
  refine ⟨_, rfl, _, rfl, fun d dx fd fx ne => ?_⟩
  have s0 : Same H (upd (upd H dx (.own d)) d (.ins D_Rounds.C dx [])) := (same_new fx _).trans (same_new (by rw [upd_ne (Ne.symm ne)]; exact fd) _)
  have hd : upd (upd H dx (.own d)) d (.ins D_Rounds.C dx []) d = some (.ins D_Rounds.C dx []) := upd_same
  generalize upd (upd H dx (.own d)) d (.ins D_Rounds.C dx []) = H0 at s0 hd ⊢
  refine ⟨d, dx, g, t, n, xs, ws, a, rfl, hd, s0.tupq hg, s0 _ _ ht, s0.seq hA, lx, lw, no, fun p H1 e1' hp p' cc e1 e2 => ?_⟩
  have s1 : Same H H1 := fun c o hc => e1' c o (fun z => by rw [z, fd] at hc; cases hc) (s0 _ _ hc)
  cases e1
  cases e2
  refine ⟨C.x_NoWeights_BagError, ?_⟩
  have he : upd H1 p (ExcO p C.NoWeights) p = some (ExcO p C.NoWeights) := upd_same
  have hs : Same H1 (upd H1 p (ExcO p C.NoWeights)) := same_new hp _
  generalize upd H1 p (ExcO p C.NoWeights) = G1 at he hs ⊢
  refine ⟨_, rfl, p, _, _, _, _, rfl, he, C.k_NoWeights, rfl, C.q_NoWeights_NoWeights, _, rfl, iteT ?_⟩
  refine ⟨_, rfl, p, _, _, _, _, rfl, he, C.k_NoWeights, rfl, C.v_NoWeights, _, rfl, iteT ?_⟩
  exact ⟨_, rfl, p, rfl, he, _, rfl, q G1 (s1.trans hs)⟩
end

end K

namespace L2
open PySem PySem.Spec PySem.Calls PyProof.Rows
section
variable {X : Cx}
/-- the numbers of a walk, as values -/
theorem vals_range : ∀ (n : Nat) (acc : List Value), (∀ i : Nat, i < n → ∃ t, acc[i]? = some (Value.int ((i : Nat) : Int) t)) → acc.length = n → Vals ((List.range n).map fun i => V.int ((i : Nat) : Int)) acc
  | 0, acc, _, hl => by rw [List.eq_nil_of_length_eq_zero hl]; exact .nil
  | n + 1, acc, h, hl => by
    have hne : acc ≠ [] := fun z => by rw [z] at hl; cases hl
    have e := (List.dropLast_concat_getLast hne).symm
    have ld : acc.dropLast.length = n := by rw [List.length_dropLast]; omega
    rw [List.range_succ, List.map_append, e]
    refine Vals.append (vals_range n acc.dropLast (fun i hi => ?_) ld) ?_
    · obtain ⟨t, et⟩ := h i (by omega)
      rw [e, List.getElem?_append_left (by omega)] at et
      exact ⟨t, et⟩
    · obtain ⟨t, et⟩ := h n (by omega)
      rw [e, List.getElem?_append_right (by omega), ld] at et
      simp at et
      rw [et]
      exact .cons ⟨t, rfl⟩ .nil
theorem range_list {pins : List (Addr × Obj)} {σ : St} {H : Hp} {s : Shared} {Q : VK} {E : Value → Shared → Prop} {n : Nat} {t u v : Tok} {tk : Nat} (I : Inv X pins σ H s) (cm : X.calm = true) (hn : n ≤ 1000)
    (q : ∀ p H', New H p (.lst ((List.range n).map fun i => V.int ((i : Nat) : Int))) H' → Q (.ref p) H') :
    wpAny (model X.prog X.w) X.A (call (.type "list") [.ref s.heap.objs.size]) (EP X pins σ Q) E { s with heap := s.heap.push { cls := .type "range", data := .fields #[.int 0 t, .int n u, .int 1 v] }, toks := tk } := by
  have I2 : Inv X pins σ H { s with heap := s.heap.push { cls := .type "range", data := .fields #[.int 0 t, .int n u, .int 1 v] }, toks := tk } := I.kept fun b o e => Heap.get?_push_of_some _ e
  refine call_list_range (I2.ok.hd cm) (IsRange.new ..) (small_one (by omega) (by omega) (by omega) (by omega)) (n := n) (by rw [rangeSize_one]; split <;> omega) (by omega) fun h' tk' acc' c' hk hS hacc => ?_
  refine ⟨.ref _, _, I2.laid (t' := tk') hk (Nat.le_refl _) (show ObjOk X.prog X.w _ h' _ (.lst ((List.range n).map fun i => V.int ((i : Nat) : Int))) from ⟨?_, acc'.toList, c', ?_, ?_⟩), rfl, q _ _ (New.mk0 (I2.hok.fresh (Nat.le_refl _)))⟩
  · rw [List.length_map, List.length_range]; exact Nat.le_of_lt (small1000 hn)
  · refine vals_range n _ (fun i hi => ?_) ?_
    · have hlt : i < acc'.size := by have := hacc.1; omega
      obtain ⟨t, e⟩ := hacc.2 i acc'[i] (Array.getElem?_eq_getElem hlt)
      refine ⟨t, ?_⟩
      rw [Array.getElem?_toList, Array.getElem?_eq_getElem hlt, e]
      congr 2
      omega
    · rw [Array.length_toList]; exact hacc.1
  · simpa using hS
/-- list(range(n)) -/
def tListR (ta : TA) : TE := fun σ H Q => ta σ H fun vs H1 => ∃ n : Nat, vs = [.int (n : Int)] ∧ n ≤ 1000 ∧ ∀ p H', New H1 p (.lst ((List.range n).map fun i => V.int ((i : Nat) : Int))) H' → Q (.ref p) H'
theorem pe_listR {a : Expr} {ta : TA} {p p2 pos pos2 : Pos} (cm : X.calm = true) (hm : X.mg "list" = none) (hm2 : X.mg "range" = none) (ha : PA X [a] ta) (hg : Gl X "list" := by rfl) (hg2 : Gl X "range" := by rfl)
    (hs : starEach [a] X.env = [(false, eval a X.env)] := by rfl)
    (he : starEach [Expr.Call (.Name "range" p2) [a] [] pos2] X.env = [(false, eval (Expr.Call (.Name "range" p2) [a] [] pos2) X.env)] := by rfl) :
    PE X (.Call (.Name "list" p) [.Call (.Name "range" p2) [a] [] pos2] [] pos) (tListR ta) := by
  intro pins s σ H Q I h
  refine wpAny_Call_Name_kw (ld_blt I hg hm (show bootBuiltins "list" = some (.type "list") by decide +kernel) ?_)
  refine PyProof.Rows.callWith_type1 ?_ he rfl
  rw [he]
  refine Calls.spliced_cons ?_
  refine Call_ (ld_blt I hg2 hm2 boot_range (PyProof.Rows.callWith_type1 (thn (ha pos2 pins s σ H _ I h) fun us s1 ⟨vs, H1, I1, r1, q1⟩ => ?_) hs rfl))
  obtain ⟨n, e, hn, q⟩ := q1
  subst e
  cases r1 with
  | cons r rr =>
    cases rr
    obtain ⟨t, rfl⟩ := r
    refine call_range_1 ?_
    refine Calls.spliced_nil ?_
    exact range_list I1 cm hn q
end
end L2


namespace K
open PySem L2 Lw Bg
abbrev s__law_along_refused : Stmt := top 84
theorem sc__law_along_refused : FnScope ["_law_n", "_law_question", "_law_steps", "_law_menu"] ["_law_n"] (defScope s__law_along_refused) := ⟨rfl, rfl, rfl, by decide +kernel, rfl, by decide +kernel, by decide +kernel⟩
def alI (n : Nat) : List Stp := (List.range n).map fun v : Nat => Stp.inn (v : Int)
def alO (n : Nat) : List Stp := (List.range n).map fun v : Nat => Stp.out (v : Int)
def alS (n : Nat) : List Stp := ([Stp.leaf] ++ alI n) ++ alO n
def sfit : SFlt → Bool
  | .ok => true
  | _ => false
theorem sfit_t {f : SFlt} (h : sfit f = true) : f = .ok := by cases f <;> first | rfl | cases h
theorem sfit_f {f : SFlt} (h : sfit f = false) : f ≠ .ok := fun z => by rw [z] at h; cases h
def alB (n : Nat) : List Int := (List.range n).map fun v : Nat => (v : Int)
theorem al_ok : ∀ m : Fin 6, sfit (sfF (m.val + 5) [] (alS (m.val + 5)) (endR (m.val + 5) [] (alS (m.val + 5)))) = true := by decide +kernel
theorem al_cut : ∀ m : Fin 6, sfit (sfF (m.val + 5) [] (alS (m.val + 5)).dropLast (endR (m.val + 5) [] (alS (m.val + 5)).dropLast)) = false := by decide +kernel
theorem al_big : ∀ m : Fin 6, (endR (m.val + 5) [] (alS (m.val + 5))).tops.any (fun b => decide (4 < b.length)) = true := by decide +kernel
theorem al_0 : ∀ m : Fin 6, decide (faultF (m.val + 5) [] [] = .ok) = false := by decide +kernel
theorem al_1 : ∀ m : Fin 6, decide (faultF (m.val + 5) [] [(none, alB (m.val + 4))] = .ok) = false := by decide +kernel
theorem al_2 : ∀ m : Fin 6, decide (faultF (m.val + 5) [] [(none, alB (m.val + 5))] = .ok) = true := by decide +kernel
def StpL (H : Hp) (v : V) (s : Stp) : Prop := ∃ p, v = .ref p ∧ H p = some (.tup s.vs)
theorem StpL.keep {H H' : Hp} {v : V} {s : Stp} (k : Same H H') (h : StpL H v s) : StpL H' v s := by
  obtain ⟨p, e, h⟩ := h
  exact ⟨p, e, k _ _ h⟩
theorem StpL.v {K : PySem.W.Frag} {H : Hp} {v : V} {s : Stp} (h : StpL H v s) : StpV K H v s := by
  obtain ⟨p, e, h⟩ := h
  exact ⟨p, e, SqT.of h⟩
theorem pairedA {α β : Type} {R : α → β → Prop} : ∀ {xs xs' : List α} {ys ys' : List β}, Paired R xs ys → Paired R xs' ys' → Paired R (xs ++ xs') (ys ++ ys')
  | [], _, [], _, _, h => h
  | _ :: _, _, _ :: _, _, .cons h t, h' => .cons h (pairedA t h')
theorem cut_1 (xs : List V) : cutV xs none (some (-1)) = xs.dropLast := by
  unfold cutV
  have e0 : HT.sIx xs.length 0 none = 0 := rfl
  have e : HT.sIx xs.length xs.length (some (-1)) = xs.length - 1 := by
    show (if (-1 : Int) < 0 then ((-1 : Int) + (xs.length : Int)).toNat else min (-1 : Int).toNat xs.length) = _
    rw [if_pos (by decide)]
    omega
  rw [e0, e, List.drop_zero, Nat.sub_zero, List.dropLast_eq_take]
theorem paired_cut {α β : Type} {R : α → β → Prop} : ∀ {xs : List α} {ys : List β}, Paired R xs ys → Paired R xs.dropLast ys.dropLast
  | [], _, .nil => .nil
  | [_], _, .cons _ .nil => .nil
  | _ :: _ :: _, _, .cons h (.cons h' t) => .cons h (paired_cut (.cons h' t))
theorem al_len (n : Nat) : (alS n).length = 1 + 2 * n := by
  unfold alS alI alO
  rw [List.length_append, List.length_append, List.length_map, List.length_map, List.length_range]
  show 1 + n + n = _
  omega
theorem RdQ.keep {C : Addr} {H H' : Hp} {d : Addr} {n : Nat} {xs : List V} (k : Same H H') (h : RdQ C H d n xs) : RdQ C H' d n xs := by
  obtain ⟨dx, pg, pt, l, u, c, h1, h2, h3⟩ := h
  exact ⟨dx, pg, pt, l, u, c, k _ _ h1, k _ _ h2, k _ _ h3⟩
theorem isd4 {K : PySem.W.Frag} {H : Hp} {p : Addr} {a b c d : Bool} (h : H p = some (.lst [.bl a, .bl b, .bl c, .bl d])) : IsD K H (.ref p) (.list [.bool a, .bool b, .bool c, .bool d]) := .lst (SqL.of h) (.cons (.bl a) (.cons (.bl b) (.cons (.bl c) (.cons (.bl d) .nil))))
theorem sh4 : ∀ a b c d : Bool, SeqAt.shaped (.list [.bool a, .bool b, .bool c, .bool d]) = true := by decide
theorem eq4 : ∀ a b c d : Bool, PyData.eqv (.list [.bool a, .bool b, .bool c, .bool d]) (.list [.bool a, .bool b, .bool c, .bool d]) = true := by decide
def spAlong (K : PySem.W.Frag) : Sp := fun vs H Q _ => ∃ (n : Nat), vs = [.int n] ∧ 5 ≤ n ∧ n ≤ 10 ∧ ∀ H', Same H H' → Q (.bl true) H'
section
variable {P : Program} {w : World} {K : PySem.W.Frag} {mg : Str → Option Value} {base : Heap}
set_option maxHeartbeats 4000000 in
theorem ok__law_along_refused (B : Bl mg) (Bz : mg "zip" = none) (Ct : Cts mg) (C : Cl K mg) (U : Used w K mg) (D_Question : ObQuestion K mg) (D_Rounds : ObRounds K mg) (d_is_whole : Dn K mg "is_whole" s_is_whole ["thing"]) (d_is_below : Dn K mg "is_below" s_is_below ["n", "thing"]) (d_weights_of : Dn K mg "weights_of" s_weights_of ["many", "weights"]) (d_costs_of : Dn K mg "costs_of" s_costs_of ["ties", "costs"]) (d_is_set : Dn K mg "is_set" s_is_set ["n", "places"]) (d_is_up : Dn K mg "is_up" s_is_up ["k", "up"]) (d_row_fault : Dn K mg "row_fault" s_row_fault ["n", "rows"]) (d_place_fault : Dn K mg "place_fault" s_place_fault ["n", "rows"]) (d_tie_fault : Dn K mg "tie_fault" s_tie_fault ["ties", "rows"]) (d_is_held : Dn K mg "is_held" s_is_held ["rows", "up", "v"]) (d_apart_fault : Dn K mg "apart_fault" s_apart_fault ["n", "rows"]) (d_fault : Dn K mg "fault" s_fault ["graph", "rows"]) (d_joint : Dn K mg "joint" s_joint ["one", "other"]) (d_less : Dn K mg "less" s_less ["one", "other"]) (d_bag_behind : Dn K mg "bag_behind" s_bag_behind ["graph", "done", "step", "used"]) (d_run : Dn K mg "run" s_run ["graph", "steps"]) (d_fault_behind : Dn K mg "fault_behind" s_fault_behind ["graph", "steps", "tops", "pile"]) (d_run_whole : Dn K mg "run_whole" s_run_whole ["graph", "steps"]) (d_refuse_wide : Dn K mg "refuse_wide" s_refuse_wide ["bags"]) (d_steps_of : Dn K mg "steps_of" s_steps_of ["graph", "tree"]) (d_run_narrow : Dn K mg "run_narrow" s_run_narrow ["graph", "steps"]) (d_tables : Dn K mg "tables" s_tables ["steps", "question"]) (d_trail : Dn K mg "trail" s_trail ["steps", "question"]) (d_answer : Dn K mg "answer" s_answer ["tree", "question"]) (d__law_kind : Dn K mg "_law_kind" s__law_kind ["_law_question", "_law_menu", "_law_thing"]) (d__law_along_refused : Dn K mg "_law_along_refused" s__law_along_refused ["_law_n"]) : FnOk P w K mg base CX0 17 d__law_along_refused.f d__law_along_refused.fd ["_law_n"] (spAlong K) := by
  have G_Rounds___init__ : FnOk P w K mg base CX0 15 _ _ _ _ := (ok_Rounds_init B Bz Ct D_Question D_Rounds d_is_whole d_is_below d_weights_of d_costs_of).mono (by decide)
  have G__law_kind : FnOk P w K mg base CX0 16 _ _ _ _ := ok__law_kind B Ct C U D_Rounds d_is_whole d_is_below d_is_set d_is_up d_row_fault d_place_fault d_tie_fault d_is_held d_apart_fault d_fault d_joint d_less d_bag_behind d_run d_fault_behind d_run_whole d_refuse_wide d_steps_of d_run_narrow d_tables d_trail d_answer d__law_kind
  refine d__law_along_refused.F.ok sc__law_along_refused (fun vs H Q E h => ?_) (fun cdv A outer s H vs Q E hr h => ?_)
  · obtain ⟨n, rfl, _⟩ := h
    rfl
  obtain ⟨n, rfl, n5, n10, q⟩ := h
  have hu : (A.deeper (PyProof.Rows.envOfC "_law_along_refused" (defScope s__law_along_refused) s.heap.objs.size d__law_along_refused.f cdv)).units + 64 < cLine := by have := hr.un; omega
  refine ⟨_, (pss_cons (ps_set (i := 1) sc__law_along_refused.nd rfl (Or.inl rfl) (pe_make D_Rounds.mkd G_Rounds___init__ hr rfl D_Rounds.m D_Rounds.d___init__.b1 vals_non1 pass0 (pa_cons (pe_tupN (pa_cons (pv 0) (pa_cons (pe_lstN pa_nil) pa_nil))) pa_nil)))
      (pss_cons (ps_set (i := 2) sc__law_along_refused.nd rfl (Or.inl rfl) (pe_op op_catN (pe_op op_catN (pe_lstN (pa_cons (pe_tupN (pa_cons pe_str pa_nil)) pa_nil)) (pe_lc ["_law_v"] [none]  (by kernel_rfl) rfl (pi_range1 rfl B.range (pa_cons (pv 0) pa_nil)) (fun _ _ _ _ _ => (pg_name (i := 0) (show (["_law_v"] : List Str).Nodup by decide +kernel) rfl (Or.inl rfl))) (fun _ _ _ _ _ => pts_nil) (fun _ _ _ _ _ => (pe_tupN (pa_cons pe_str (pa_cons (pv 0) pa_nil)))))) (pe_lc ["_law_v"] [none]  (by kernel_rfl) rfl (pi_range1 rfl B.range (pa_cons (pv 0) pa_nil)) (fun _ _ _ _ _ => (pg_name (i := 0) (show (["_law_v"] : List Str).Nodup by decide +kernel) rfl (Or.inl rfl))) (fun _ _ _ _ _ => pts_nil) (fun _ _ _ _ _ => (pe_tupN (pa_cons pe_str (pa_cons (pv 0) pa_nil)))))))
      (pss_cons (ps_for PassesOwn.never rfl (pi_listK (K := K) rfl (pe_lstN (pa_cons pe_int (pa_cons pe_int pa_nil)))) (pg_name (i := 3) sc__law_along_refused.nd rfl (Or.inl rfl))
      (pss_cons (ps_if (pt_cmpR (op_neDK (K := K) rfl hu) (pe_call G__law_kind hr rfl d__law_kind.m d__law_kind.F.kp d__law_kind.b .nil pass0 (pa_cons (pv 1) (pa_cons (pv 3) (pa_cons (pe_slice (sl_listN (K := K) rfl) (pv 2) po_none (po_some (pe_un un_neg pe_int))) pa_nil)))) (pe_lstN (pa_cons pe_bl (pa_cons pe_bl (pa_cons pe_bl (pa_cons pe_bl pa_nil))))) (nomark _))
      (pss_one (ps_ret pe_bl))
      pss_nil)
      (pss_one (ps_if (pt_cmpR (op_neDK (K := K) rfl hu) (pe_call G__law_kind hr rfl d__law_kind.m d__law_kind.F.kp d__law_kind.b .nil pass0 (pa_cons (pv 1) (pa_cons (pv 3) (pa_cons (pv 2) pa_nil)))) (pe_lstN (pa_cons pe_bl (pa_cons pe_bl (pa_cons pe_bl (pa_cons pe_bl pa_nil))))) (nomark _))
      (pss_one (ps_ret pe_bl))
      pss_nil))))
      (pss_cons (ps_if (pt_cmpR (op_neDK (K := K) rfl hu) (pe_call G__law_kind hr rfl d__law_kind.m d__law_kind.F.kp d__law_kind.b .nil pass0 (pa_cons (pv 1) (pa_cons pe_int (pa_cons (pe_lstN pa_nil) pa_nil)))) (pe_lstN (pa_cons pe_bl (pa_cons pe_bl (pa_cons pe_bl (pa_cons pe_bl pa_nil))))) (nomark _))
      (pss_one (ps_ret pe_bl))
      pss_nil)
      (pss_cons (ps_if (pt_cmpR (op_neDK (K := K) rfl hu) (pe_call G__law_kind hr rfl d__law_kind.m d__law_kind.F.kp d__law_kind.b .nil pass0 (pa_cons (pv 1) (pa_cons pe_int (pa_cons (pe_lstN (pa_cons (pe_tupN (pa_cons pe_non (pa_cons (pe_listR rfl B.list B.range (pa_cons (pe_op op_sub (pv 0) pe_int) pa_nil)) pa_nil))) pa_nil)) pa_nil)))) (pe_lstN (pa_cons pe_bl (pa_cons pe_bl (pa_cons pe_bl (pa_cons pe_bl pa_nil))))) (nomark _))
      (pss_one (ps_ret pe_bl))
      pss_nil)
      (pss_one (ps_ret (pe_cmpR (op_eqDK (K := K) rfl hu) (pe_call G__law_kind hr rfl d__law_kind.m d__law_kind.F.kp d__law_kind.b .nil pass0 (pa_cons (pv 1) (pa_cons pe_int (pa_cons (pe_lstN (pa_cons (pe_tupN (pa_cons pe_non (pa_cons (pe_listR rfl B.list B.range (pa_cons (pv 0) pa_nil)) pa_nil))) pa_nil)) pa_nil)))) (pe_lstN (pa_cons pe_bl (pa_cons pe_bl (pa_cons pe_bl (pa_cons pe_bl pa_nil))))) (nomark _))))))))), ?_⟩
  obtain ⟨m, rfl⟩ : ∃ m : Nat, n = m + 5 := ⟨n - 5, by omega⟩
  have hm : m < 6 := by omega
  have K0 := al_0 ⟨m, hm⟩
  have K1 := al_1 ⟨m, hm⟩
  have K2 := al_2 ⟨m, hm⟩
  have Ko := sfit_t (al_ok ⟨m, hm⟩)
  have Kc := sfit_f (al_cut ⟨m, hm⟩)
  have Kb := al_big ⟨m, hm⟩
  dsimp only at K0 K1 K2 Ko Kc Kb
  refine ⟨_, rfl, (by show 0 ≤ 1000; decide), fun p1 H1 n1 => ⟨(by show 2 ≤ 1000; decide), fun p2 H2 n2 => fun d dx fd fx ne => ?_⟩⟩
  have s0 : Same H2 (upd (upd H2 dx (.own d)) d (.ins D_Rounds.C dx [])) := (same_new fx _).trans (same_new (by rw [upd_ne (Ne.symm ne)]; exact fd) _)
  have hd : upd (upd H2 dx (.own d)) d (.ins D_Rounds.C dx []) d = some (.ins D_Rounds.C dx []) := upd_same
  generalize upd (upd H2 dx (.own d)) d (.ins D_Rounds.C dx []) = H3 at s0 hd ⊢
  have s03 := n1.same.trans (n2.same.trans s0)
  refine ⟨d, dx, p2, p1, m + 5, [], [], .non, none, rfl, hd, SqT.of (s0 _ _ n2.here), s0 _ _ (n2.same _ _ n1.here), .nil, .nil, by decide, rfl, (fun _ z => by cases z), rfl, fun H4 e4 hD => ⟨rfl, ?_⟩⟩
  have s04 : Same H H4 := fun c o hc => e4 c o (fun z => by have := (n1.same.trans n2.same) _ _ hc; rw [z, fd] at this; cases this) (s03 _ _ hc)
  have g1 : ∀ (f : Nat → Stp) (wd : Str), (∀ j : Nat, (f j).vs = [V.str wd, V.int (j : Int)]) → ∀ (G : Hp) (Q' : VK), (∀ p xs G', Same G G' → G p = none → G' p = some (.lst xs) → Paired (StpL G') xs ((List.range (m + 5)).map f) → Q' (.ref p) G') → LcGoal [none] (gName 0) tTrue (tTupN (tCons (tC (V.str wd)) (tCons (tVar 0) tNil))) [some (.int ((m + 5 : Nat) : Int)), some (.ref d), none, none] G Q' (Itr 0 (m + 5)) := fun f wd hf G Q' q' => by
    refine lc_range (fun i ys G' => Same G G' ∧ Paired (StpL G') ys ((List.range i).map f)) ⟨Same.refl _, .nil⟩ (fun i ys G' hi ⟨_, p⟩ => ?_) (fun i ys G' hi ⟨s, p⟩ => ?_) (fun ys G1 ⟨s1, p1⟩ pt hpt => ?_)
    · rw [Paired.length p, List.length_map, List.length_range]
      exact Nat.le_of_lt (small1000 (by omega))
    · refine ⟨_, rfl, (by show 2 ≤ 1000; decide), fun q1 G1 m1 => ?_⟩
      refine ⟨s.trans m1.same, ?_⟩
      rw [List.range_succ, List.map_append]
      refine pairedA (Paired.mapP p fun _ _ h => StpL.keep m1.same h) (.cons ⟨q1, rfl, ?_⟩ .nil)
      rw [hf, m1.here, Int.zero_add]
    have n2 := New.mk0 (o := .lst ys) hpt
    exact q' pt ys _ (s1.trans n2.same) (s1.free hpt) n2.here (Paired.mapP p1 fun _ _ h => StpL.keep n2.same h)
  refine ⟨(by show 1 ≤ 1000; decide), fun p5 H5 n5 => ⟨(by show 1 ≤ 1000; decide), fun p6 H6 n6 => ?_⟩⟩
  refine ⟨_, rfl, _, rfl, by omega, by omega, ?_⟩
  refine g1 (fun v => .inn (v : Int)) _ (fun _ => rfl) H6 _ fun p7 us H7 s7 f7 h7 pp7 => ?_
  have lu := Paired.length pp7
  rw [List.length_map, List.length_range] at lu
  refine ⟨p6, p7, _, us, rfl, rfl, s7 _ _ n6.here, h7, by show 1 + us.length ≤ 1000; omega, fun p8 H8 n8 => ?_⟩
  refine ⟨_, rfl, _, rfl, by omega, by omega, ?_⟩
  refine g1 (fun v => .out (v : Int)) _ (fun _ => rfl) H8 _ fun p9 zs H9 s9 f9 h9 pp9 => ?_
  have lz := Paired.length pp9
  rw [List.length_map, List.length_range] at lz
  refine ⟨p8, p9, _, zs, rfl, rfl, s9 _ _ n8.here, h9, by rw [List.length_append]; show (1 + us.length) + zs.length ≤ 1000; omega, fun p10 H10 n10' => ?_⟩
  have k89 := n8.same.trans s9
  have k510 : Same H5 H10 := n6.same.trans (s7.trans (k89.trans n10'.same))
  have PA : Paired (StpL H10) ((V.ref p5 :: us) ++ zs) (alS (m + 5)) := pairedA (.cons ⟨p5, rfl, k510 _ _ n5.here⟩ (Paired.mapP pp7 fun _ _ h => StpL.keep (k89.trans n10'.same) h)) (Paired.mapP pp9 fun _ _ h => StpL.keep n10'.same h)
  have LA := Paired.length PA
  rw [al_len] at LA
  have hA : H10 p10 = some (.lst ((V.ref p5 :: us) ++ zs)) := n10'.here
  generalize (V.ref p5 :: us) ++ zs = AX at PA LA hA
  have s10 : Same H H10 := s04.trans (n5.same.trans k510)
  have hD10 := hD.keep (n5.same.trans k510)
  refine ⟨(by show 2 ≤ 1000; decide), fun p11 H11 n11 => ?_⟩
  have s11 := s10.trans n11.same
  have hD11 := hD10.keep n11.same
  have hA11 := n11.same _ _ hA
  have PA11 := Paired.mapP PA fun _ _ h => StpL.keep n11.same h
  refine ⟨p11, rfl, ⟨_, SqL.of n11.here⟩, ?_⟩
  refine for_list (xs := [V.int 1, V.int 2]) (D := { nx := _, rt := _ }) (fun i σ G => (∃ o : Option V, σ = [some (.int ((m + 5 : Nat) : Int)), some (.ref d), some (.ref p10), o]) ∧ Same H11 G) ⟨⟨_, rfl⟩, Same.refl _⟩ (fun i σ G _ ⟨_, s⟩ => SqL.of (s _ _ n11.here)) ?_ ?_
  · rintro i x σ G hx ⟨⟨o, rfl⟩, sG⟩
    obtain ⟨mm, m0, rfl⟩ : ∃ mm : Nat, 0 < mm ∧ x = V.int (mm : Int) := by
      rcases i with _ | _ | i
      · cases hx
        exact ⟨1, by decide, rfl⟩
      · cases hx
        exact ⟨2, by decide, rfl⟩
      · cases hx
    refine ⟨_, rfl, _, rfl, _, rfl, _, rfl, _, rfl, p10, AX, rfl, SqL.of (sG _ _ hA11), fun q1 G1 m1 => ?_⟩
    rw [show cutV AX none (some (-1)) = AX.dropLast from cut_1 AX] at m1
    have s1 := sG.trans m1.same
    refine ⟨d, m + 5, mm, q1, rfl, hD11.keep s1, n10, .inr ⟨m0, _, _, SqL.of m1.here, Paired.mapP (paired_cut PA11) fun _ _ h => (StpL.keep s1 h).v, by rw [List.length_dropLast, al_len]; omega, .inl ⟨Kc, fun q2 G2 k2 _ h2 => ?_⟩⟩⟩
    refine ⟨(by show 4 ≤ 1000; decide), fun q3 G3 m3 => ⟨_, _, isd4 (m3.same _ _ h2), isd4 m3.here, sh4 _ _ _ _, sh4 _ _ _ _, _, rfl, ?_⟩⟩
    rw [eq4]
    refine iteF ?_
    have s3 := s1.trans (k2.trans m3.same)
    refine ⟨_, rfl, _, rfl, _, rfl, d, m + 5, mm, p10, rfl, hD11.keep s3, n10, .inr ⟨m0, _, _, SqL.of (s3 _ _ hA11), Paired.mapP PA11 fun _ _ h => (StpL.keep s3 h).v, by rw [al_len]; omega, .inr ⟨Ko, ?_, fun q4 G4 k4 _ h4 => ?_⟩⟩⟩
    · obtain ⟨b, hb, h⟩ := List.any_eq_true.mp Kb
      exact ⟨b, hb, of_decide_eq_true h⟩
    refine ⟨(by show 4 ≤ 1000; decide), fun q5 G5 m5 => ⟨_, _, isd4 (m5.same _ _ h4), isd4 m5.here, sh4 _ _ _ _, sh4 _ _ _ _, _, rfl, ?_⟩⟩
    rw [eq4]
    exact iteF ⟨⟨_, rfl⟩, s3.trans (k4.trans m5.same)⟩
  rintro σ G ⟨⟨o, rfl⟩, sG⟩
  refine ⟨_, rfl, (by show 0 ≤ 1000; decide), fun q1 G1 m1 => ?_⟩
  have s1 := sG.trans m1.same
  refine ⟨d, m + 5, 0, q1, rfl, hD11.keep s1, n10, .inl ⟨rfl, [], ⟨[], SqL.of m1.here, .nil, by decide⟩, by decide, .inl ⟨of_decide_eq_false K0, fun q2 G2 k2 _ h2 => ?_⟩⟩⟩
  refine ⟨(by show 4 ≤ 1000; decide), fun q3 G3 m3 => ⟨_, _, isd4 (m3.same _ _ h2), isd4 m3.here, sh4 _ _ _ _, sh4 _ _ _ _, _, rfl, ?_⟩⟩
  rw [eq4]
  refine iteF ?_
  have s3 := s1.trans (k2.trans m3.same)
  have e4 : (((m + 5 : Nat) : Int) - 1) = ((m + 4 : Nat) : Int) := by omega
  refine ⟨_, rfl, _, rfl, _, _, rfl, rfl, m + 4, by dsimp only; rw [e4], by omega, fun q4 G4 m4 => ?_⟩
  refine ⟨(by show 2 ≤ 1000; decide), fun q5 G5 m5 => ⟨(by show 1 ≤ 1000; decide), fun q6 G6 m6 => ?_⟩⟩
  have s6 := s3.trans (m4.same.trans (m5.same.trans m6.same))
  have mp : ∀ k : Nat, ((List.range k).map fun i => V.int ((i : Nat) : Int)) = (alB k).map V.int := fun k => by
    unfold alB
    rw [List.map_map]
    rfl
  have lB : ∀ k : Nat, (alB k).length = k := fun k => by unfold alB; rw [List.length_map, List.length_range]
  rw [mp] at m4
  refine ⟨d, m + 5, 0, q6, rfl, hD11.keep s6, n10, .inl ⟨rfl, [(none, alB (m + 4))], ⟨_, SqL.of m6.here, .cons ⟨q5, q4, rfl, SqT.of (m6.same _ _ m5.here), SqL.of (m6.same _ _ (m5.same _ _ m4.here)), by show (alB (m + 4)).length ≤ 1000; rw [lB]; omega⟩ .nil, by show 1 ≤ 1000; decide⟩, by show 1 ≤ 900; decide, .inl ⟨of_decide_eq_false K1, fun q7 G7 k7 _ h7 => ?_⟩⟩⟩
  refine ⟨(by show 4 ≤ 1000; decide), fun q8 G8 m8 => ⟨_, _, isd4 (m8.same _ _ h7), isd4 m8.here, sh4 _ _ _ _, sh4 _ _ _ _, _, rfl, ?_⟩⟩
  rw [eq4]
  refine iteF ?_
  have s8 := s6.trans (k7.trans m8.same)
  refine ⟨_, rfl, _, rfl, m + 5, rfl, by omega, fun r4 G9 r4' => ?_⟩
  rw [mp] at r4'
  refine ⟨(by show 2 ≤ 1000; decide), fun r5 G10 r5' => ⟨(by show 1 ≤ 1000; decide), fun r6 G11 r6' => ?_⟩⟩
  have s12 := s8.trans (r4'.same.trans (r5'.same.trans r6'.same))
  refine ⟨d, m + 5, 0, r6, rfl, hD11.keep s12, n10, .inl ⟨rfl, [(none, alB (m + 5))], ⟨_, SqL.of r6'.here, .cons ⟨r5, r4, rfl, SqT.of (r6'.same _ _ r5'.here), SqL.of (r6'.same _ _ (r5'.same _ _ r4'.here)), by show (alB (m + 5)).length ≤ 1000; rw [lB]; omega⟩ .nil, by show 1 ≤ 1000; decide⟩, by show 1 ≤ 900; decide, .inr ⟨of_decide_eq_true K2, ⟨_, List.mem_singleton.mpr rfl, by show 4 < (alB (m + 5)).length; rw [lB]; omega⟩, fun q7 G12 k12 _ h12 => ?_⟩⟩⟩
  refine ⟨(by show 4 ≤ 1000; decide), fun q8 G13 m13 => ⟨_, _, isd4 (m13.same _ _ h12), isd4 m13.here, sh4 _ _ _ _, sh4 _ _ _ _, ?_⟩⟩
  rw [eq4]
  exact q _ (s11.trans (s12.trans (k12.trans m13.same)))
end

end K

set_option maxHeartbeats 4100000
namespace Ls
open PySem PyProof.Rows PySem.Calls PySem.W PySem.SeqAt
open AutoSeq1 (wpAny_loadPart')
open MeetsSeq MeetsSeq2 MeetsSeq3
end Ls
namespace L2
open PySem PySem.Spec PyProof.Rows Bg Srt
section
variable {X : Cx} {K : PySem.W.Frag}
/-- list.pop(i) -/
def rPopAtN : V → List V → Hp → VK → Prop := fun x vs H Q => ∃ (l : Addr) (xs : List V) (k : Nat) (y : V), x = .ref l ∧ vs = [.int (k : Int)] ∧ H l = some (.lst xs) ∧ k < 1000 ∧ xs[k]? = some y ∧ ∀ H', Chg H l (.lst (xs.eraseIdx k)) H' → Q y H'
theorem mt_popAtN : MtM X "list.pop" rPopAtN := mt_popAt.weak fun x vs H Q ⟨l, xs, k, y, e1, e2, h, z, hy, q⟩ => ⟨l, xs, k, k, y, e1, e2, h, by omega, by omega, (ixN_seq (ixN_nat (List.getElem?_eq_some_iff.mp hy).1)).1, hy, q _ Chg.mk0⟩
end
end L2


namespace K
open PySem L2 Lw Bg
abbrev s__law_cell : Stmt := top 77
theorem sc__law_cell : FnScope ["_law_script", "_law_k", "_law_number"] ["_law_script", "_law_k"] (defScope s__law_cell) := ⟨rfl, rfl, rfl, by decide +kernel, rfl, by decide +kernel, by decide +kernel⟩
abbrev s__law_mixed : Stmt := top 78
theorem sc__law_mixed : FnScope ["_law_cell_here", "_law_many"] ["_law_cell_here", "_law_many"] (defScope s__law_mixed) := ⟨rfl, rfl, rfl, by decide +kernel, rfl, by decide +kernel, by decide +kernel⟩
section
variable {P : Program} {w : World} {K : PySem.W.Frag} {mg : Str → Option Value} {base : Heap}
set_option maxHeartbeats 4000000 in
theorem ok_cell (B : Bl mg) (d : Dn K mg "_law_cell" s__law_cell ["_law_script", "_law_k"]) : FnOk P w K mg base CX0 1 d.f d.fd ["_law_script", "_law_k"] (spCell K) := by
  refine d.F.ok sc__law_cell (fun vs H Q E h => ?_) (fun cdv A outer s H vs Q E hr h => ?_)
  · obtain ⟨a, ns, k, rfl, _⟩ := h
    rfl
  obtain ⟨a, ns, k, rfl, hS, h63, h0, h1, q⟩ := h
  refine ⟨_, (pss_cons (ps_if (pt_cmpR op_lt (pv 1) (pe_callB (call_lenK (K := K) rfl) rfl B.len (by decide +kernel) (pa_cons (pv 0) pa_nil)) (nomark _))
      (pss_one (ps_ret (pe_ix (ix_listK (K := K) rfl) (pv 0) (pv 1) (fun _ _ => rfl))))
      pss_nil)
      (pss_cons (ps_set (i := 2) sc__law_cell.nd rfl (Or.inl rfl) (pe_op op_add (pe_op op_mul (pv 1) pe_int) pe_int))
      (pss_cut (ps_if (pt_cmpR op_gt (pe_callB (call_lenK (K := K) rfl) rfl B.len (by decide +kernel) (pa_cons (pv 0) pa_nil)) pe_int (nomark _))
      (pss_one (ps_set (i := 2) sc__law_cell.nd rfl (Or.inl rfl) (pe_op op_add (pe_op op_mul (pe_op op_mod (pe_ix (ix_listK (K := K) rfl) (pv 0) (pe_op op_mod (pe_op op_mul (pv 1) pe_int) (pe_callB (call_lenK (K := K) rfl) rfl B.len (by decide +kernel) (pa_cons (pv 0) pa_nil))) (fun _ _ => rfl)) pe_int) pe_int) (pe_op op_mul (pv 1) pe_int))))
      pss_nil)
      (pss_one (ps_ret (pe_op op_mod (pe_op op_mul (pv 2) (pv 2)) pe_int)))))), ?_⟩
  have hl : (ns.map V.int).length = ns.length := List.length_map _
  refine ⟨_, rfl, _, rfl, a, _, rfl, .inl hS, _, _, rfl, rfl, _, rfl, ?_⟩
  refine ite2 (fun c => ?_) (fun c => ?_)
  · have c' : k < (((ns.map V.int).length : Nat) : Int) := of_decide_eq_true c
    rw [hl] at c'
    refine ⟨_, rfl, _, rfl, a, _, _, _, rfl, rfl, hS, at_ints h0 c', ?_⟩
    have e : cellF ns k = ns.getD k.toNat 0 := by unfold cellF; rw [if_pos c']
    rw [e] at q
    exact q
  · have c' : ¬ k < (((ns.map V.int).length : Nat) : Int) := of_decide_eq_false (Bool.eq_false_iff.mpr c)
    rw [hl] at c'
    refine ⟨_, rfl, _, _, rfl, rfl, .inr ⟨by decide, by decide⟩, _, _, rfl, rfl, ?_⟩
    refine ⟨fun σ' H' => ∃ z : Int, σ' = [some (.ref a), some (.int k), some (.int z)] ∧ H' = H ∧ cellF ns k = z * z % 2147483629 ∧ -(2 ^ 64) < z ∧ z < 2 ^ 64, ?_, ?_⟩
    rotate_left
    · rintro σ' H' ⟨z, rfl, rfl, e, b1, b2⟩
      refine ⟨_, rfl, _, rfl, _, _, rfl, rfl, .inl ⟨b1, b2⟩, _, _, rfl, rfl, (show (0 : Int) < _ by decide), ?_⟩
      rw [e] at q
      exact q
    refine ⟨_, rfl, a, _, rfl, .inl hS, _, _, rfl, rfl, _, rfl, ?_⟩
    refine ite2 (fun z => ?_) (fun z => ?_)
    · have z' : (0 : Int) < (((ns.map V.int).length : Nat) : Int) := of_decide_eq_true z
      rw [hl] at z'
      have m0 := Int.emod_nonneg (k * 7) (show (ns.length : Int) ≠ 0 by omega)
      have m1 := Int.emod_lt_of_pos (k * 7) z'
      have b := cell_bound (ns.getD (k * 7 % (ns.length : Int)).toNat 0) k h0 h1
      refine ⟨_, rfl, _, rfl, _, _, rfl, rfl, .inr ⟨by decide, by decide⟩, _, rfl, a, _, rfl, .inl hS, _, _, rfl, rfl, (by rw [hl]; exact z'), a, _, _, _, rfl, rfl, hS, (by rw [hl]; exact at_ints m0 m1), _, _, rfl, rfl, (show (0 : Int) < _ by decide), _, _, rfl, rfl, .inr ⟨by decide, by decide⟩, _, rfl, _, _, rfl, rfl, .inr ⟨by decide, by decide⟩, _, _, rfl, rfl, ?_⟩
      refine ⟨_, rfl, rfl, ?_, b.1, b.2⟩
      unfold cellF; rw [if_neg c']; simp only [if_pos z']
    · have z' : ¬ (0 : Int) < (((ns.map V.int).length : Nat) : Int) := of_decide_eq_false (Bool.eq_false_iff.mpr z)
      rw [hl] at z'
      refine ⟨_, rfl, rfl, ?_, by omega, by omega⟩
      unfold cellF; rw [if_neg c']; simp only [if_neg z']
set_option maxHeartbeats 4000000 in
theorem ok_mixed (B : Bl mg) (d : Dn K mg "_law_mixed" s__law_mixed ["_law_cell_here", "_law_many"]) : FnOk P w K mg base CX0 1 d.f d.fd ["_law_cell_here", "_law_many"] spMix := by
  refine d.F.ok sc__law_mixed (fun vs H Q E h => ?_) (fun cdv A outer s H vs Q E hr h => ?_)
  · obtain ⟨c, m, rfl, _⟩ := h
    rfl
  obtain ⟨c, m, rfl, hm, q⟩ := h
  refine ⟨_, (pss_one (ps_ret (pe_op op_mod (pe_op op_fdiv (pe_op op_mod (pe_op op_mul (pe_op op_mod (pv 0) (pe_op op_pow pe_int pe_int)) pe_int) (pe_op op_pow pe_int pe_int)) (pe_op op_pow pe_int pe_int)) (pv 1)))), ?_⟩
  have p64 : (0 : Int) < 2 ^ 64 := by decide
  have a1 := Int.emod_nonneg c (show (2 ^ 64 : Int) ≠ 0 by decide)
  have a2 := Int.emod_lt_of_pos c p64
  refine ⟨_, rfl, _, _, rfl, rfl, ⟨by decide, by decide, by decide⟩, _, _, rfl, rfl, (show (0 : Int) < _ by decide), _, _, rfl, rfl, .inl ⟨?_, ?_⟩, _, _, rfl, rfl, ⟨by decide, by decide, by decide⟩, _, _, rfl, rfl, (show (0 : Int) < _ by decide), _, _, rfl, rfl, ⟨by decide, by decide, by decide⟩, _, _, rfl, rfl, ⟨by decide, by decide⟩, _, rfl, _, _, rfl, rfl, hm, ?_⟩
  · show -(2 ^ 64) < c % 2 ^ 64
    omega
  · exact a2
  · exact q
end

abbrev s__law_ties : Stmt := top 79
theorem sc__law_ties : FnScope ["_law_script", "_law_at", "_law_n", "_law_bits", "_law_menu", "_law_other", "_law_ties_here", "_law_a", "_law_b"] ["_law_script", "_law_at", "_law_n"] (defScope s__law_ties) := ⟨rfl, rfl, rfl, by decide +kernel, rfl, by decide +kernel, by decide +kernel⟩
abbrev lexT (s t : Int × Int) : Prop := s.1 < t.1 ∨ (s.1 = t.1 ∧ s.2 < t.2)
structure Web (n : Int) (ts : List (Int × Int)) : Prop where
  ok : ∀ t ∈ ts, 0 ≤ t.1 ∧ t.1 < t.2 ∧ t.2 < n
  up : ts.Pairwise lexT
def spTiesB (K : PySem.W.Frag) : Sp := fun vs H Q _ => ∃ (a : Addr) (ns : List Int) (k : Int) (n : Nat), vs = [.ref a, .int k, .int n] ∧ SqL K H a (ns.map V.int) ∧ ns.length ≤ 63 ∧ 0 ≤ k ∧ k ≤ 900 ∧ n ≤ 10 ∧
  ∀ r xs ts H', Same H H' → H r = none → H' r = some (.lst xs) → Paired (TieL H') xs ts → Web n ts → ts.length ≤ 100 → Q (.ref r) H'
section
variable {P : Program} {w : World} {K : PySem.W.Frag} {mg : Str → Option Value} {base : Heap}
set_option maxHeartbeats 4000000 in
theorem ok__law_ties (B : Bl mg) (d__law_cell : Dn K mg "_law_cell" s__law_cell ["_law_script", "_law_k"]) (d__law_mixed : Dn K mg "_law_mixed" s__law_mixed ["_law_cell_here", "_law_many"]) (d__law_ties : Dn K mg "_law_ties" s__law_ties ["_law_script", "_law_at", "_law_n"]) : FnOk P w K mg base CX0 2 d__law_ties.f d__law_ties.fd ["_law_script", "_law_at", "_law_n"] (spTiesB K) := by
  have G__law_cell : FnOk P w K mg base CX0 1 _ _ _ _ := ok_cell B d__law_cell
  have G__law_mixed : FnOk P w K mg base CX0 1 _ _ _ _ := ok_mixed B d__law_mixed
  refine d__law_ties.F.ok sc__law_ties (fun vs H Q E h => ?_) (fun cdv A outer s H vs Q E hr h => ?_)
  · obtain ⟨a, ns, k, n, rfl, _⟩ := h
    rfl
  obtain ⟨a, ns, k, n, rfl, hS, h63, k0, k1, hn, q⟩ := h
  refine ⟨_, (pss_cons (ps_set (i := 3) sc__law_ties.nd rfl (Or.inl rfl) (pe_call G__law_mixed hr rfl d__law_mixed.m d__law_mixed.F.kp d__law_mixed.b .nil pass0 (pa_cons (pe_call G__law_cell hr rfl d__law_cell.m d__law_cell.F.kp d__law_cell.b .nil pass0 (pa_cons (pv 0) (pa_cons (pv 1) pa_nil))) (pa_cons (pe_op op_pow pe_int pe_int) pa_nil))))
      (pss_cons (ps_set (i := 4) sc__law_ties.nd rfl (Or.inl rfl) (pe_op op_mod (pe_call G__law_cell hr rfl d__law_cell.m d__law_cell.F.kp d__law_cell.b .nil pass0 (pa_cons (pv 0) (pa_cons (pe_op op_add (pv 1) pe_int) pa_nil))) pe_int))
      (pss_cons (ps_set (i := 5) sc__law_ties.nd rfl (Or.inl rfl) (pe_call G__law_mixed hr rfl d__law_mixed.m d__law_mixed.F.kp d__law_mixed.b .nil pass0 (pa_cons (pe_call G__law_cell hr rfl d__law_cell.m d__law_cell.F.kp d__law_cell.b .nil pass0 (pa_cons (pv 0) (pa_cons (pe_op op_add (pv 1) pe_int) pa_nil))) (pa_cons (pe_op op_pow pe_int pe_int) pa_nil))))
      (pss_cut (ps_if (pt_cmpR op_lt (pv 4) pe_int (nomark _))
      (pss_one (ps_set (i := 3) sc__law_ties.nd rfl (Or.inl rfl) (pe_op op_and (pv 3) (pv 5))))
      (pss_one (ps_if (pt_cmpR op_lt (pv 4) pe_int (nomark _))
      (pss_one (ps_set (i := 3) sc__law_ties.nd rfl (Or.inl rfl) (pe_op op_or (pv 3) (pv 5))))
      (pss_one (ps_if (pt_cmpR op_eq (pv 4) pe_int (nomark _))
      (pss_one (ps_set (i := 3) sc__law_ties.nd rfl (Or.inl rfl) (pe_op op_sub (pe_op op_pow pe_int pe_int) pe_int)))
      pss_nil)))))
      (pss_cons (ps_set (i := 6) sc__law_ties.nd rfl (Or.inl rfl) (pe_lstN pa_nil))
      (pss_cons (ps_for PassesOwn.never rfl (pi_range1 rfl B.range (pa_cons (pv 2) pa_nil)) (pg_name (i := 7) sc__law_ties.nd rfl (Or.inl rfl))
      (pss_one (ps_for PassesOwn.never rfl (pi_range2 rfl B.range (pa_cons (pe_op op_add (pv 7) pe_int) (pa_cons (pv 2) pa_nil))) (pg_name (i := 8) sc__law_ties.nd rfl (Or.inl rfl))
      (pss_cut (ps_if (pt_cmpR op_eq (pe_op op_mod (pv 3) pe_int) pe_int (nomark _))
      (pss_one (ps_expr (pe_bmK (K := K) rfl PySem.F.plainAttrs_list PySem.F.slot_list_append PySem.F.type_list_append mt_appendN (pv 6) (pa_cons (pe_tupN (pa_cons (pv 7) (pa_cons (pv 8) pa_nil))) pa_nil))))
      pss_nil)
      (pss_one (ps_set (i := 3) sc__law_ties.nd rfl (Or.inl rfl) (pe_op op_fdiv (pv 3) pe_int)))))))
      (pss_one (ps_ret (pv 6))))))))), ?_⟩
  refine ⟨_, rfl, _, rfl, a, ns, k, rfl, hS, h63, k0, (by omega), _, _, rfl, rfl, ⟨by decide, by decide, by decide⟩, _, _, rfl, (by decide), ?_⟩
  refine ⟨_, rfl, _, rfl, _, _, rfl, rfl, a, ns, k + 1, rfl, hS, h63, (by omega), (by omega), _, _, rfl, rfl, (show (0 : Int) < _ by decide), ?_⟩
  refine ⟨_, rfl, _, rfl, _, _, rfl, rfl, a, ns, k + 2, rfl, hS, h63, (by omega), (by omega), _, _, rfl, rfl, ⟨by decide, by decide, by decide⟩, _, _, rfl, (by decide), ?_⟩
  refine ⟨fun σ' H' => ∃ b x y : Int, σ' = [some (.ref a), some (.int k), some (.int n), some (.int b), some (.int x), some (.int y), none, none, none] ∧ H' = H, ?_, ?_⟩
  · refine ⟨_, rfl, _, _, rfl, rfl, _, rfl, ?_⟩
    refine ite2 (fun c => ?_) (fun c => ?_)
    · exact ⟨_, rfl, _, rfl, _, _, rfl, rfl, _, _, _, rfl, rfl⟩
    · refine ⟨_, rfl, _, _, rfl, rfl, _, rfl, ?_⟩
      refine ite2 (fun c => ?_) (fun c => ?_)
      · exact ⟨_, rfl, _, rfl, _, _, rfl, rfl, _, _, _, rfl, rfl⟩
      · refine ⟨_, rfl, rfl, _, rfl, ?_⟩
        refine ite2 (fun c => ?_) (fun c => ?_)
        · exact ⟨_, _, rfl, rfl, ⟨by decide, by decide, by decide⟩, _, _, rfl, rfl, _, _, _, rfl, rfl⟩
        · exact ⟨_, _, _, rfl, rfl⟩
  rintro σ' H' ⟨b0, x0, y0, rfl, rfl⟩
  refine ⟨(by show 0 ≤ 1000; decide), fun r H0 nw => ?_⟩
  refine ⟨_, rfl, _, rfl, by omega, by omega, ?_⟩
  have en : ((n : Nat) : Int).toNat = n := by omega
  rw [en]
  refine for_range (n := n) (fun i σ H2 => ∃ (b : Int) (aa bb : Option V) (xs : List V) (ts : List (Int × Int)), σ = [some (.ref a), some (.int k), some (.int n), some (.int b), some (.int x0), some (.int y0), some (.ref r), aa, bb] ∧ Same H' H2 ∧ H2 r = some (.lst xs) ∧ Paired (TieL H2) xs ts ∧ ts.length ≤ 10 * i ∧ Web n ts ∧ ∀ t ∈ ts, t.1 < (i : Int))
    ⟨_, none, none, [], [], rfl, nw.same, nw.here, .nil, Nat.zero_le _, ⟨fun t h => absurd h List.not_mem_nil, .nil⟩, fun t h => absurd h List.not_mem_nil⟩ ?_ ?_
  · rintro i σ H2 hi ⟨b, aa, bb, xs, ts, rfl, sm, hr2, hp, hz, hw, hlt⟩
    refine ⟨_, rfl, _, _, rfl, rfl, _, rfl, _, _, rfl, ⟨by omega, by omega, by omega, by omega⟩, ?_⟩
    refine for_range (n := _) (fun j σ H3 => ∃ (b : Int) (bb : Option V) (xs : List V) (ts : List (Int × Int)), σ = [some (.ref a), some (.int k), some (.int n), some (.int b), some (.int x0), some (.int y0), some (.ref r), some (.int (0 + (i : Int))), bb] ∧ Same H' H3 ∧ H3 r = some (.lst xs) ∧ Paired (TieL H3) xs ts ∧ ts.length ≤ 10 * i + j ∧ Web n ts ∧ ∀ t ∈ ts, t.1 < (i : Int) ∨ (t.1 = (i : Int) ∧ t.2 < (i : Int) + 1 + j))
      ⟨b, bb, xs, ts, rfl, sm, hr2, hp, by omega, hw, fun t h => .inl (hlt t h)⟩ ?_ ?_
    · rintro j σ H3 hj ⟨b, bb, xs, ts, rfl, sm, hr3, hp, hz, hw, hlt⟩
      have jn : (j : Int) + (0 + (i : Int) + 1) < n := by omega
      refine ⟨fun σ' H4 => ∃ (xs : List V) (ts : List (Int × Int)), σ' = [some (.ref a), some (.int k), some (.int n), some (.int b), some (.int x0), some (.int y0), some (.ref r), some (.int (0 + (i : Int))), some (.int (0 + (i : Int) + 1 + (j : Int)))] ∧ Same H' H4 ∧ H4 r = some (.lst xs) ∧ Paired (TieL H4) xs ts ∧ ts.length ≤ 10 * i + (j + 1) ∧ Web n ts ∧ ∀ t ∈ ts, t.1 < (i : Int) ∨ (t.1 = (i : Int) ∧ t.2 < (i : Int) + 1 + (j + 1 : Nat)), ?_, ?_⟩
      · refine ⟨_, rfl, _, _, rfl, rfl, (show (0 : Int) < _ by decide), rfl, _, rfl, ?_⟩
        refine ite2 (fun c => ?_) (fun c => ?_)
        · refine ⟨_, rfl, .inl ⟨rfl, _, SqL.of hr3⟩, _, rfl, _, rfl, (by show 2 ≤ 1000; decide), fun p4 H4 n4 => ?_⟩
          have hl : xs.length = ts.length := Paired.length hp
          refine ⟨r, _, _, rfl, rfl, n4.same _ _ hr3, (by omega), fun H5 c5 => ?_⟩
          refine ⟨xs ++ [.ref p4], ts ++ [(0 + (i : Int), 0 + (i : Int) + 1 + (j : Int))], rfl, (sm.trans n4.same).chg nw.fresh c5, c5.here, ?_, ?_, ⟨fun t ht => ?_, ?_⟩, fun t ht => ?_⟩
          · refine paired_snoc (Paired.mapP hp fun v t q => (q.same n4.same).chg (n4.same _ _ hr3) c5) ?_
            exact TieL.chg (n4.same _ _ hr3) c5 ⟨p4, rfl, n4.here⟩
          · rw [List.length_append]; show ts.length + 1 ≤ _; omega
          · rcases List.mem_append.mp ht with ht | ht
            · exact hw.ok t ht
            · rw [List.mem_singleton.mp ht]
              exact ⟨by show 0 ≤ 0 + (i : Int); omega, by show 0 + (i : Int) < 0 + (i : Int) + 1 + (j : Int); omega, by show 0 + (i : Int) + 1 + (j : Int) < n; omega⟩
          · refine List.pairwise_append.mpr ⟨hw.up, List.pairwise_singleton _ _, fun t ht u hu => ?_⟩
            rw [List.mem_singleton.mp hu]
            show t.1 < 0 + (i : Int) ∨ (t.1 = 0 + (i : Int) ∧ t.2 < 0 + (i : Int) + 1 + (j : Int))
            have := hlt t ht
            omega
          · rcases List.mem_append.mp ht with ht | ht
            · have := hlt t ht
              omega
            · rw [List.mem_singleton.mp ht]
              show 0 + (i : Int) < (i : Int) ∨ (0 + (i : Int) = (i : Int) ∧ 0 + (i : Int) + 1 + (j : Int) < (i : Int) + 1 + (j + 1 : Nat))
              omega
        · exact ⟨xs, ts, rfl, sm, hr3, hp, by omega, hw, fun t ht => by have := hlt t ht; omega⟩
      · rintro σ' H4 ⟨xs, ts, rfl, sm, hr4, hp, hz, hw, hlt⟩
        refine ⟨_, rfl, _, _, rfl, rfl, ⟨by decide, by decide⟩, ?_⟩
        exact ⟨_, _, xs, ts, rfl, sm, hr4, hp, hz, hw, hlt⟩
    · rintro σ H3 ⟨b, bb, xs, ts, rfl, sm, hr3, hp, hz, hw, hlt⟩
      exact ⟨b, _, bb, xs, ts, rfl, sm, hr3, hp, by omega, hw, fun t ht => by have := hlt t ht; omega⟩
  · rintro σ H2 ⟨b, aa, bb, xs, ts, rfl, sm, hr2, hp, hz, hw, hlt⟩
    exact ⟨_, rfl, q r xs ts H2 sm nw.fresh hr2 hp hw (by omega)⟩
end

abbrev s__law_price : Stmt := top 80
theorem sc__law_price : FnScope ["_law_cell_here"] ["_law_cell_here"] (defScope s__law_price) := ⟨rfl, rfl, rfl, by decide +kernel, rfl, by decide +kernel, by decide +kernel⟩
def spPrice : Sp := fun vs H Q _ => ∃ (c : Int), vs = [.int c] ∧ ∀ z : Int, 0 ≤ z → z < bigN → Q (.int z) H
section
variable {P : Program} {w : World} {K : PySem.W.Frag} {mg : Str → Option Value} {base : Heap}
set_option maxHeartbeats 4000000 in
theorem ok__law_price (B : Bl mg) (d__law_mixed : Dn K mg "_law_mixed" s__law_mixed ["_law_cell_here", "_law_many"]) (d__law_price : Dn K mg "_law_price" s__law_price ["_law_cell_here"]) : FnOk P w K mg base CX0 2 d__law_price.f d__law_price.fd ["_law_cell_here"] spPrice := by
  have G__law_mixed : FnOk P w K mg base CX0 1 _ _ _ _ := ok_mixed B d__law_mixed
  refine d__law_price.F.ok sc__law_price (fun vs H Q E h => ?_) (fun cdv A outer s H vs Q E hr h => ?_)
  · obtain ⟨c, rfl, _⟩ := h
    rfl
  obtain ⟨c, rfl, q⟩ := h
  refine ⟨_, (pss_cons (ps_if (pt_cmpR op_eq (pe_op op_mod (pv 0) pe_int) pe_int (nomark _))
      (pss_one (ps_ret (pe_op op_sub (pe_op op_pow pe_int pe_int) pe_int)))
      pss_nil)
      (pss_one (ps_ret (pe_op op_mod (pe_op op_mul (pe_call G__law_mixed hr rfl d__law_mixed.m d__law_mixed.F.kp d__law_mixed.b .nil pass0 (pa_cons (pe_op op_fdiv (pv 0) pe_int) (pa_cons (pe_op op_pow pe_int pe_int) pa_nil))) (pe_op op_add (pe_op op_mod (pe_op op_fdiv (pv 0) pe_int) pe_int) pe_int)) (pe_op op_pow pe_int pe_int))))), ?_⟩
  refine ⟨_, rfl, _, _, rfl, rfl, (show (0 : Int) < 3 by decide), rfl, _, rfl, ?_⟩
  by_cases e : c % 3 = 2
  · rw [decide_eq_true (show V.int (c % 3) = V.int 2 by rw [e])]
    exact iteT ⟨_, _, rfl, rfl, ⟨by decide, by decide, by decide⟩, _, _, rfl, rfl, q _ (by decide) (by decide)⟩
  · rw [decide_eq_false (show ¬ V.int (c % 3) = V.int 2 from fun z => e (V.int.inj z))]
    refine iteF ⟨_, rfl, _, _, rfl, rfl, ⟨by decide, by decide⟩, _, _, rfl, rfl, ⟨by decide, by decide, by decide⟩, _, _, rfl, by decide, _, rfl, _, _, rfl, rfl, ⟨by decide, by decide⟩, _, _, rfl, rfl, (show (0 : Int) < 9973 by decide), _, _, rfl, rfl, _, _, rfl, rfl, .inl ⟨?_, ?_⟩, _, _, rfl, rfl, ⟨by decide, by decide, by decide⟩, _, _, rfl, rfl, (show (0 : Int) < 10 ^ (30 : Int).toNat by decide), q _ (Int.emod_nonneg _ (by decide)) (Int.emod_lt_of_pos _ (by decide))⟩
    · have := mixF_lo (c := c / 3) (m := (2 : Int) ^ (50 : Int).toNat) (by decide)
      exact Int.lt_of_lt_of_le (by decide) this
    · have := mixF_hi (c := c / 3) (m := (2 : Int) ^ (50 : Int).toNat) (by decide)
      exact Int.lt_trans this (by decide)
end

abbrev s__law_spoiled : Stmt := top 85
theorem sc__law_spoiled : FnScope ["_law_script", "_law_good", "_law_bad", "_law_menu", "_law_cell_here"] ["_law_script", "_law_good"] (defScope s__law_spoiled) := ⟨rfl, rfl, rfl, by decide +kernel, rfl, by decide +kernel, by decide +kernel⟩
theorem wt_no_len {m : Nat} {ws : List Int} (h : ws.length ≠ m) : wtOk m (some ws) = false := by
  show (decide (ws.length = m) && _) = false
  rw [decide_eq_false h]
  rfl
theorem wt_no_mem {m : Nat} {ws : List Int} {x : Int} (h : x ∈ ws) (hx : x < 0 ∨ bigN ≤ x) : wtOk m (some ws) = false := by
  show (decide (ws.length = m) && ws.all _) = false
  have : (ws.all fun x => decide (0 ≤ x) && decide (x < bigN)) = false := by
    rw [List.all_eq_false]
    refine ⟨x, h, fun z => ?_⟩
    rw [Bool.and_eq_true] at z
    have h1 := of_decide_eq_true z.1
    have h2 := of_decide_eq_true z.2
    omega
  rw [this, Bool.and_false]
theorem eraseIdx_mapI (ws : List Int) : ∀ j, (ws.map V.int).eraseIdx j = (ws.eraseIdx j).map V.int := by
  induction ws with
  | nil => exact fun j => rfl
  | cons a t ih => exact fun j => match j with
    | 0 => rfl
    | j + 1 => congrArg (V.int a :: ·) (ih j)
def spSpoil75 (K : PySem.W.Frag) : Sp := fun vs H Q _ => ∃ (a g : Addr) (ns ws : List Int), vs = [.ref a, .ref g] ∧ SqL K H a (ns.map V.int) ∧ ns.length ≤ 63 ∧ H g = some (.lst (ws.map V.int)) ∧ ws.length ≤ 100 ∧ ∀ p zs H', Same H H' → H p = none → H' p = some (.lst (zs.map V.int)) → zs.length ≤ 101 → wtOk ws.length (some zs) = false → Q (.ref p) H'
section
variable {P : Program} {w : World} {K : PySem.W.Frag} {mg : Str → Option Value} {base : Heap}
set_option maxHeartbeats 4000000 in
theorem ok__law_spoiled (B : Bl mg) (d__law_cell : Dn K mg "_law_cell" s__law_cell ["_law_script", "_law_k"]) (d__law_spoiled : Dn K mg "_law_spoiled" s__law_spoiled ["_law_script", "_law_good"]) : FnOk P w K mg base CX0 2 d__law_spoiled.f d__law_spoiled.fd ["_law_script", "_law_good"] (spSpoil75 K) := by
  have G__law_cell : FnOk P w K mg base CX0 1 _ _ _ _ := ok_cell B d__law_cell
  refine d__law_spoiled.F.ok sc__law_spoiled (fun vs H Q E h => ?_) (fun cdv A outer s H vs Q E hr h => ?_)
  · obtain ⟨a, g, ns, ws, rfl, _⟩ := h
    rfl
  obtain ⟨a, g, ns, ws, rfl, hS, h63, hg, lw, q⟩ := h
  refine ⟨_, (pss_cons (ps_set (i := 2) sc__law_spoiled.nd rfl (Or.inl rfl) (pe_callTy (call_listN (K := K) rfl) rfl B.list (by decide +kernel) (pa_cons (pv 1) pa_nil)))
      (pss_cons (ps_set (i := 3) sc__law_spoiled.nd rfl (Or.inl rfl) (pe_op op_mod (pe_call G__law_cell hr rfl d__law_cell.m d__law_cell.F.kp d__law_cell.b .nil pass0 (pa_cons (pv 0) (pa_cons pe_int pa_nil))) pe_int))
      (pss_cons (ps_set (i := 4) sc__law_spoiled.nd rfl (Or.inl rfl) (pe_call G__law_cell hr rfl d__law_cell.m d__law_cell.F.kp d__law_cell.b .nil pass0 (pa_cons (pv 0) (pa_cons pe_int pa_nil))))
      (pss_cut (ps_if (PW.pt (pw_or (pt_cmpR op_eq (pv 3) pe_int (nomark _)) (pw_or1 (pt_cmpR op_eq (pe_callB (call_lenK (K := K) rfl) rfl B.len (by decide +kernel) (pa_cons (pv 1) pa_nil)) pe_int (nomark _)))))
      (pss_one (ps_expr (pe_bmK (K := K) rfl PySem.F.plainAttrs_list PySem.F.slot_list_insert PySem.F.type_list_insert mt_insertN (pv 2) (pa_cons (pe_op op_mod (pv 4) (pe_op op_add (pe_callB (call_lenK (K := K) rfl) rfl B.len (by decide +kernel) (pa_cons (pv 1) pa_nil)) pe_int)) (pa_cons (pe_op op_mod (pe_op op_fdiv (pv 4) pe_int) pe_int) pa_nil)))))
      (pss_one (ps_if (pt_cmpR op_eq (pv 3) pe_int (nomark _))
      (pss_one (ps_expr (pe_bmK (K := K) rfl PySem.F.plainAttrs_list PySem.F.slot_list_pop PySem.F.type_list_pop mt_popAtN (pv 2) (pa_cons (pe_op op_mod (pv 4) (pe_callB (call_lenK (K := K) rfl) rfl B.len (by decide +kernel) (pa_cons (pv 1) pa_nil))) pa_nil))))
      (pss_one (ps_if (pt_cmpR op_eq (pv 3) pe_int (nomark _))
      (pss_one (ps_asg (pe_op op_sub (pe_un un_neg pe_int) (pe_op op_mul (pe_op op_mod (pe_op op_fdiv (pv 4) pe_int) pe_int) (pe_op op_pow pe_int pe_int))) (pg_sub (pv 2) (pe_op op_mod (pv 4) (pe_callB (call_lenK (K := K) rfl) rfl B.len (by decide +kernel) (pa_cons (pv 1) pa_nil))) set_listN)))
      (pss_one (ps_asg (pe_op op_add (pe_op op_pow pe_int pe_int) (pe_op op_mul (pe_op op_mod (pe_op op_fdiv (pv 4) pe_int) pe_int) (pe_op op_mod (pv 4) (pe_op op_pow pe_int pe_int)))) (pg_sub (pv 2) (pe_op op_mod (pv 4) (pe_callB (call_lenK (K := K) rfl) rfl B.len (by decide +kernel) (pa_cons (pv 1) pa_nil))) set_listN))))))))
      (pss_one (ps_ret (pv 2))))))), ?_⟩
  refine ⟨_, rfl, g, _, rfl, .inl (SqL.of hg), fun p H1 n1 => ?_⟩
  have s1 := n1.same
  refine ⟨_, rfl, a, ns, 5, rfl, s1.seq hS, h63, by decide, by decide, _, _, rfl, rfl, (show (0 : Int) < 4 by decide), ?_⟩
  refine ⟨_, rfl, a, ns, 6, rfl, s1.seq hS, h63, by decide, by decide, ?_⟩
  dsimp only
  generalize cellF ns 6 = c
  generalize em : cellF ns 5 % 4 = mn
  have hg1 := s1 _ _ hg
  have hc1 : ∀ {zs : List Int} {G : Hp}, Chg H1 p (.lst (zs.map V.int)) G → Same H G := fun c => s1.chg n1.fresh c
  have lg : (ws.map V.int).length = ws.length := List.length_map _
  refine ⟨fun σ' G => ∃ zs : List Int, σ' = [some (.ref a), some (.ref g), some (.ref p), some (.int mn), some (.int c)] ∧ Same H G ∧ G p = some (.lst (zs.map V.int)) ∧ zs.length ≤ 101 ∧ wtOk ws.length (some zs) = false, ?_, ?_⟩
  · have modl : ∀ (c : Int) (l : Nat), 0 < l → ∃ k : Nat, c % (l : Int) = (k : Int) ∧ k < l := fun c l hl => by
      have h0 := Int.emod_nonneg c (show ((l : Nat) : Int) ≠ 0 by omega)
      have h1 := Int.emod_lt_of_pos c (show (0 : Int) < ((l : Nat) : Int) by omega)
      exact ⟨(c % (l : Int)).toNat, by omega, by omega⟩
    have ins : ∀ k : Nat, k ≤ ws.length → ∀ y : Int, ∀ G, Chg H1 p (.lst ((ws.map V.int).take k ++ V.int y :: (ws.map V.int).drop k)) G → ∃ zs : List Int, Same H G ∧ G p = some (.lst (zs.map V.int)) ∧ zs.length ≤ 101 ∧ wtOk ws.length (some zs) = false := fun k hk y G cg => by
      refine ⟨ws.take k ++ y :: ws.drop k, s1.chg n1.fresh cg, ?_, ?_, wt_no_len ?_⟩
      · rw [cg.here, List.map_append, List.map_cons, List.map_take, List.map_drop]
      · rw [List.length_append, List.length_cons, List.length_take, List.length_drop]; omega
      · rw [List.length_append, List.length_cons, List.length_take, List.length_drop]; omega
    obtain ⟨k, ek, hk⟩ := modl c (ws.length + 1) (by omega)
    have eL : (((ws.map V.int).length : Nat) : Int) + 1 = ((ws.length + 1 : Nat) : Int) := by rw [lg]; omega
    refine ⟨_, rfl, rfl, _, rfl, ?_⟩
    by_cases c0 : mn = 0
    · rw [decide_eq_true (show V.int mn = V.int 0 by rw [c0])]
      refine iteT (iteT ⟨_, rfl, .inl ⟨rfl, _, SqL.of n1.here⟩, _, rfl, _, rfl, g, _, rfl, .inl (SqL.of hg1), _, _, rfl, rfl, _, _, rfl, rfl, ?_, ?_⟩)
      · show (0 : Int) < (((ws.map V.int).length : Nat) : Int) + 1
        omega
      refine ⟨_, rfl, _, _, rfl, rfl, ⟨by decide, by decide⟩, _, _, rfl, rfl, (show (0 : Int) < 100 by decide), ?_⟩
      dsimp only
      rw [eL, ek]
      refine ⟨p, _, k, _, rfl, rfl, n1.here, by rw [lg]; omega, by omega, by rw [lg]; omega, fun G cg => ?_⟩
      obtain ⟨zs, z1, z2, z3, z4⟩ := ins k (by omega) _ G cg
      exact ⟨zs, rfl, z1, z2, z3, z4⟩
    rw [decide_eq_false (show ¬ V.int mn = V.int 0 from fun z => c0 (V.int.inj z))]
    refine iteF ⟨_, rfl, g, _, rfl, .inl (SqL.of hg1), rfl, _, rfl, ?_⟩
    by_cases c1 : ws.length = 0
    · rw [decide_eq_true (show V.int (((ws.map V.int).length : Nat) : Int) = V.int 0 by rw [lg, c1]; rfl)]
      refine iteT ⟨_, rfl, .inl ⟨rfl, _, SqL.of n1.here⟩, _, rfl, _, rfl, g, _, rfl, .inl (SqL.of hg1), _, _, rfl, rfl, _, _, rfl, rfl, ?_, ?_⟩
      · show (0 : Int) < (((ws.map V.int).length : Nat) : Int) + 1
        omega
      refine ⟨_, rfl, _, _, rfl, rfl, ⟨by decide, by decide⟩, _, _, rfl, rfl, (show (0 : Int) < 100 by decide), ?_⟩
      dsimp only
      rw [eL, ek]
      refine ⟨p, _, k, _, rfl, rfl, n1.here, by rw [lg]; omega, by omega, by rw [lg]; omega, fun G cg => ?_⟩
      obtain ⟨zs, z1, z2, z3, z4⟩ := ins k (by omega) _ G cg
      exact ⟨zs, rfl, z1, z2, z3, z4⟩
    rw [decide_eq_false (show ¬ V.int (((ws.map V.int).length : Nat) : Int) = V.int 0 from fun z => by have := V.int.inj z; rw [lg] at this; omega)]
    obtain ⟨j, ej, hj⟩ := modl c ws.length (by omega)
    have eJ : c % (((ws.map V.int).length : Nat) : Int) = (j : Int) := by rw [lg]; exact ej
    have pos : (0 : Int) < (((ws.map V.int).length : Nat) : Int) := by rw [lg]; omega
    refine iteF ⟨_, rfl, rfl, _, rfl, ?_⟩
    by_cases c2 : mn = 1
    · rw [decide_eq_true (show V.int mn = V.int 1 by rw [c2])]
      refine iteT ⟨_, rfl, .inl ⟨rfl, _, SqL.of n1.here⟩, _, rfl, _, rfl, g, _, rfl, .inl (SqL.of hg1), _, _, rfl, rfl, pos, ?_⟩
      dsimp only
      rw [eJ]
      refine ⟨p, _, j, .int (ws.getD j 0), rfl, rfl, n1.here, by omega, ?_, fun G cg => ⟨ws.eraseIdx j, rfl, s1.chg n1.fresh cg, ?_, ?_, wt_no_len ?_⟩⟩
      · rw [List.getElem?_map, List.getElem?_eq_getElem hj, List.getD_eq_getElem?_getD, List.getElem?_eq_getElem hj]
        rfl
      · rw [cg.here, eraseIdx_mapI]
      · rw [List.length_eraseIdx, if_pos hj]; omega
      · rw [List.length_eraseIdx, if_pos hj]; omega
    rw [decide_eq_false (show ¬ V.int mn = V.int 1 from fun z => c2 (V.int.inj z))]
    have st : ∀ y : Int, (y < 0 ∨ bigN ≤ y) → ∀ G, Chg H1 p (.lst ((ws.map V.int).set j (V.int y))) G → ∃ zs : List Int, Same H G ∧ G p = some (.lst (zs.map V.int)) ∧ zs.length ≤ 101 ∧ wtOk ws.length (some zs) = false := fun y hy G cg => by
      refine ⟨ws.set j y, s1.chg n1.fresh cg, ?_, ?_, wt_no_mem (x := y) ?_ hy⟩
      · rw [cg.here, List.map_set]
      · rw [List.length_set]; omega
      · exact List.mem_set hj y
    refine iteF ⟨_, rfl, rfl, _, rfl, ?_⟩
    by_cases c3 : mn = 2
    · rw [decide_eq_true (show V.int mn = V.int 2 by rw [c3])]
      refine iteT ⟨_, rfl, _, rfl, _, _, rfl, rfl, ⟨by decide, by decide⟩, _, _, rfl, rfl, (show (0 : Int) < 3 by decide), _, _, rfl, rfl, ⟨by decide, by decide, by decide⟩, _, _, rfl, rfl, .inl ⟨?_, ?_⟩, _, _, rfl, rfl, _, rfl, _, rfl, _, rfl, g, _, rfl, .inl (SqL.of hg1), _, _, rfl, rfl, pos, ?_⟩
      · have := Int.emod_nonneg (c / 50) (show (3 : Int) ≠ 0 by decide)
        show -(2 ^ 64) < c / 50 % 3
        omega
      · have := Int.emod_lt_of_pos (c / 50) (show (0 : Int) < 3 by decide)
        show c / 50 % 3 < 2 ^ 64
        omega
      dsimp only
      rw [eJ]
      refine ⟨p, _, _, j, rfl, rfl, n1.here, ixN_nat (by rw [lg]; exact hj), fun G cg => ?_⟩
      have h0 := Int.emod_nonneg (c / 50) (show (3 : Int) ≠ 0 by decide)
      have h1 : 0 ≤ c / 50 % 3 * 10 ^ (29 : Int).toNat := Int.mul_nonneg h0 (by decide)
      generalize c / 50 % 3 * 10 ^ (29 : Int).toNat = y at h1 cg
      obtain ⟨zs, z1, z2, z3, z4⟩ := st (-1 - y) (.inl (by omega)) G cg
      exact ⟨zs, rfl, z1, z2, z3, z4⟩
    rw [decide_eq_false (show ¬ V.int mn = V.int 2 from fun z => c3 (V.int.inj z))]
    refine iteF ⟨_, _, rfl, rfl, ⟨by decide, by decide, by decide⟩, _, rfl, _, _, rfl, rfl, ⟨by decide, by decide⟩, _, _, rfl, rfl, (show (0 : Int) < 2 by decide), _, rfl, _, _, rfl, rfl, ⟨by decide, by decide, by decide⟩, _, _, rfl, rfl, (show (0 : Int) < 10 ^ (30 : Int).toNat by decide), _, _, rfl, rfl, .inl ⟨?_, ?_⟩, _, _, rfl, rfl, _, rfl, _, rfl, _, rfl, g, _, rfl, .inl (SqL.of hg1), _, _, rfl, rfl, pos, ?_⟩
    · have := Int.emod_nonneg (c / 50) (show (2 : Int) ≠ 0 by decide)
      show -(2 ^ 64) < c / 50 % 2
      omega
    · have := Int.emod_lt_of_pos (c / 50) (show (0 : Int) < 2 by decide)
      show c / 50 % 2 < 2 ^ 64
      omega
    dsimp only
    rw [eJ]
    refine ⟨p, _, _, j, rfl, rfl, n1.here, ixN_nat (by rw [lg]; exact hj), fun G cg => ?_⟩
    have h0 := Int.emod_nonneg (c / 50) (show (2 : Int) ≠ 0 by decide)
    have h1 := Int.emod_nonneg c (show (10 : Int) ^ (30 : Int).toNat ≠ 0 by decide)
    have h2 : 0 ≤ c / 50 % 2 * (c % 10 ^ (30 : Int).toNat) := Int.mul_nonneg h0 h1
    have e : bigN = 10 ^ (30 : Int).toNat := by decide
    generalize c / 50 % 2 * (c % 10 ^ (30 : Int).toNat) = y at h2 cg
    rw [← e] at cg
    obtain ⟨zs, z1, z2, z3, z4⟩ := st (bigN + y) (.inr (by omega)) G cg
    exact ⟨zs, rfl, z1, z2, z3, z4⟩
  rintro σ' G ⟨zs, rfl, z1, z2, z3, z4⟩
  exact ⟨_, rfl, q p zs G z1 n1.fresh z2 z3 z4⟩
end

end K


namespace K
open PySem L2 Lw Bg
abbrev s_law : Stmt := top 86
theorem sc_law : FnScope ["_law_script", "_law_n", "_law_ties_here", "_law_good", "_law_bad", "_law_handed", "_law_web"] ["_law_script"] (defScope s_law) := ⟨rfl, rfl, rfl, by decide +kernel, rfl, by decide +kernel, by decide +kernel⟩
theorem TieL.keep {H H' : Hp} {v : V} {s : Int × Int} (k : Same H H') (h : TieL H v s) : TieL H' v s := by
  obtain ⟨p, e, h⟩ := h
  exact ⟨p, e, k _ _ h⟩
def tkT (t : Int × Int) : List Key := [Sum.inl t.1, Sum.inl t.2]
theorem tk_of {H : Hp} {v : V} {t : Int × Int} (h : TieL H v t) : KyL H v (tkT t) := by
  obtain ⟨p, e, h⟩ := h
  exact ⟨p, e, h⟩
theorem pr_tk {H : Hp} : ∀ {xs : List V} {ts : List (Int × Int)}, Paired (TieL H) xs ts → Paired (KyL H) xs (ts.map tkT)
  | _, _, .nil => .nil
  | _, _, .cons h t => .cons (tk_of h) (pr_tk t)
theorem web_nd {n : Int} {ts : List (Int × Int)} (w : Web n ts) : (ts.map tkT).Nodup := by
  refine List.pairwise_map.mpr (w.up.imp fun {s t} h e => ?_)
  have e1 : s.1 = t.1 := Sum.inl.inj (List.cons.inj e).1
  have e2 : s.2 = t.2 := Sum.inl.inj (List.cons.inj (List.cons.inj e).2).1
  rcases h with h | ⟨_, h⟩ <;> omega
theorem wt_good {m : Nat} {ws : List Int} (l : ws.length = m) (h : ∀ x ∈ ws, 0 ≤ x ∧ x < bigN) : wtOk m (some ws) = true := by
  show (decide (ws.length = m) && ws.all _) = true
  rw [decide_eq_true l, Bool.true_and, List.all_eq_true]
  exact fun x hx => by rw [Bool.and_eq_true]; exact ⟨decide_eq_true (h x hx).1, decide_eq_true (h x hx).2⟩
section
variable {P : Program} {w : World} {K : PySem.W.Frag} {mg : Str → Option Value} {base : Heap}
set_option maxHeartbeats 8000000 in
theorem ok_law (B : Bl mg) (Bz : mg "zip" = none) (C : Cl K mg) (D_Question : ObQuestion K mg) (D_Rounds : ObRounds K mg) (U : Used w K mg) (Ct : Cts mg) (d_is_whole : Dn K mg "is_whole" s_is_whole ["thing"]) (d_is_below : Dn K mg "is_below" s_is_below ["n", "thing"]) (d_weights_of : Dn K mg "weights_of" s_weights_of ["many", "weights"]) (d_costs_of : Dn K mg "costs_of" s_costs_of ["ties", "costs"]) (d_is_set : Dn K mg "is_set" s_is_set ["n", "places"]) (d_is_up : Dn K mg "is_up" s_is_up ["k", "up"]) (d_row_fault : Dn K mg "row_fault" s_row_fault ["n", "rows"]) (d_place_fault : Dn K mg "place_fault" s_place_fault ["n", "rows"]) (d_tie_fault : Dn K mg "tie_fault" s_tie_fault ["ties", "rows"]) (d_is_held : Dn K mg "is_held" s_is_held ["rows", "up", "v"]) (d_apart_fault : Dn K mg "apart_fault" s_apart_fault ["n", "rows"]) (d_fault : Dn K mg "fault" s_fault ["graph", "rows"]) (d_joint : Dn K mg "joint" s_joint ["one", "other"]) (d_less : Dn K mg "less" s_less ["one", "other"]) (d_bag_behind : Dn K mg "bag_behind" s_bag_behind ["graph", "done", "step", "used"]) (d_run : Dn K mg "run" s_run ["graph", "steps"]) (d_fault_behind : Dn K mg "fault_behind" s_fault_behind ["graph", "steps", "tops", "pile"]) (d_run_whole : Dn K mg "run_whole" s_run_whole ["graph", "steps"]) (d_refuse_wide : Dn K mg "refuse_wide" s_refuse_wide ["bags"]) (d_steps_of : Dn K mg "steps_of" s_steps_of ["graph", "tree"]) (d_run_narrow : Dn K mg "run_narrow" s_run_narrow ["graph", "steps"]) (d_tables : Dn K mg "tables" s_tables ["steps", "question"]) (d_trail : Dn K mg "trail" s_trail ["steps", "question"]) (d_answer : Dn K mg "answer" s_answer ["tree", "question"]) (d__law_cell : Dn K mg "_law_cell" s__law_cell ["_law_script", "_law_k"]) (d__law_mixed : Dn K mg "_law_mixed" s__law_mixed ["_law_cell_here", "_law_many"]) (d__law_ties : Dn K mg "_law_ties" s__law_ties ["_law_script", "_law_at", "_law_n"]) (d__law_price : Dn K mg "_law_price" s__law_price ["_law_cell_here"]) (d__law_other_kind : Dn K mg "_law_other_kind" s__law_other_kind ["_law_e"]) (d__law_refused : Dn K mg "_law_refused" s__law_refused ["_law_web", "_law_prices"]) (d__law_kind : Dn K mg "_law_kind" s__law_kind ["_law_question", "_law_menu", "_law_thing"]) (d__law_along_refused : Dn K mg "_law_along_refused" s__law_along_refused ["_law_n"]) (d__law_spoiled : Dn K mg "_law_spoiled" s__law_spoiled ["_law_script", "_law_good"]) (d_law : Dn K mg "law" s_law ["_law_script"]) : FnOk P w K mg base CX0 18 d_law.f d_law.fd ["_law_script"] (spLaw K) := by
  have G__law_cell : FnOk P w K mg base CX0 17 _ _ _ _ := (ok_cell B d__law_cell).mono (by decide)
  have G__law_ties : FnOk P w K mg base CX0 17 _ _ _ _ := (ok__law_ties B d__law_cell d__law_mixed d__law_ties).mono (by decide)
  have G__law_price : FnOk P w K mg base CX0 17 _ _ _ _ := (ok__law_price B d__law_mixed d__law_price).mono (by decide)
  have G__law_spoiled : FnOk P w K mg base CX0 17 _ _ _ _ := (ok__law_spoiled B d__law_cell d__law_spoiled).mono (by decide)
  have G__law_refused : FnOk P w K mg base CX0 17 _ _ _ _ := (ok__law_refused B Bz Ct C D_Question D_Rounds d_is_whole d_is_below d_weights_of d_costs_of d__law_other_kind d__law_refused).mono (by decide)
  have G_Rounds___init__ : FnOk P w K mg base CX0 16 _ _ _ _ := (ok_Rounds_init B Bz Ct D_Question D_Rounds d_is_whole d_is_below d_weights_of d_costs_of).mono (by decide)
  have G__law_along_refused : FnOk P w K mg base CX0 17 _ _ _ _ := ok__law_along_refused B Bz Ct C U D_Question D_Rounds d_is_whole d_is_below d_weights_of d_costs_of d_is_set d_is_up d_row_fault d_place_fault d_tie_fault d_is_held d_apart_fault d_fault d_joint d_less d_bag_behind d_run d_fault_behind d_run_whole d_refuse_wide d_steps_of d_run_narrow d_tables d_trail d_answer d__law_kind d__law_along_refused
  refine d_law.F.ok sc_law (fun vs H Q E h => ?_) (fun cdv A outer s H vs Q E hr h => ?_)
  · obtain ⟨a, ns, rfl, _⟩ := h
    rfl
  obtain ⟨a, ns, rfl, hScr, h63, q⟩ := h
  have hu : (A.deeper (PyProof.Rows.envOfC "law" (defScope s_law) s.heap.objs.size d_law.f cdv)).units + 64 < cLine := by have := hr.un; omega
  have hS := hScr.seq
  refine ⟨_, (pss_cons (ps_set (i := 1) sc_law.nd rfl (Or.inl rfl) (pe_op op_mod (pe_call G__law_cell hr rfl d__law_cell.m d__law_cell.F.kp d__law_cell.b .nil pass0 (pa_cons (pv 0) (pa_cons pe_int pa_nil))) pe_int))
      (pss_cons (ps_set (i := 2) sc_law.nd rfl (Or.inl rfl) (pe_call G__law_ties hr rfl d__law_ties.m d__law_ties.F.kp d__law_ties.b .nil pass0 (pa_cons (pv 0) (pa_cons pe_int (pa_cons (pv 1) pa_nil)))))
      (pss_cons (ps_setLC (i := 3) ["_law_k", "_law_script"] [none, some 0] sc_law.nd rfl rfl (by kernel_rfl) rfl (pi_range1 rfl B.range (pa_cons (pe_callB (call_lenK (K := K) rfl) rfl B.len (by decide +kernel) (pa_cons (pv 2) pa_nil)) pa_nil)) (fun _ _ _ _ _ => (pg_name (i := 0) (show (["_law_k", "_law_script"] : List Str).Nodup by decide +kernel) rfl (Or.inl rfl))) (fun _ _ _ _ _ => pts_nil) (fun _ _ _ _ _ => (pe_call G__law_price hr rfl d__law_price.m d__law_price.F.kp d__law_price.b .nil pass0 (pa_cons (pe_call G__law_cell hr rfl d__law_cell.m d__law_cell.F.kp d__law_cell.b .nil pass0 (pa_cons (pv 1) (pa_cons (pe_op op_add pe_int (pv 0)) pa_nil))) pa_nil))) (by rfl))
      (pss_cons (ps_set (i := 4) sc_law.nd rfl (Or.inl rfl) (pe_call G__law_spoiled hr rfl d__law_spoiled.m d__law_spoiled.F.kp d__law_spoiled.b .nil pass0 (pa_cons (pv 0) (pa_cons (pv 3) pa_nil))))
      (pss_cons (ps_set (i := 5) sc_law.nd rfl (Or.inl rfl) (pe_callTy (call_listN (K := K) rfl) rfl B.list (by decide +kernel) (pa_cons (pv 4) pa_nil)))
      (pss_cons (ps_set (i := 6) sc_law.nd rfl (Or.inl rfl) (pe_tupN (pa_cons (pv 1) (pa_cons (pe_callTy (call_listN (K := K) rfl) rfl B.list (by decide +kernel) (pa_cons (pv 2) pa_nil)) pa_nil))))
      (pss_cons (ps_if (PW.pt (pw_or (pt_not (pt_truthK (K := K) rfl (pe_call G__law_refused hr rfl d__law_refused.m d__law_refused.F.kp d__law_refused.b .nil pass0 (pa_cons (pv 6) (pa_cons (pv 5) pa_nil))) (fun _ => rfl))) (pw_or (pt_cmpR (op_neDK (K := K) rfl hu) (pv 5) (pv 4) (nomark _)) (pw_or1 (pt_cmpR (op_neDK (K := K) rfl hu) (pv 6) (pe_tupN (pa_cons (pv 1) (pa_cons (pv 2) pa_nil))) (nomark _))))))
      (pss_one (ps_ret pe_bl))
      pss_nil)
      (pss_cons (ps_set (i := 5) sc_law.nd rfl (Or.inl rfl) (pe_callTy (call_listN (K := K) rfl) rfl B.list (by decide +kernel) (pa_cons (pv 3) pa_nil)))
      (pss_cons (ps_if (PW.pt (pw_or (pt_not (pt_truthK (K := K) rfl (pe_callB (call_isinstK (K := K) rfl) rfl B.isinstance (by decide +kernel) (pa_cons (pe_make D_Rounds.mkd G_Rounds___init__ hr rfl D_Rounds.m D_Rounds.d___init__.b .nil pass0 (pa_cons (pv 6) (pa_cons (pv 5) pa_nil))) (pa_cons (pe_glob (v := .ref D_Question.C) (u := .ref D_Question.C) rfl D_Question.m rfl) pa_nil))) (fun _ => rfl))) (pw_or (pt_cmpR (op_neDK (K := K) rfl hu) (pv 5) (pv 3) (nomark _)) (pw_or1 (pt_cmpR (op_neDK (K := K) rfl hu) (pv 6) (pe_tupN (pa_cons (pv 1) (pa_cons (pv 2) pa_nil))) (nomark _))))))
      (pss_one (ps_ret pe_bl))
      pss_nil)
      (pss_cons (ps_if (PW.pt (pw_or (pt_not (pt_truthK (K := K) rfl (pe_callB (call_isinstK (K := K) rfl) rfl B.isinstance (by decide +kernel) (pa_cons (pe_make D_Rounds.mkd G_Rounds___init__ hr rfl D_Rounds.m D_Rounds.d___init__.b1 vals_non1 pass0 (pa_cons (pv 6) pa_nil)) (pa_cons (pe_glob (v := .ref D_Question.C) (u := .ref D_Question.C) rfl D_Question.m rfl) pa_nil))) (fun _ => rfl))) (pw_or1 (pt_not (pt_truthK (K := K) rfl (pe_callB (call_isinstK (K := K) rfl) rfl B.isinstance (by decide +kernel) (pa_cons (pe_make D_Rounds.mkd G_Rounds___init__ hr rfl D_Rounds.m D_Rounds.d___init__.b .nil pass0 (pa_cons (pv 6) (pa_cons pe_non pa_nil))) (pa_cons (pe_glob (v := .ref D_Question.C) (u := .ref D_Question.C) rfl D_Question.m rfl) pa_nil))) (fun _ => rfl))))))
      (pss_one (ps_ret pe_bl))
      pss_nil)
      (pss_one (ps_ret (pe_and (pe_call G__law_refused hr rfl d__law_refused.m d__law_refused.F.kp d__law_refused.b .nil pass0 (pa_cons (pv 6) (pa_cons (pv 4) pa_nil))) (pe_one (pe_call G__law_along_refused hr rfl d__law_along_refused.m d__law_along_refused.F.kp d__law_along_refused.b .nil pass0 (pa_cons (pe_op op_add pe_int (pe_op op_mod (pe_call G__law_cell hr rfl d__law_cell.m d__law_cell.F.kp d__law_cell.b .nil pass0 (pa_cons (pv 0) (pa_cons pe_int pa_nil))) pe_int)) pa_nil)))))))))))))))), ?_⟩
  refine ⟨_, rfl, a, ns, 0, rfl, hS, h63, by decide, by decide, _, _, rfl, rfl, (show (0 : Int) < 8 by decide), ?_⟩
  obtain ⟨n, en⟩ : ∃ n : Nat, cellF ns 0 % 8 = (n : Int) := ⟨(cellF ns 0 % 8).toNat, by omega⟩
  have n10 : n ≤ 10 := by omega
  dsimp only
  rw [en]
  refine ⟨_, rfl, _, rfl, a, ns, 1, n, rfl, hS, h63, by decide, by decide, n10, fun r xs ts H1 s1 fr hr1 pt W l100 => ?_⟩
  have lx := Paired.length pt
  have hS1 := s1.seq hS
  refine ⟨_, rfl, r, _, rfl, .inl (SqL.of hr1), _, rfl, by omega, by omega, ?_⟩
  refine lc_range (n := xs.length) (fun i ys G => G = H1 ∧ ∃ ws : List Int, ys = ws.map V.int ∧ ws.length = i ∧ ∀ x ∈ ws, 0 ≤ x ∧ x < bigN) ⟨rfl, [], rfl, rfl, fun _ h => absurd h List.not_mem_nil⟩ (fun i ys G hi ⟨_, ws, e, l, _⟩ => ?_) (fun i ys G hi ⟨eg, ws, e, l, hw⟩ => ?_) (fun ys G ⟨eg, ws, e, lw, hw⟩ p3 hp3 => ?_)
  · rw [e, List.length_map, l]
    exact Nat.le_of_lt (small1000 (by omega))
  · subst eg
    refine ⟨_, rfl, _, rfl, _, _, rfl, rfl, a, ns, _, rfl, hS1, h63, by omega, by omega, _, rfl, fun z z0 z1 => ⟨rfl, ws ++ [z], by rw [e, List.map_append]; rfl, by rw [List.length_append, l]; rfl, fun x hx => ?_⟩⟩
    rcases List.mem_append.mp hx with h | h
    · exact hw x h
    · rw [List.mem_singleton.mp h]
      exact ⟨z0, z1⟩
  subst eg
  subst e
  have n3 := New.mk0 (o := .lst (ws.map V.int)) hp3
  generalize upd G p3 (.lst (ws.map V.int)) = H3 at n3 ⊢
  have s3 := n3.same
  refine ⟨_, rfl, _, rfl, a, p3, ns, ws, rfl, s3.seq hS1, h63, n3.here, by omega, fun pb zs H4 s4 fb hb lz no => ?_⟩
  have g4 := s3.trans s4
  refine ⟨_, rfl, pb, _, rfl, .inl (SqL.of hb), fun ph H5 n5 => ?_⟩
  have g5 := g4.trans n5.same
  refine ⟨_, rfl, _, rfl, r, _, rfl, .inl (SqL.of (g5 _ _ hr1)), fun p6 H6 n6 => ⟨(by show 2 ≤ 1000; decide), fun pw H7 n7 => ?_⟩⟩
  have k57 := n6.same.trans n7.same
  have g7 := g5.trans k57
  have wbK : wtOk xs.length (some zs) = false := by rw [← lw]; exact no
  have pt7 := Paired.mapP pt fun _ _ h => TieL.keep g7 h
  have eqI : ∀ {G : Hp} {p p' : Addr} {ks : List Int}, G p = some (.lst (ks.map V.int)) → G p' = some (.lst (ks.map V.int)) → ∀ {Q : VK}, Q (.bl false) G → rEqD K true (.ref p) (.ref p') G Q := fun {G p p' ks} h h' {Q} q => ⟨_, _, .lst (SqL.of h) (IsDs.ints ks), .lst (SqL.of h') (IsDs.ints ks), shaped_ints ks, shaped_ints ks, by rw [eqv_self (shaped_ints ks)]; exact q⟩
  have gV : ∀ {G : Hp} {p pl : Addr}, Same H7 G → G p = some (.tup [.int (n : Int), .ref pl]) → G pl = some (.lst xs) → GraphV K G (.ref p) n ts := fun {G p pl} s h h' => ⟨p, pl, rfl, SqT.of h, xs, SqL.of h', Paired.mapP pt7 fun _ _ ⟨q, e, h⟩ => ⟨q, e, SqT.of (s _ _ h)⟩, by omega⟩
  refine ⟨_, rfl, _, rfl, pw, p6, n, xs, zs, ph, rfl, SqT.of n7.here, n7.same _ _ n6.here, SqL.of (k57 _ _ n5.here), by omega, by omega, wbK, fun H8 s8 => ?_⟩
  have g8 := g7.trans s8
  have mkd : ∀ {G : Hp} {v : V} {o : Option (List Int)}, Same H7 G → WtV K G v o → (∀ ws, o = some ws → ws.length ≤ 200) → wtOk ts.length o = true → ∀ d dx, G d = none → G dx = none → dx ≠ d → ∀ {Q : Hp → Prop}, (∀ G', Same G G' → (∃ dx fs, G' d = some (.ins D_Rounds.C dx fs)) → Q G') → spRInit K D_Rounds.C [.ref d, .ref pw, v] (upd (upd G dx (.own d)) d (.ins D_Rounds.C dx [])) (fun v H2 => v = .non ∧ Q H2) E0 := fun {G v o} s hv h2 ok d dx fd fx ne {Q} q' => by
    have s0 : Same G (upd (upd G dx (.own d)) d (.ins D_Rounds.C dx [])) := (same_new fx _).trans (same_new (by rw [upd_ne (Ne.symm ne)]; exact fd) _)
    have hd : upd (upd G dx (.own d)) d (.ins D_Rounds.C dx []) d = some (.ins D_Rounds.C dx []) := upd_same
    generalize upd (upd G dx (.own d)) d (.ins D_Rounds.C dx []) = G0 at s0 hd ⊢
    have s70 := s.trans s0
    have hv0 : WtV K G0 v o := by
      cases o with
      | none => exact hv
      | some ws =>
        obtain ⟨a, e, h⟩ := hv
        exact ⟨a, e, s0.seq h⟩
    refine ⟨d, dx, pw, p6, n, xs, ts.map tkT, v, o, rfl, hd, SqT.of (s70 _ _ n7.here), (n7.same.trans s70) _ _ n6.here, pr_tk (Paired.mapP pt7 fun _ _ h => TieL.keep s70 h), web_nd W, by rw [List.length_map]; exact l100, hv0, h2, by rw [List.length_map]; exact ok, fun H' e' hD => ⟨rfl, ?_⟩⟩
    obtain ⟨dx', pg, pt', l, u, c, h1, _⟩ := hD
    exact q' H' (fun c o hc => e' c o (fun z => by rw [z, fd] at hc; cases hc) (s0 _ _ hc)) ⟨_, _, h1⟩
  have iq : IsQ K D_Rounds.C D_Question.C := by
    have e : D_Rounds.q_Question = D_Question.C := Value.ref.inj (Option.some.inj (D_Rounds.mq_Question.symm.trans D_Question.m))
    have iq := D_Rounds.iq_Question
    rw [e] at iq
    exact iq
  refine ⟨_, rfl, iteF ?_⟩
  refine ⟨_, rfl, _, rfl, eqI (s8 _ _ (k57 _ _ n5.here)) ((n5.same.trans (k57.trans s8)) _ _ hb) ⟨_, rfl, iteF ?_⟩⟩
  refine ⟨_, rfl, _, rfl, _, rfl, (by show 2 ≤ 1000; decide), fun p9 H9 n9 => ?_⟩
  have s9 := s8.trans n9.same
  refine ⟨_, _, (gV s9 (s9 _ _ n7.here) (s9 _ _ (n7.same _ _ n6.here))).isD, (gV s9 n9.here (n9.same _ _ (g8 _ _ hr1))).isD, shaped_web _ _, shaped_web _ _, ?_⟩
  rw [eqv_self (shaped_web _ _)]
  refine ⟨_, rfl, iteF ?_⟩
  have g39 : Same H3 H9 := s4.trans (n5.same.trans (k57.trans s9))
  refine ⟨_, rfl, p3, _, rfl, .inl (SqL.of (g39 _ _ n3.here)), fun p10 H10 n10' => ?_⟩
  have s10 := s9.trans n10'.same
  have l200 : ∀ ws', some ws = some ws' → ws'.length ≤ 200 := fun ws' e => by cases e; omega
  refine ⟨_, rfl, _, rfl, fun d dx fd fx ne => mkd (o := some ws) s10 ⟨p10, rfl, SqL.of n10'.here⟩ l200 (wt_good (by omega) hw) d dx fd fx ne fun H11 s11 hd' => ?_⟩
  obtain ⟨dx, fs, hd⟩ := hd'
  refine ⟨_, _, _, _, _, rfl, rfl, iq.ty D_Rounds.cl hd, iq.is, ?_⟩
  refine ⟨_, rfl, iteF ?_⟩
  refine ⟨_, rfl, _, rfl, eqI (s11 _ _ n10'.here) (s11 _ _ (n10'.same _ _ (g39 _ _ n3.here))) ⟨_, rfl, iteF ?_⟩⟩
  refine ⟨_, rfl, _, rfl, _, rfl, (by show 2 ≤ 1000; decide), fun p12 H12 n12 => ?_⟩
  have s12 := s10.trans (s11.trans n12.same)
  refine ⟨_, _, (gV s12 (s12 _ _ n7.here) (s12 _ _ (n7.same _ _ n6.here))).isD, (gV s12 n12.here ((g7.trans s12) _ _ hr1)).isD, shaped_web _ _, shaped_web _ _, ?_⟩
  rw [eqv_self (shaped_web _ _)]
  refine ⟨_, rfl, iteF ?_⟩
  refine ⟨_, rfl, fun d dx fd fx ne => mkd (o := none) s12 rfl (fun _ z => by cases z) rfl d dx fd fx ne fun H13 s13 hd' => ?_⟩
  obtain ⟨dx, fs, hd⟩ := hd'
  refine ⟨_, _, _, _, _, rfl, rfl, iq.ty D_Rounds.cl hd, iq.is, ?_⟩
  refine ⟨_, rfl, iteF ?_⟩
  refine ⟨_, rfl, fun d dx fd fx ne => mkd (o := none) (s12.trans s13) rfl (fun _ z => by cases z) rfl d dx fd fx ne fun H14 s14 hd' => ?_⟩
  obtain ⟨dx, fs, hd⟩ := hd'
  refine ⟨_, _, _, _, _, rfl, rfl, iq.ty D_Rounds.cl hd, iq.is, ?_⟩
  refine ⟨_, rfl, iteF ?_⟩
  have s14' := s12.trans (s13.trans s14)
  refine ⟨_, rfl, _, rfl, pw, p6, n, xs, zs, pb, rfl, SqT.of (s14' _ _ n7.here), (n7.same.trans s14') _ _ n6.here, SqL.of ((n5.same.trans (k57.trans s14')) _ _ hb), by omega, by omega, wbK, fun H15 s15 => ?_⟩
  have g15 := (s1.trans g7).trans (s14'.trans s15)
  refine ⟨_, rfl, iteT ?_⟩
  refine ⟨_, rfl, a, ns, 4, rfl, g15.seq hS, h63, by decide, by decide, _, _, rfl, rfl, (show (0 : Int) < 6 by decide), _, _, rfl, rfl, ?_⟩
  obtain ⟨m, em⟩ : ∃ m : Nat, 5 + cellF ns 4 % 6 = (m : Int) := ⟨(5 + cellF ns 4 % 6).toNat, by omega⟩
  dsimp only
  rw [em]
  exact ⟨m, rfl, by omega, by omega, fun H16 _ => q _⟩
end

end K


open PySem PySem.W PyProof.Rows
def PySem.W.Fast.tw14076746636334312263 : Unit := ()
def PySem.W.Fast.tw5518814153067765968 : Unit := ()
def PySem.W.Fast.tw13668797429484492856 : Unit := ()
def PySem.W.Fast.tw8132980952279831294 : Unit := ()
def PySem.W.Fast.tw5197446191770523458 : Unit := ()
def PySem.W.Fast.tw10277967555345632034 : Unit := ()
def PySem.W.Fast.tw327438907636828919 : Unit := ()
def PySem.W.Fast.tw6546645790103794963 : Unit := ()
def PySem.W.Fast.tw14853747721906331211 : Unit := ()
def PySem.W.Fast.tw12928836468362304519 : Unit := ()
def PySem.W.Fast.tw1233400615948213306 : Unit := ()
def PySem.W.Fast.tw2791481183007464440 : Unit := ()
def PySem.W.Fast.tw16440808809648781984 : Unit := ()
def PySem.W.Fast.tw11173518630706976502 : Unit := ()
def PySem.W.Fast.tw7344338670479391152 : Unit := ()
def PySem.W.Fast.tw10238449556012045963 : Unit := ()
def PySem.W.Fast.tw17592411097159721412 : Unit := ()
def PySem.W.Fast.tw11621114023283594949 : Unit := ()
def PySem.W.Fast.tw17999876098071526370 : Unit := ()
def PySem.W.Fast.tw5250161812164512784 : Unit := ()
def PySem.W.Fast.tw11146628699265688330 : Unit := ()
def PySem.W.Fast.tw7226605784357745709 : Unit := ()
def PySem.W.Fast.tw6600607132450911599 : Unit := ()
def PySem.W.Fast.tw4085670706429622865 : Unit := ()
def PySem.W.Fast.tw15583459995276556276 : Unit := ()
def PySem.W.Fast.tw5358586854293160078 : Unit := ()
def PySem.W.Fast.tw12955230118442930610 : Unit := ()
def PySem.W.Fast.tw14960555410692159790 : Unit := ()
def PySem.W.Fast.tw3158700513955734091 : Unit := ()
def PySem.W.Fast.tw5045648927023350814 : Unit := ()
def PySem.W.Fast.tw14775507611873751201 : Unit := ()
def PySem.W.Fast.tw16729340411512864052 : Unit := ()
def PySem.W.Fast.tw12201293234943238376 : Unit := ()
def PySem.W.Fast.tw15769570788404504171 : Unit := ()
def PySem.W.Fast.tw5922361268815155131 : Unit := ()
def PySem.W.Fast.tw17012995776167163986 : Unit := ()
def PySem.W.Fast.tw16184992936195845731 : Unit := ()
def PySem.W.Fast.tw3907030087775109028 : Unit := ()
def PySem.W.Fast.tw7280998147262166692 : Unit := ()
def PySem.W.Fast.tw2158240800126149847 : Unit := ()
def PySem.W.Fast.tw4424278804801068031 : Unit := ()
def PySem.W.Fast.tw4636103792565708538 : Unit := ()
def PySem.W.Fast.tw5266632619485585757 : Unit := ()
def PySem.W.Fast.tw3908048007779506073 : Unit := ()
def PySem.W.Fast.tw9626198773391360175 : Unit := ()
def PySem.W.Fast.tw18192223514574030199 : Unit := ()
def PySem.W.Fast.tw7500991906372226655 : Unit := ()
set_option maxRecDepth 100000 in
set_option maxHeartbeats 0 in
theorem PySem.Challenge.cw_bagwood_k75_rounds_refused_holds : PySem.Challenge.rw_bagwood_k75_rounds_refused.Holds := by
  w_on; o_law; k_head; (case hw => w_witness2)
  k_fill
  refine L2.walk_ofK (l := PySem.Challenge.rw_bagwood_k75_rounds_refused) (n := 63) (k := 18) (x := "_law_script") (CX := L2.CX0) (sp := Lw.spLaw) rfl (by decide) rfl ⟨rfl, by decide, by decide⟩ (fun w h Y => PySem.W.kIn_of Y) ?F ?S ?C
  case F =>
    intro w mg fa h KX G hmg
    have B : L2.Bl mg := by
      refine' L2.bl_mk KX G ?z1 ?z2 ?z3 ?z4 ?z5 ?z6 ?z7 ?z8 ?z9 ?z10 ?z11 ?z12 ?z13 ?z14 ?z15 ?z16 ?z17
      all_goals k_is
    have Bz : mg "zip" = none := by
      refine' PySem.W.mg_none_of KX G ?z
      k_is
    have d_is_whole : Nonempty (L2.Dn (L2.KOf KX) mg "is_whole" K.s_is_whole ["thing"]) := by
      dsimp only [L2.KOf]
      refine' L2.dn_mk1 KX G ?a ?l ?c ?k rfl (fun _ _ _ _ _ _ _ => rfl)
      (case a => k_is); (case l => k_is); (case c => k_is); (case k => k_is)
    obtain ⟨d_is_whole⟩ := d_is_whole
    have d_is_below : Nonempty (L2.Dn (L2.KOf KX) mg "is_below" K.s_is_below ["n", "thing"]) := by
      dsimp only [L2.KOf]
      refine' L2.dn_mk2 KX G ?a ?l ?c ?k rfl (fun _ _ _ _ _ _ _ _ => rfl)
      (case a => k_is); (case l => k_is); (case c => k_is); (case k => k_is)
    obtain ⟨d_is_below⟩ := d_is_below
    have d_weights_of : Nonempty (L2.Dn (L2.KOf KX) mg "weights_of" K.s_weights_of ["many", "weights"]) := by
      dsimp only [L2.KOf]
      refine' L2.dn_mk2 KX G ?a ?l ?c ?k rfl (fun _ _ _ _ _ _ _ _ => rfl)
      (case a => k_is); (case l => k_is); (case c => k_is); (case k => k_is)
    obtain ⟨d_weights_of⟩ := d_weights_of
    have d_costs_of : Nonempty (L2.Dn (L2.KOf KX) mg "costs_of" K.s_costs_of ["ties", "costs"]) := by
      dsimp only [L2.KOf]
      refine' L2.dn_mk2 KX G ?a ?l ?c ?k rfl (fun _ _ _ _ _ _ _ _ => rfl)
      (case a => k_is); (case l => k_is); (case c => k_is); (case k => k_is)
    obtain ⟨d_costs_of⟩ := d_costs_of
    have d_is_set : Nonempty (L2.Dn (L2.KOf KX) mg "is_set" K.s_is_set ["n", "places"]) := by
      dsimp only [L2.KOf]
      refine' L2.dn_mk2 KX G ?a ?l ?c ?k rfl (fun _ _ _ _ _ _ _ _ => rfl)
      (case a => k_is); (case l => k_is); (case c => k_is); (case k => k_is)
    obtain ⟨d_is_set⟩ := d_is_set
    have d_is_up : Nonempty (L2.Dn (L2.KOf KX) mg "is_up" K.s_is_up ["k", "up"]) := by
      dsimp only [L2.KOf]
      refine' L2.dn_mk2 KX G ?a ?l ?c ?k rfl (fun _ _ _ _ _ _ _ _ => rfl)
      (case a => k_is); (case l => k_is); (case c => k_is); (case k => k_is)
    obtain ⟨d_is_up⟩ := d_is_up
    have d_row_fault : Nonempty (L2.Dn (L2.KOf KX) mg "row_fault" K.s_row_fault ["n", "rows"]) := by
      dsimp only [L2.KOf]
      refine' L2.dn_mk2 KX G ?a ?l ?c ?k rfl (fun _ _ _ _ _ _ _ _ => rfl)
      (case a => k_is); (case l => k_is); (case c => k_is); (case k => k_is)
    obtain ⟨d_row_fault⟩ := d_row_fault
    have d_place_fault : Nonempty (L2.Dn (L2.KOf KX) mg "place_fault" K.s_place_fault ["n", "rows"]) := by
      dsimp only [L2.KOf]
      refine' L2.dn_mk2 KX G ?a ?l ?c ?k rfl (fun _ _ _ _ _ _ _ _ => rfl)
      (case a => k_is); (case l => k_is); (case c => k_is); (case k => k_is)
    obtain ⟨d_place_fault⟩ := d_place_fault
    have d_tie_fault : Nonempty (L2.Dn (L2.KOf KX) mg "tie_fault" K.s_tie_fault ["ties", "rows"]) := by
      dsimp only [L2.KOf]
      refine' L2.dn_mk2 KX G ?a ?l ?c ?k rfl (fun _ _ _ _ _ _ _ _ => rfl)
      (case a => k_is); (case l => k_is); (case c => k_is); (case k => k_is)
    obtain ⟨d_tie_fault⟩ := d_tie_fault
    have d_is_held : Nonempty (L2.Dn (L2.KOf KX) mg "is_held" K.s_is_held ["rows", "up", "v"]) := by
      dsimp only [L2.KOf]
      refine' L2.dn_mk3 KX G ?a ?l ?c ?k rfl (fun _ _ _ _ _ _ _ _ _ => rfl)
      (case a => k_is); (case l => k_is); (case c => k_is); (case k => k_is)
    obtain ⟨d_is_held⟩ := d_is_held
    have d_apart_fault : Nonempty (L2.Dn (L2.KOf KX) mg "apart_fault" K.s_apart_fault ["n", "rows"]) := by
      dsimp only [L2.KOf]
      refine' L2.dn_mk2 KX G ?a ?l ?c ?k rfl (fun _ _ _ _ _ _ _ _ => rfl)
      (case a => k_is); (case l => k_is); (case c => k_is); (case k => k_is)
    obtain ⟨d_apart_fault⟩ := d_apart_fault
    have d_fault : Nonempty (L2.Dn (L2.KOf KX) mg "fault" K.s_fault ["graph", "rows"]) := by
      dsimp only [L2.KOf]
      refine' L2.dn_mk2 KX G ?a ?l ?c ?k rfl (fun _ _ _ _ _ _ _ _ => rfl)
      (case a => k_is); (case l => k_is); (case c => k_is); (case k => k_is)
    obtain ⟨d_fault⟩ := d_fault
    have d_joint : Nonempty (L2.Dn (L2.KOf KX) mg "joint" K.s_joint ["one", "other"]) := by
      dsimp only [L2.KOf]
      refine' L2.dn_mk2 KX G ?a ?l ?c ?k rfl (fun _ _ _ _ _ _ _ _ => rfl)
      (case a => k_is); (case l => k_is); (case c => k_is); (case k => k_is)
    obtain ⟨d_joint⟩ := d_joint
    have d_less : Nonempty (L2.Dn (L2.KOf KX) mg "less" K.s_less ["one", "other"]) := by
      dsimp only [L2.KOf]
      refine' L2.dn_mk2 KX G ?a ?l ?c ?k rfl (fun _ _ _ _ _ _ _ _ => rfl)
      (case a => k_is); (case l => k_is); (case c => k_is); (case k => k_is)
    obtain ⟨d_less⟩ := d_less
    have d_bag_behind : Nonempty (L2.Dn (L2.KOf KX) mg "bag_behind" K.s_bag_behind ["graph", "done", "step", "used"]) := by
      dsimp only [L2.KOf]
      refine' L2.dn_mk4 KX G ?a ?l ?c ?k rfl (fun _ _ _ _ _ _ _ _ _ _ => rfl)
      (case a => k_is); (case l => k_is); (case c => k_is); (case k => k_is)
    obtain ⟨d_bag_behind⟩ := d_bag_behind
    have d_run : Nonempty (L2.Dn (L2.KOf KX) mg "run" K.s_run ["graph", "steps"]) := by
      dsimp only [L2.KOf]
      refine' L2.dn_mk2 KX G ?a ?l ?c ?k rfl (fun _ _ _ _ _ _ _ _ => rfl)
      (case a => k_is); (case l => k_is); (case c => k_is); (case k => k_is)
    obtain ⟨d_run⟩ := d_run
    have d_fault_behind : Nonempty (L2.Dn (L2.KOf KX) mg "fault_behind" K.s_fault_behind ["graph", "steps", "tops", "pile"]) := by
      dsimp only [L2.KOf]
      refine' L2.dn_mk4 KX G ?a ?l ?c ?k rfl (fun _ _ _ _ _ _ _ _ _ _ => rfl)
      (case a => k_is); (case l => k_is); (case c => k_is); (case k => k_is)
    obtain ⟨d_fault_behind⟩ := d_fault_behind
    have d_run_whole : Nonempty (L2.Dn (L2.KOf KX) mg "run_whole" K.s_run_whole ["graph", "steps"]) := by
      dsimp only [L2.KOf]
      refine' L2.dn_mk2 KX G ?a ?l ?c ?k rfl (fun _ _ _ _ _ _ _ _ => rfl)
      (case a => k_is); (case l => k_is); (case c => k_is); (case k => k_is)
    obtain ⟨d_run_whole⟩ := d_run_whole
    have d_refuse_wide : Nonempty (L2.Dn (L2.KOf KX) mg "refuse_wide" K.s_refuse_wide ["bags"]) := by
      dsimp only [L2.KOf]
      refine' L2.dn_mk1 KX G ?a ?l ?c ?k rfl (fun _ _ _ _ _ _ _ => rfl)
      (case a => k_is); (case l => k_is); (case c => k_is); (case k => k_is)
    obtain ⟨d_refuse_wide⟩ := d_refuse_wide
    have d_steps_of : Nonempty (L2.Dn (L2.KOf KX) mg "steps_of" K.s_steps_of ["graph", "tree"]) := by
      dsimp only [L2.KOf]
      refine' L2.dn_mk2 KX G ?a ?l ?c ?k rfl (fun _ _ _ _ _ _ _ _ => rfl)
      (case a => k_is); (case l => k_is); (case c => k_is); (case k => k_is)
    obtain ⟨d_steps_of⟩ := d_steps_of
    have d_run_narrow : Nonempty (L2.Dn (L2.KOf KX) mg "run_narrow" K.s_run_narrow ["graph", "steps"]) := by
      dsimp only [L2.KOf]
      refine' L2.dn_mk2 KX G ?a ?l ?c ?k rfl (fun _ _ _ _ _ _ _ _ => rfl)
      (case a => k_is); (case l => k_is); (case c => k_is); (case k => k_is)
    obtain ⟨d_run_narrow⟩ := d_run_narrow
    have d_tables : Nonempty (L2.Dn (L2.KOf KX) mg "tables" K.s_tables ["steps", "question"]) := by
      dsimp only [L2.KOf]
      refine' L2.dn_mk2 KX G ?a ?l ?c ?k rfl (fun _ _ _ _ _ _ _ _ => rfl)
      (case a => k_is); (case l => k_is); (case c => k_is); (case k => k_is)
    obtain ⟨d_tables⟩ := d_tables
    have d_trail : Nonempty (L2.Dn (L2.KOf KX) mg "trail" K.s_trail ["steps", "question"]) := by
      dsimp only [L2.KOf]
      refine' L2.dn_mk2 KX G ?a ?l ?c ?k rfl (fun _ _ _ _ _ _ _ _ => rfl)
      (case a => k_is); (case l => k_is); (case c => k_is); (case k => k_is)
    obtain ⟨d_trail⟩ := d_trail
    have d_answer : Nonempty (L2.Dn (L2.KOf KX) mg "answer" K.s_answer ["tree", "question"]) := by
      dsimp only [L2.KOf]
      refine' L2.dn_mk2 KX G ?a ?l ?c ?k rfl (fun _ _ _ _ _ _ _ _ => rfl)
      (case a => k_is); (case l => k_is); (case c => k_is); (case k => k_is)
    obtain ⟨d_answer⟩ := d_answer
    have d__law_cell : Nonempty (L2.Dn (L2.KOf KX) mg "_law_cell" K.s__law_cell ["_law_script", "_law_k"]) := by
      dsimp only [L2.KOf]
      refine' L2.dn_mk2 KX G ?a ?l ?c ?k rfl (fun _ _ _ _ _ _ _ _ => rfl)
      (case a => k_is); (case l => k_is); (case c => k_is); (case k => k_is)
    obtain ⟨d__law_cell⟩ := d__law_cell
    have d__law_mixed : Nonempty (L2.Dn (L2.KOf KX) mg "_law_mixed" K.s__law_mixed ["_law_cell_here", "_law_many"]) := by
      dsimp only [L2.KOf]
      refine' L2.dn_mk2 KX G ?a ?l ?c ?k rfl (fun _ _ _ _ _ _ _ _ => rfl)
      (case a => k_is); (case l => k_is); (case c => k_is); (case k => k_is)
    obtain ⟨d__law_mixed⟩ := d__law_mixed
    have d__law_ties : Nonempty (L2.Dn (L2.KOf KX) mg "_law_ties" K.s__law_ties ["_law_script", "_law_at", "_law_n"]) := by
      dsimp only [L2.KOf]
      refine' L2.dn_mk3 KX G ?a ?l ?c ?k rfl (fun _ _ _ _ _ _ _ _ _ => rfl)
      (case a => k_is); (case l => k_is); (case c => k_is); (case k => k_is)
    obtain ⟨d__law_ties⟩ := d__law_ties
    have d__law_price : Nonempty (L2.Dn (L2.KOf KX) mg "_law_price" K.s__law_price ["_law_cell_here"]) := by
      dsimp only [L2.KOf]
      refine' L2.dn_mk1 KX G ?a ?l ?c ?k rfl (fun _ _ _ _ _ _ _ => rfl)
      (case a => k_is); (case l => k_is); (case c => k_is); (case k => k_is)
    obtain ⟨d__law_price⟩ := d__law_price
    have d__law_other_kind : Nonempty (L2.Dn (L2.KOf KX) mg "_law_other_kind" K.s__law_other_kind ["_law_e"]) := by
      dsimp only [L2.KOf]
      refine' L2.dn_mk1 KX G ?a ?l ?c ?k rfl (fun _ _ _ _ _ _ _ => rfl)
      (case a => k_is); (case l => k_is); (case c => k_is); (case k => k_is)
    obtain ⟨d__law_other_kind⟩ := d__law_other_kind
    have d__law_refused : Nonempty (L2.Dn (L2.KOf KX) mg "_law_refused" K.s__law_refused ["_law_web", "_law_prices"]) := by
      dsimp only [L2.KOf]
      refine' L2.dn_mk2 KX G ?a ?l ?c ?k rfl (fun _ _ _ _ _ _ _ _ => rfl)
      (case a => k_is); (case l => k_is); (case c => k_is); (case k => k_is)
    obtain ⟨d__law_refused⟩ := d__law_refused
    have d__law_kind : Nonempty (L2.Dn (L2.KOf KX) mg "_law_kind" K.s__law_kind ["_law_question", "_law_menu", "_law_thing"]) := by
      dsimp only [L2.KOf]
      refine' L2.dn_mk3 KX G ?a ?l ?c ?k rfl (fun _ _ _ _ _ _ _ _ _ => rfl)
      (case a => k_is); (case l => k_is); (case c => k_is); (case k => k_is)
    obtain ⟨d__law_kind⟩ := d__law_kind
    have d__law_along_refused : Nonempty (L2.Dn (L2.KOf KX) mg "_law_along_refused" K.s__law_along_refused ["_law_n"]) := by
      dsimp only [L2.KOf]
      refine' L2.dn_mk1 KX G ?a ?l ?c ?k rfl (fun _ _ _ _ _ _ _ => rfl)
      (case a => k_is); (case l => k_is); (case c => k_is); (case k => k_is)
    obtain ⟨d__law_along_refused⟩ := d__law_along_refused
    have d__law_spoiled : Nonempty (L2.Dn (L2.KOf KX) mg "_law_spoiled" K.s__law_spoiled ["_law_script", "_law_good"]) := by
      dsimp only [L2.KOf]
      refine' L2.dn_mk2 KX G ?a ?l ?c ?k rfl (fun _ _ _ _ _ _ _ _ => rfl)
      (case a => k_is); (case l => k_is); (case c => k_is); (case k => k_is)
    obtain ⟨d__law_spoiled⟩ := d__law_spoiled
    have d_law : Nonempty (L2.Dn (L2.KOf KX) mg "law" K.s_law ["_law_script"]) := by
      dsimp only [L2.KOf]
      refine' L2.dn_mk1 KX G ?a ?l ?c ?k rfl (fun _ _ _ _ _ _ _ => rfl)
      (case a => k_is); (case l => k_is); (case c => k_is); (case k => k_is)
    obtain ⟨d_law⟩ := d_law
    have U : Nonempty (L2.Used w (L2.KOf KX) mg) := by
      dsimp only [L2.KOf]
      refine' L2.used_mk KX G ?a ?l ?c
      (case a => k_is); (case l => k_is); (case c => exact ⟨_, _, _, _, _, _, _, _, _, _, rfl⟩)
    obtain ⟨U⟩ := U
    have Cn : Nonempty (K.Cl (L2.KOf KX) mg) := by
      dsimp only [L2.KOf]
      refine' K.cl_mk KX G ?aBagError ?aNoGraph ?aNoPlace ?aNoTie ?aNoBag ?aNoTree ?aNoOrder ?aNoPart ?aNoSteps ?aTooWide ?aNoColours ?aNoWeights ?aNoNumber ?aNoName ?aNoText ?aNoRow ⟨?gNoWeights1, ?gNoWeights2, ?gNoWeights3, ?gNoWeights4, ?gNoWeights5, ?gNoWeights6, ?gNoWeights7, ?gNoWeights8⟩ ?vNoWeights ⟨?gNoTree1, ?gNoTree2, ?gNoTree3, ?gNoTree4, ?gNoTree5, ?gNoTree6, ?gNoTree7, ?gNoTree8⟩ ?vNoTree ⟨?gNoSteps1, ?gNoSteps2, ?gNoSteps3, ?gNoSteps4, ?gNoSteps5, ?gNoSteps6, ?gNoSteps7, ?gNoSteps8⟩ ?vNoSteps ⟨?gTooWide1, ?gTooWide2, ?gTooWide3, ?gTooWide4, ?gTooWide5, ?gTooWide6, ?gTooWide7, ?gTooWide8⟩ ?vTooWide
      (case aBagError => k_is)
      (case aNoGraph => k_is)
      (case aNoPlace => k_is)
      (case aNoTie => k_is)
      (case aNoBag => k_is)
      (case aNoTree => k_is)
      (case aNoOrder => k_is)
      (case aNoPart => k_is)
      (case aNoSteps => k_is)
      (case aTooWide => k_is)
      (case aNoColours => k_is)
      (case aNoWeights => k_is)
      (case aNoNumber => k_is)
      (case aNoName => k_is)
      (case aNoText => k_is)
      (case aNoRow => k_is)
      (case gNoWeights1 => k_is)
      (case gNoWeights2 => k_is)
      (case gNoWeights3 => k_is)
      (case gNoWeights4 => k_is)
      (case gNoWeights5 => k_is)
      (case gNoWeights6 => k_is)
      (case gNoWeights7 => k_is)
      (case gNoWeights8 => kernel_rfl!)
      (case vNoWeights => kernel_rfl!)
      (case gNoTree1 => k_is)
      (case gNoTree2 => k_is)
      (case gNoTree3 => k_is)
      (case gNoTree4 => k_is)
      (case gNoTree5 => k_is)
      (case gNoTree6 => k_is)
      (case gNoTree7 => k_is)
      (case gNoTree8 => kernel_rfl!)
      (case vNoTree => kernel_rfl!)
      (case gNoSteps1 => k_is)
      (case gNoSteps2 => k_is)
      (case gNoSteps3 => k_is)
      (case gNoSteps4 => k_is)
      (case gNoSteps5 => k_is)
      (case gNoSteps6 => k_is)
      (case gNoSteps7 => k_is)
      (case gNoSteps8 => kernel_rfl!)
      (case vNoSteps => kernel_rfl!)
      (case gTooWide1 => k_is)
      (case gTooWide2 => k_is)
      (case gTooWide3 => k_is)
      (case gTooWide4 => k_is)
      (case gTooWide5 => k_is)
      (case gTooWide6 => k_is)
      (case gTooWide7 => k_is)
      (case gTooWide8 => kernel_rfl!)
      (case vTooWide => kernel_rfl!)
    obtain ⟨C⟩ := Cn
    have D_Question : Nonempty (K.ObQuestion (L2.KOf KX) mg) := by
      dsimp only [L2.KOf]
      refine' K.obQuestion_mk (mc___init__ := .type "type") KX G ?a ?pg ?hd ?po ?sa ?mk ?kc ?a___init__ ?i___init__ ?l___init__ ?c___init__ ?k___init__ ?ga ?rd___init__ ?fc___init__
      (case a => k_is)
      (case pg => k_is)
      (case hd => k_is)
      (case po => k_is)
      (case sa => k_is)
      (case mk => k_is)
      (case kc => k_is)
      (case a___init__ => k_is)
      (case i___init__ => k_is)
      (case l___init__ => k_is)
      (case c___init__ => k_is)
      (case k___init__ => k_is)
      (case ga => k_is)
      (case fc___init__ => k_is)
      (case rd___init__ => k_is)
    obtain ⟨D_Question⟩ := D_Question
    have D_Rounds : Nonempty (K.ObRounds (L2.KOf KX) mg) := by
      dsimp only [L2.KOf]
      refine' K.obRounds_mk KX G ?a ?pg ?hd ?po ?sa ?mk ?kc ?n_graph ?n_leaf ?n_whole ?n_costs ?a___init__ ?i___init__ ?l___init__ ?c___init__ ?k___init__ ?t___init__ ?aq_Question ?iq_Question
      (case a => k_is)
      (case pg => k_is)
      (case hd => k_is)
      (case po => k_is)
      (case sa => k_is)
      (case mk => k_is)
      (case kc => k_is)
      (case n_graph => k_is)
      (case n_leaf => k_is)
      (case n_whole => k_is)
      (case n_costs => k_is)
      (case a___init__ => k_is)
      (case i___init__ => k_is)
      (case l___init__ => k_is)
      (case c___init__ => k_is)
      (case k___init__ => k_is)
      (case t___init__ => k_is)
      (case aq_Question => k_is)
      (case iq_Question => exact ⟨by k_is, by k_is, by k_is, by first | k_is | kernel_rfl!, by first | k_is | kernel_rfl!⟩)
    obtain ⟨D_Rounds⟩ := D_Rounds
    have Ct : Nonempty (K.Cts mg) := by
      refine' K.cts_mk KX G ?aBEYOND_WEIGHTS ?aMOST_IN_A_BAG
      (case aBEYOND_WEIGHTS => k_is)
      (case aMOST_IN_A_BAG => k_is)
    obtain ⟨Ct⟩ := Ct
    exact L2.law_at hmg d_law fun base => K.ok_law B Bz C D_Question D_Rounds U Ct d_is_whole d_is_below d_weights_of d_costs_of d_is_set d_is_up d_row_fault d_place_fault d_tie_fault d_is_held d_apart_fault d_fault d_joint d_less d_bag_behind d_run d_fault_behind d_run_whole d_refuse_wide d_steps_of d_run_narrow d_tables d_trail d_answer d__law_cell d__law_mixed d__law_ties d__law_price d__law_other_kind d__law_refused d__law_kind d__law_along_refused d__law_spoiled d_law
  case S => exact fun K H a ns hl hO hS => ⟨a, ns, rfl, Lw.Scr.of hO hS, hl, fun _ => rfl⟩
  case C => exact fun _ _ _ _ z => z

